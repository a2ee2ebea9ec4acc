"""Plans: rows of deeds that bring about what the least table of a house says."""

from filerights.lists import AccessList
from filerights.tables import ways
from filerights.words import folder_of, joined, parts_of

ALPHABET = "abcdefghijklmnopqrstuvwxyz"


class Plan:
    """A row of deeds of free users that grows; all that was brought about before stays so.

    Paths are those of present nodes in the present house. A node that goes away is moved into a refuge, a folder in
    /tmp that gives all letters to everybody, with a name that nothing else has.
    """

    def __init__(self, table, goal):
        self.row = []
        self._table = table
        self._present = table.present
        self._opened = {}
        self._moved = {}
        self._refuge = None
        # A new name neither takes the place of a node nor stands in the way of the goal.
        self._names = {name: True for path in list(self._present.nodes) + [goal[-1]] for name in parts_of(path)}

    def bring_about(self, goal):
        """Put in the deeds that meet a goal of which the least table says that it can be met."""
        word, *users, path = goal
        if word in ("read", "write"):
            self._use(word, path)
        elif word == "gone":
            self._rename(self._first_loose(path))
        elif word == "lost":
            self._lose(path)
        elif word == "made":
            self._make(path)
        elif word == "led":
            self._lead(users[0], path)
        else:
            self._shut(path)

    def _act(self, *deed):
        """Put in a deed."""
        self.row.append(deed)

    def _new_name(self):
        """Return a name that nothing has, nor will have."""
        number = 0
        while _name_of(number) in self._names:
            number += 1
        self._names[_name_of(number)] = True
        return _name_of(number)

    def _now(self, path):
        """Return the path to which a present node has come."""
        for place in ways(path)[::-1]:
            if place in self._moved:
                return self._moved[place] + path[len(place):]
        return path

    def _bring(self, user, path):
        """Let a free user reach a node to which they come."""
        folder = folder_of(path)
        if path in self._moved or folder in (None, "/", "/tmp"):
            return
        if self._table.walks(user, path):
            self._bring(user, folder)
            self._grant(user, folder, "x")
        else:
            self._put_away(path)

    def _grant(self, user, path, letters):
        """Let a user have letters at a node."""
        if not self._present.granted(user, path, letters):
            self._open_up(path)

    def _open_up(self, path):
        """Let a node give all letters to everybody, and not be sticky."""
        if path in self._opened:
            return
        self._opened[path] = True
        node = self._present.nodes[path]
        self._bring(node.owner, path)
        self._act(node.owner, "allow", self._now(path), AccessList.everything())
        if node.sticky:
            self._act(node.owner, "mark", self._now(path), False, node.passes)

    def _hold(self, user, path):
        """Let a free user who takes a node do so."""
        folder = folder_of(path)
        self._bring(user, folder)
        self._grant(user, folder, "wx")
        if self._table.is_held(user, path):
            self._open_up(folder)

    def _put_away(self, path):
        """Move a node that goes away into the refuge."""
        if path in self._moved:
            return
        user = self._mover(path)
        self._hold(user, path)
        refuge = self._made_refuge()
        to = joined(refuge, self._new_name())
        self._act(user, "move", self._now(path), to)
        self._moved[path] = to

    def _mover(self, path):
        """Return a free user who can move a node into another folder, which it must be opened for as a last resort."""
        takers = self._table.takers(path)
        for user in takers:
            if self._present.is_file(path) or self._present.granted(user, path, "w"):
                return user
        self._open_up(path)
        return takers[0]

    def _made_refuge(self):
        """Return the path of the refuge, which is made when it is needed first."""
        if self._refuge is None:
            self._refuge = joined("/tmp", self._new_name())
            user = self._present.actors[0]
            self._act(user, "folder", self._refuge, "777")
            self._act(user, "allow", self._refuge, AccessList.everything())
        return self._refuge

    def _first_loose(self, path):
        """Return the path of the first loose node on a way; none above it goes away, so it stays where it is."""
        return [place for place in ways(path) if self._table.is_loose(place)][0]

    def _rename(self, path):
        """Take the first loose node of a way from its path, and return the user who does so."""
        user = self._table.takers(path)[0]
        self._hold(user, path)
        self._act(user, "move", path, joined(folder_of(path), self._new_name()))
        return user

    def _use(self, word, path):
        """Let a file be read, or written."""
        user = self._table.users_with(path, word[0])[0]
        self._bring(user, path)
        self._grant(user, path, word[0])
        rest = ("",) if word == "write" else ()
        self._act(user, word, self._now(path), *rest)

    def _lose(self, path):
        """Let a node be taken out, with what is below it, as far as that does not go away."""
        for entry in self._present.entries(path):
            if self._table.is_away(entry):
                self._put_away(entry)
            else:
                self._lose(entry)
        user = self._table.takers(path)[0]
        if path not in self._moved:
            self._hold(user, path)
        self._act(user, "remove", self._now(path))

    def _make(self, path):
        """Let a new file be put at a path, with new folders above it where some are missing."""
        place, word = self._table.place(path)
        folder = folder_of(place)
        if word == "loose":
            user = self._rename(place)
        else:
            user = self._table.users_with(folder, "wx")[0]
            self._bring(user, folder)
            self._grant(user, folder, "wx")
        for way in ways(path):
            if len(way) >= len(place):
                kind, digits = ("file", "666") if way == path else ("folder", "777")
                self._act(user, kind, way, digits)
                self._act(user, "allow", way, AccessList.everything())

    def _lead(self, user, path):
        """Let a user read what is new at a path."""
        found = self._table.place(path)
        end = path if found is None else found[0]
        for folder in ["/"] + ways(end)[:-1]:
            self._grant(user, folder, "x")
        if found is None:
            self._grant(user, path, "r")
            self._use("write", path)
        else:
            self._make(path)

    def _shut(self, path):
        """Keep users who are not free from reading the file at a path."""
        for place in ways(path):
            if self._table.is_loose(place):
                self._rename(place)
                return
            if self._table.is_opened(place):
                owner = self._present.nodes[place].owner
                self._bring(owner, place)
                self._act(owner, "allow", place, AccessList("", "", ""))
                return


def _name_of(number):
    """Return the name with a number: one letter, then two, and so on."""
    name = ALPHABET[number % 26]
    while number >= 26:
        number = number // 26 - 1
        name = ALPHABET[number % 26] + name
    return name
