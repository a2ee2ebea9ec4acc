"""Tables: the nodes to which free users come, which they open and which go away, and what these say of goals."""

from filerights.house import GROUND, is_granted, may
from filerights.words import folder_of, parts_of

KINDS = ("reach", "opened", "away")


class Present:
    """A house as it is at present, with the free users of a question; it never changes."""

    def __init__(self, house, free):
        self.home = house.copied()
        self.actors = sorted(free)
        self.nodes = dict(self.home.walk())
        self.folders = {path: folder_of(path) for path in self.nodes}

    def granted(self, user, path, letters):
        """Return True if a user is granted letters at a node, all together."""
        return is_granted(self.home, user, path, letters)

    def entries(self, path):
        """Return the ascending list of the paths of the entries of a folder."""
        return [place for place in self.nodes if self.folders[place] == path]

    def is_file(self, path):
        """Return True if there is a file at a path."""
        return path in self.nodes and self.nodes[path].kind == "file"


class Table:
    """Pairs (user, path) of free users who come to nodes, and paths of nodes that are opened and that go away.

    It answers as if all this could be brought about; that is so for a table that is the least one.
    """

    def __init__(self, present, told):
        self.present = present
        self._facts = {kind: {fact: True for fact in told[kind]} for kind in KINDS}

    def listed(self):
        """Return the table as a dict of ascending lists."""
        return {kind: sorted(self._facts[kind]) for kind in KINDS}

    def comes(self, user, path):
        """Return True if a free user comes to a node."""
        return (user, path) in self._facts["reach"]

    def is_opened(self, path):
        """Return True if a node is opened."""
        return path in self._facts["opened"]

    def is_away(self, path):
        """Return True if a node goes away."""
        return path in self._facts["away"]

    def gets(self, user, path, letters):
        """Return True if a user, free or not, can have letters at a node, all together."""
        return self.is_opened(path) or self.present.granted(user, path, letters)

    def walks(self, user, path):
        """Return True if a free user comes to a node through the folder above it, or because all do."""
        folder = self.present.folders[path]
        if folder is None or folder in GROUND:
            return True
        return self.comes(user, folder) and self.gets(user, folder, "x")

    def takes(self, user, path):
        """Return True if a free user takes a node from the folder above it."""
        folder = self.present.folders[path]
        if path in GROUND or folder == "/":
            return False
        if not self.comes(user, folder) or not self.gets(user, folder, "wx"):
            return False
        return self.is_opened(folder) or not self.is_held(user, path)

    def is_held(self, user, path):
        """Return True if the folder above a node is sticky at present, and a user owns neither of the two."""
        nodes, folder = self.present.nodes, self.present.folders[path]
        return nodes[folder].sticky and user not in (nodes[folder].owner, nodes[path].owner)

    def takers(self, path):
        """Return the list of the free users who take a node."""
        return [user for user in self.present.actors if self.takes(user, path)]

    def is_loose(self, path):
        """Return True if some free user takes a node."""
        return bool(self.takers(path))

    def is_lost(self, path):
        """Return True if a node is loose, and each entry of it goes away or is lost."""
        entries = self.present.entries(path)
        return self.is_loose(path) and all([self.is_away(entry) or self.is_lost(entry) for entry in entries])

    def missing(self, path):
        """Return the tuples (kind, fact) about a node that a closed table with all of this one has besides."""
        users = [user for user in self.present.actors if self.is_away(path) or self.walks(user, path)]
        asked = [("reach", (user, path)) for user in users]
        if self._must_open(path):
            asked.append(("opened", path))
        if self._must_go(path):
            asked.append(("away", path))
        return [(kind, fact) for kind, fact in asked if fact not in self._facts[kind]]

    def _must_open(self, path):
        """Return True if the owner of a node is a free user who comes to it."""
        return path not in GROUND and self.comes(self.present.nodes[path].owner, path)

    def _must_go(self, path):
        """Return True if a free user who takes a node can put it into another folder."""
        is_file = self.present.is_file(path)
        return any([is_file or self.gets(user, path, "w") for user in self.takers(path)])

    def grow(self, path):
        """Put in all that a closed table has for a node, which hangs only on what it has for the folder above it."""
        more = self.missing(path)
        while more:
            for kind, fact in more:
                self._facts[kind][fact] = True
            more = self.missing(path)

    def place(self, path):
        """Return the path of the first place of a way that decides what can be made, and why it does, or None.

        The place is a loose node, or where something is absent, or a file that is not at the end.
        """
        for place in ways(path):
            if place not in self.present.nodes:
                return (place, "absent")
            if self.is_loose(place):
                return (place, "loose")
            if place != path and self.present.is_file(place):
                return (place, "file")
        return None

    def users_with(self, path, letters):
        """Return the list of the free users who come to a node and can have letters there."""
        return [user for user in self.present.actors if self.comes(user, path) and self.gets(user, path, letters)]

    def opens(self, user, path):
        """Return True if a user gets x in all folders above a path."""
        return all([self.gets(user, folder, "x") for folder in ["/"] + ways(path)[:-1]])

    def says(self, goal):
        """Return True if this goal can be met."""
        word, *users, path = goal
        if word in ("read", "write"):
            return self.present.is_file(path) and bool(self.users_with(path, word[0]))
        if word == "gone":
            return path in self.present.nodes and any([self.is_loose(place) for place in ways(path)])
        if word == "lost":
            return path in self.present.nodes and self.is_lost(path)
        if word == "made":
            return self._is_made(path)
        if word == "led":
            return self._is_led(users[0], path)
        return self._is_shut(users[0], path)

    def _is_made(self, path):
        """Return True if something new can be put at a path."""
        found = self.place(path)
        if found is None:
            return False
        place, word = found
        return word == "loose" or (word == "absent" and bool(self.users_with(folder_of(place), "wx")))

    def _is_led(self, user, path):
        """Return True if a user can be led to read what is new at a path."""
        found = self.place(path)
        if found is not None:
            return self._is_made(path) and self.opens(user, found[0])
        if not self.present.is_file(path) or not self.opens(user, path):
            return False
        return self.gets(user, path, "r") and bool(self.users_with(path, "w"))

    def _is_shut(self, user, path):
        """Return True if a user can be kept from reading the file at a path, which they may read at present."""
        if not self.present.is_file(path) or not may(self.present.home, user, path, "r"):
            return False
        return any([self.is_loose(place) or self.is_opened(place) for place in ways(path)])


def ways(path):
    """Return the list of the paths on the way to a path, from the top, without the ground folder."""
    parts = parts_of(path)
    return ["/" + "/".join(parts[:count]) for count in range(1, len(parts) + 1)]


def least_table(present):
    """Return the least table of a house and its free users."""
    table = Table(present, {"reach": [], "opened": [], "away": []})
    for path in present.nodes:
        table.grow(path)
    return table
