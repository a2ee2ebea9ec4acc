"""Houses: trees of folders and files that the administrator changes, and who reaches what in them."""

from filerights.errors import Absent, Ground, Inside, InvalidContent, InvalidDigits, InvalidHouse, InvalidList
from filerights.errors import InvalidNode, InvalidPath, InvalidPeople, NotFile, NotFolder, Taken
from filerights.errors import UnknownGroup, UnknownUser
from filerights.lists import AccessList, is_digits
from filerights.people import People, is_owner, is_owner_group
from filerights.rights import Rights, as_digit
from filerights.states import State
from filerights.words import folder_of, is_below, is_path, joined, parts_of

GROUND = ("/", "/tmp")
FIRST_UMASK = "022"
FOLDER_DIGITS = "755"
FILE_DIGITS = "644"


class Node:
    """A folder or a file as it is when it is asked for; it never changes.

    The facts are a dict with all that its properties tell, other than the number. What a state of the house found out
    about it is kept in granting.
    """

    def __init__(self, number, facts):
        self.granting = {}
        self._number = number
        self._facts = dict(facts)

    def with_facts(self, facts):
        """Return the node, of the same number, with other facts."""
        return Node(self._number, {**self._facts, **facts})

    @property
    def kind(self):
        """The word folder or file."""
        return self._facts["kind"]

    @property
    def owner(self):
        """The owner, a user or root."""
        return self._facts["owner"]

    @property
    def group(self):
        """The group, one of users or root."""
        return self._facts["group"]

    @property
    def access(self):
        """The access list."""
        return self._facts["access"]

    @property
    def sticky(self):
        """True for a sticky folder."""
        return self._facts["sticky"]

    @property
    def passes(self):
        """True for a folder that passes its group on."""
        return self._facts["passes"]

    @property
    def default(self):
        """The default list of a folder, or None."""
        return self._facts["default"]

    @property
    def content(self):
        """The content of a file, and the empty string for a folder."""
        return self._facts["content"]

    @property
    def number(self):
        """The number, which no other node of the house has or had."""
        return self._number

    def __eq__(self, other):
        return isinstance(other, Node) and self._facts == other._facts

    def __repr__(self):
        return f"Node({self._number}, {str(self._facts)})"


class House:
    """The nodes at their paths and the umasks of the users, which the administrator changes.

    A change puts another state in the place of the present one, so a state that is kept stays what it is.
    """

    def __init__(self, people):
        if not isinstance(people, People):
            raise InvalidPeople(people)
        self._people = people
        umasks = {user: FIRST_UMASK for user in people.users()}
        top = _new_node(0, "folder", "root", "root", AccessList.plain("555"))
        shared = _new_node(1, "folder", "root", "root", AccessList.everything()).with_facts({"sticky": True})
        self.state = State(people, len(GROUND), umasks, {"/": top, "/tmp": shared})

    @property
    def people(self):
        """The users and groups of the house."""
        return self._people

    def __getitem__(self, path):
        self._check_there(path)
        return self.state.nodes[path]

    def __setitem__(self, path, access):
        self._check_change(path)
        if not isinstance(access, AccessList):
            raise InvalidList(access)
        self._renew(path, {"access": access})

    def __iter__(self):
        raise TypeError("a house is walked, or asked for its paths")

    def __contains__(self, value):
        return isinstance(value, str) and value in self.state.nodes

    def __len__(self):
        return len(self.paths())

    def __eq__(self, other):
        if not isinstance(other, House) or self._people != other._people:
            return False
        # Numbers do not count: neither those of the nodes nor the next one.
        return self.state.umasks == other.state.umasks and self.state.nodes == other.state.nodes

    def __repr__(self):
        return f"House({self.paths()})"

    def paths(self):
        """Return the list of the paths of all nodes besides the ground."""
        return sorted([path for path in self.state.nodes if path not in GROUND])

    def names_in(self, path):
        """Return the list of the names of the entries of a folder."""
        if self[path].kind != "folder":
            raise NotFolder(path)
        return [parts_of(place)[-1] for place in self._within(path) if folder_of(place) == path]

    def walk(self, path="/"):
        """Yield (path, Node) for the node at a path and for all nodes below it, as they are at the first step."""
        self._check_there(path)
        nodes = self.state.nodes
        for place in self._within(path):
            yield place, nodes[place]

    def copied(self):
        """Return an equal house, whose nodes have the same numbers."""
        house = House(self._people)
        house.restore(self.state)
        return house

    def restore(self, kept):
        """Make the house what it was when its state was this value."""
        self.state = kept

    def add(self, path, kind, *, owner="root", group="root", access=None, content=""):
        """Put a node in."""
        if not is_path(path):
            raise InvalidPath(path)
        self._check_free(path)
        if kind not in ("folder", "file"):
            raise InvalidNode(kind)
        self._check_owners(owner, group)
        _check_list(access)
        if not isinstance(content, str) or (kind == "folder" and content != ""):
            raise InvalidContent(content)
        if access is None:
            access = AccessList.plain(FOLDER_DIGITS if kind == "folder" else FILE_DIGITS)
        node = _new_node(self.state.following, kind, owner, group, access).with_facts({"content": content})
        self.state = self.state.with_new(path, node)

    def cut(self, path):
        """Take a node out, with all nodes below it."""
        self._check_change(path)
        nodes = dict(self.state.nodes)
        for place in self._within(path):
            del nodes[place]
        self.state = self.state.with_nodes(nodes)

    def shift(self, path, to):
        """Move a node, with all nodes below it, to another path."""
        for place in (path, to):
            if not is_path(place):
                raise InvalidPath(place)
        self._check_change(path)
        if is_below(to, path):
            raise Inside(to)
        self._check_free(to)
        nodes = dict(self.state.nodes)
        for place in self._within(path):
            nodes[to + place[len(path):]] = nodes.pop(place)
        self.state = self.state.with_nodes(nodes)

    def give(self, path, *, owner=None, group=None):
        """Give a node another owner, another group, or both."""
        self._check_change(path)
        node = self[path]
        new_owner = node.owner if owner is None else owner
        new_group = node.group if group is None else group
        self._check_owners(new_owner, new_group)
        self._renew(path, {"owner": new_owner, "group": new_group})

    def mark(self, path, *, sticky=None, passes=None):
        """Make a folder sticky or not, and make it pass its group on or not."""
        self._check_folder(path)
        facts = {}
        for word, value in (("sticky", sticky), ("passes", passes)):
            if value is not None:
                if not isinstance(value, bool):
                    raise InvalidNode(value)
                facts[word] = value
        self._renew(path, facts)

    def set_default(self, path, access):
        """Give a folder another default list, or none."""
        self._check_folder(path)
        _check_list(access)
        self._renew(path, {"default": access})

    def set_content(self, path, content):
        """Give a file another content."""
        self._check_change(path)
        if self[path].kind != "file":
            raise NotFile(path)
        if not isinstance(content, str):
            raise InvalidContent(content)
        self._renew(path, {"content": content})

    def set_umask(self, user, digits):
        """Give a user another umask."""
        if user not in self._people:
            raise UnknownUser(user)
        if not is_digits(digits):
            raise InvalidDigits(digits)
        self.state = self.state.with_umask(user, digits)

    def umask_of(self, user):
        """Return the umask of a user."""
        if user not in self._people:
            raise UnknownUser(user)
        return self.state.umasks[user]

    def _within(self, path):
        """Return the ascending list of the paths of the node at a path and of all nodes below it."""
        start = path if path == "/" else path + "/"
        return sorted([place for place in self.state.nodes if place == path or place.startswith(start)])

    def _renew(self, path, facts):
        """Give the node at a path other facts."""
        nodes = self.state.nodes
        self.state = self.state.with_nodes({**nodes, path: nodes[path].with_facts(facts)})

    def _check_there(self, path):
        """Raise an error if there is no node at a path."""
        if path not in self:
            if not is_path(path):
                raise InvalidPath(path)
            raise Absent(path)

    def _check_change(self, path):
        """Raise an error if there is no node at a path that can be changed."""
        self._check_there(path)
        if path in GROUND:
            raise Ground(path)

    def _check_folder(self, path):
        """Raise an error if there is no folder at a path that can be changed."""
        self._check_change(path)
        if self[path].kind != "folder":
            raise NotFolder(path)

    def _check_free(self, path):
        """Raise an error if no node can be put at a path."""
        if path in self:
            raise Taken(path)
        folder = folder_of(path)
        if self[folder].kind != "folder":
            raise NotFolder(folder)

    def _check_owners(self, owner, group):
        """Raise an error if these are not an owner and a group that a node can have."""
        if not is_owner(self._people, owner):
            raise UnknownUser(owner)
        if not is_owner_group(self._people, group):
            raise UnknownGroup(group)


def lacking(house, user, path):
    """Return None if a user reaches a node at a path, or else where their way ends, and why."""
    _check_asked(house, user)
    if path in house and house.state.reaches(user, path):
        return None
    place = "/"
    for name in parts_of(path):
        if house[place].kind == "file":
            return (place, "file")
        if not is_granted(house, user, place, "x"):
            return (place, "x")
        place = joined(place, name)
        if place not in house:
            return (place, "absent")
    return None


def may(house, user, path, letters):
    """Return True if a user reaches the node at a path and is granted the letters there, all together."""
    _check_asked(house, user)
    digit = _asked_digit(house, path, letters)
    return path in house.state.nodes and _may(house.state, user, path, digit)


def who_may(house, path, letters):
    """Return the list of the users who reach the node at a path and are granted the letters there."""
    check_house(house)
    digit = _asked_digit(house, path, letters)
    if path not in house.state.nodes:
        return []
    return [user for user in house.people.users() if _may(house.state, user, path, digit)]


def letters_at(house, user, path):
    """Return the rights of all letters that a user is granted one by one at a node, or None if they do not reach it."""
    if lacking(house, user, path) is not None:
        return None
    parts = [Rights.from_digit(digit) for digit in house.state.digits_for(user, path)]
    return Rights.of(*parts)


def is_granted(house, user, path, letters):
    """Return True if a user is granted letters at a node, whether they reach it or not."""
    return house.state.grants(user, path, as_digit(letters))


def _may(state, user, path, digit):
    """Return True if a user reaches a node that is there and is granted the letters of a digit there."""
    return state.reaches(user, path) and state.grants(user, path, digit)


def _new_node(number, kind, owner, group, access):
    """Return a node without marks, default list and content."""
    plain = {"sticky": False, "passes": False, "default": None, "content": ""}
    return Node(number, {"kind": kind, "owner": owner, "group": group, "access": access, **plain})


def _check_list(access):
    """Raise an error if this is neither an access list nor None."""
    if access is not None and not isinstance(access, AccessList):
        raise InvalidList(access)


def check_house(house):
    """Raise an error if this is not a house."""
    if not isinstance(house, House):
        raise InvalidHouse(house)


def _check_asked(house, user):
    """Raise an error if there is no such house, or no such user in it."""
    check_house(house)
    if user not in house.people:
        raise UnknownUser(user)


def _asked_digit(house, path, letters):
    """Return the digit of letters that are asked at a path; raise an error if these are not a path and rights."""
    if path not in house and not is_path(path):
        raise InvalidPath(path)
    return as_digit(letters)
