"""Texts: houses, rows of deeds and goals as texts, which can be read again."""

from filerights.aims import is_aim
from filerights.deeds import is_deed
from filerights.errors import InvalidDeed, InvalidDeeds, InvalidGoal, InvalidLine, InvalidText, MissingError
from filerights.errors import RefusedError, RightsError
from filerights.house import GROUND, House, check_house
from filerights.lines import MARKS, NO_LIST, deed_line, default_text, marks_text, read_content, read_deed, read_list
from filerights.lines import written
from filerights.lists import is_digits
from filerights.people import People
from filerights.words import is_list, split_words


def house_text(house):
    """Return the lines of a house: its users, and its nodes besides the ground."""
    check_house(house)
    people = house.people
    users = [" ".join(["user", user, house.umask_of(user)] + people.groups_of(user)) for user in people.users()]
    return "\n".join(users + [_node_line(path, node) for path, node in house.walk() if path not in GROUND])


def read_house(text):
    """Return a house with this text."""
    reader = HouseReader()
    for index, line in enumerate(_lines(text)):
        if not reader.take(line):
            raise InvalidLine(index)
    return reader.finished()


def deeds_text(deeds):
    """Return the lines of a list of deeds."""
    if not is_list(deeds):
        raise InvalidDeeds(deeds)
    for deed in deeds:
        if not is_deed(deed):
            raise InvalidDeed(deed)
    return "\n".join([deed_line(deed) for deed in deeds])


def read_deeds(text):
    """Return the list of deeds with this text."""
    deeds = []
    for index, line in enumerate(_lines(text) if text != "" else []):
        deed = read_deed(line)
        if deed is None:
            raise InvalidLine(index)
        deeds.append(deed)
    return deeds


def goal_text(goal):
    """Return the words of a goal, whatever users and nodes there are."""
    if not is_aim(goal):
        raise InvalidGoal(goal)
    return " ".join(list(goal))


def read_goal(text):
    """Return the goal with this text."""
    words = split_words(text)
    if words is None or not is_aim(tuple(words)):
        raise InvalidText(text)
    return tuple(words)


class HouseReader:
    """Takes the lines of a house one by one, and makes the house of them."""

    def __init__(self):
        self._members = {}
        self._umasks = {}
        self._house = None
        self._last = ""

    def take(self, line):
        """Take the next line, and return True, or return False if it is not one in its place."""
        if self._house is None and line.startswith("user "):
            return self._take_user(line)
        if not self._members:
            return False
        if self._house is None:
            self._house = self._begun()
        return self._take_node(line)

    def finished(self):
        """Return the house behind the last line."""
        return self._begun() if self._house is None else self._house

    def _begun(self):
        """Return a house for the users, without nodes besides the ground."""
        house = House(People(self._members))
        for user in self._umasks:
            house.set_umask(user, self._umasks[user])
        return house

    def _take_user(self, line):
        """Take the line of a user."""
        words = split_words(line)
        if words is None or len(words) < 4:
            return False
        _, user, umask, *groups = words
        if not is_digits(umask) or not all([user > other for other in self._members]):
            return False
        try:
            People({**self._members, user: groups})
        except RightsError:
            return False
        self._members[user] = groups
        self._umasks[user] = umask
        return True

    def _take_node(self, line):
        """Take the line of a node."""
        pieces = line.split(" ", 5)
        if len(pieces) < 6:
            return False
        kind, path, owner, group, told, rest = pieces
        access = read_list(told)
        facts = _folder_facts(rest) if kind == "folder" else _file_facts(rest)
        if access is None or facts is None or path <= self._last:
            return False
        content, sticky, passes, default = facts
        try:
            self._house.add(path, kind, owner=owner, group=group, access=access, content=content)
        except (RightsError, MissingError, RefusedError):
            return False
        if kind == "folder":
            self._house.mark(path, sticky=sticky, passes=passes)
            self._house.set_default(path, default)
        self._last = path
        return True


def _lines(text):
    """Return the list of the lines of a text."""
    if not isinstance(text, str):
        raise InvalidText(text)
    return text.split("\n")


def _node_line(path, node):
    """Return the line of a node."""
    words = [node.kind, path, node.owner, node.group, str(node.access)]
    if node.kind == "folder":
        return " ".join(words + [marks_text(node.sticky, node.passes), default_text(node.default)])
    return " ".join(words + [written(node.content)])


def _folder_facts(text):
    """Return the tuple (content, sticky, passes, default) that the end of a folder's line tells, or None."""
    marks, _, told = text.partition(" ")
    default = None if told == NO_LIST else read_list(told)
    if marks not in MARKS or (default is None and told != NO_LIST):
        return None
    sticky, passes = MARKS[marks]
    return ("", sticky, passes, default)


def _file_facts(text):
    """Return the tuple (content, sticky, passes, default) that the end of a file's line tells, or None."""
    content = read_content(text)
    return None if content is None else (content, False, False, None)
