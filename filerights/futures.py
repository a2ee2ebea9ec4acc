"""Futures: what free users can ever bring about, while all other users stay still."""

from filerights.aims import PATH_AIMS, USER_AIMS, check_free, is_aim_of
from filerights.errors import InvalidGoal, InvalidPath, InvalidRights, UnknownUser
from filerights.house import GROUND
from filerights.rights import is_rights
from filerights.tables import KINDS, Present, Table, least_table
from filerights.words import is_list, is_path


class Future:
    """What free users can bring about, from a house as it was when this object was made."""

    def __init__(self, house, free):
        check_free(house, free)
        self._present = Present(house, free)
        self._least = least_table(self._present)

    @property
    def free(self):
        """The ascending list of the free users."""
        return list(self._present.actors)

    def reaches(self, user, path):
        """Return True if a free user comes to the node at a path."""
        self._check(user, path)
        return self._least.comes(user, path)

    def can(self, user, path, letters):
        """Return True if a free user comes to the node at a path and can have the letters there."""
        self._check(user, path)
        if not is_rights(letters):
            raise InvalidRights(letters)
        return self._least.comes(user, path) and self._least.gets(user, path, letters)

    def takes(self, user, path):
        """Return True if a free user takes the node at a path."""
        self._check(user, path)
        return path in self._present.nodes and self._least.takes(user, path)

    def opened(self):
        """Return the ascending list of the paths of the nodes that are opened."""
        return self.table()["opened"]

    def away(self):
        """Return the ascending list of the paths of the nodes that go away."""
        return self.table()["away"]

    def table(self):
        """Return the least table as a dict of ascending lists."""
        return self._least.listed()

    def is_so(self, goal):
        """Return True if some row of deeds meets a goal."""
        if not is_aim_of(self._present.home.people, self._present.actors, goal):
            raise InvalidGoal(goal)
        return self._least.says(goal)

    def each_goal(self):
        """Yield the goals about present nodes that some row of deeds meets."""
        others = [user for user in self._present.home.people.users() if user not in self._present.actors]
        for path in self._present.home.paths():
            aims = [(word, path) for word in PATH_AIMS]
            aims = aims + [(word, user, path) for user in others for word in USER_AIMS]
            for aim in aims:
                if self._least.says(aim):
                    yield aim

    def _check(self, user, path):
        """Raise an error if this is not a free user, or not a path."""
        if user not in self._present.actors:
            raise UnknownUser(user)
        if not is_path(path):
            raise InvalidPath(path)


def is_closed(house, free, table):
    """Return True if any value is a closed table, as a dict, for a house and its free users."""
    check_free(house, free)
    return closed_table(Present(house, free), table) is not None


def closed_table(present, value):
    """Return the closed table that any value tells as a dict, or None if it tells none."""
    if not isinstance(value, dict) or len(value) != len(KINDS):
        return None
    for kind in KINDS:
        if kind not in value or not is_list(value[kind]):
            return None
    if not all([_is_pair(present, pair) for pair in value["reach"]]):
        return None
    if not all([_is_place(present, path) for path in list(value["opened"]) + list(value["away"])]):
        return None
    table = Table(present, value)
    return None if any([table.missing(path) for path in present.nodes]) else table


def _is_pair(present, value):
    """Return True if any value is a tuple of a free user and the path of a node."""
    if not isinstance(value, tuple) or len(value) != 2:
        return False
    user, path = value
    return user in present.actors and isinstance(path, str) and path in present.nodes


def _is_place(present, value):
    """Return True if any value is the path of a node besides the ground."""
    return isinstance(value, str) and value in present.nodes and value not in GROUND
