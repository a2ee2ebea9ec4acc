"""People: the users of a house, and the groups of each of them."""

from filerights.errors import InvalidPeople, TooMany, UnknownGroup, UnknownUser
from filerights.words import is_list, is_user_name

MOST_USERS = 6
MOST_GROUPS = 6


class People:
    """Users with their groups; it never changes."""

    def __init__(self, members):
        if not _are_users(members):
            raise InvalidPeople(members)
        for user in sorted(members):
            if not _are_groups(members[user]):
                raise InvalidPeople(members[user])
        self._held = {user: tuple(members[user]) for user in sorted(members)}
        self._groups = sorted({group for user in self._held for group in self._held[user]})
        if len(self._groups) > MOST_GROUPS:
            raise TooMany(len(self._groups))

    def users(self):
        """Return the list of all users."""
        return list(self._held)

    def groups(self):
        """Return the list of all groups."""
        return list(self._groups)

    def groups_of(self, user):
        """Return the list of the groups of a user, in the order in which they were given."""
        if user not in self:
            raise UnknownUser(user)
        return list(self._held[user])

    def first_group(self, user):
        """Return the group of a user that was given first."""
        return self.groups_of(user)[0]

    def members(self, group):
        """Return the list of the users that have a group."""
        if group not in self._groups:
            raise UnknownGroup(group)
        return [user for user in self._held if group in self._held[user]]

    def __contains__(self, value):
        return isinstance(value, str) and value in self._held

    def __len__(self):
        return len(self._held)

    def __eq__(self, other):
        return isinstance(other, People) and self._held == other._held

    def __repr__(self):
        return f"People({str(self._held)})"


def is_owner(people, value):
    """Return True if any value is what can own a node: a user, or root."""
    return value == "root" or value in people


def is_owner_group(people, value):
    """Return True if any value is what a node can have as its group: a group of users, or root."""
    return value == "root" or value in people.groups()


def _are_users(value):
    """Return True if any value is a dict, of a size that people can have, whose keys are names of users."""
    if not isinstance(value, dict) or not 1 <= len(value) <= MOST_USERS:
        return False
    return all([is_user_name(name) for name in value])


def _are_groups(value):
    """Return True if any value is a list of the groups of one user."""
    if not is_list(value) or not 1 <= len(value) <= MOST_GROUPS:
        return False
    return all([is_user_name(name) for name in value]) and len(value) == len(set(value))
