"""The judge: who is granted letters at a node."""

from filerights.errors import InvalidList, InvalidPeople, UnknownGroup, UnknownUser
from filerights.lists import AccessList
from filerights.people import People, is_owner, is_owner_group
from filerights.rights import ALL_DIGIT, Rights, as_digit


class Judge:
    """Decides for some people who is granted letters at a node."""

    def __init__(self, people):
        if not isinstance(people, People):
            raise InvalidPeople(people)
        self._people = people

    def __call__(self, user, owner, group, access, letters):
        self._check(user, owner, group, access)
        wanted = as_digit(letters)
        return any([digit & wanted == wanted for digit in granting_digits(self._people, user, owner, group, access)])

    def deciding(self, user, owner, group, access, letters):
        """Return whether a user is granted letters, and the list of the entries (kind, name) that decide it."""
        self._check(user, owner, group, access)
        wanted = as_digit(letters)
        fitting = _fitting(self._people, user, owner, group, access)
        granting = [(kind, name) for kind, name, digit in fitting if digit & wanted == wanted]
        if granting:
            return (True, granting)
        return (False, [(kind, name) for kind, name, digit in fitting])

    def letters_of(self, user, owner, group, access):
        """Return the rights of all letters that a user is granted one by one."""
        self._check(user, owner, group, access)
        whole = 0
        for digit in granting_digits(self._people, user, owner, group, access):
            whole = whole | digit
        return Rights.from_digit(whole)

    def _check(self, user, owner, group, access):
        """Raise an error for the first of these that is not what it must be."""
        if user not in self._people:
            raise UnknownUser(user)
        if not is_owner(self._people, owner):
            raise UnknownUser(owner)
        if not is_owner_group(self._people, group):
            raise UnknownGroup(group)
        if not isinstance(access, AccessList):
            raise InvalidList(access)


def granting_digits(people, user, owner, group, access):
    """Return the tuple of the digits of the entries of the case that fits, with the letters that the mask leaves."""
    return tuple([digit for kind, name, digit in _fitting(people, user, owner, group, access)])


def _fitting(people, user, owner, group, access):
    """Return the entries (kind, name, digit) of the case that fits, with the letters that the mask leaves."""
    if user == owner:
        return [("owner", "", access.owner.digit)]
    mask = ALL_DIGIT if access.mask is None else access.mask.digit
    users = access.users()
    if user in users:
        return [("user", user, users[user].digit & mask)]
    held = people.groups_of(user)
    named = access.groups()
    fitting = [("group", "", access.group.digit & mask)] if group in held else []
    fitting = fitting + [("named", name, named[name].digit & mask) for name in sorted(named) if name in held]
    return fitting if fitting else [("other", "", access.other.digit)]
