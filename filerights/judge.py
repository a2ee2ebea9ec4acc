"""The judge: who is granted letters at a node."""

from filerights.errors import InvalidList, InvalidPeople, UnknownGroup, UnknownUser
from filerights.lists import AccessList
from filerights.people import People, is_owner, is_owner_group
from filerights.rights import Rights, as_rights


class Judge:
    """Decides for some people who is granted letters at a node."""

    def __init__(self, people):
        if not isinstance(people, People):
            raise InvalidPeople(people)
        self._people = people

    def __call__(self, user, owner, group, access, letters):
        granted, _ = self.deciding(user, owner, group, access, letters)
        return granted

    def deciding(self, user, owner, group, access, letters):
        """Return whether a user is granted letters, and the list of the entries (kind, name) that decide it."""
        self._check(user, owner, group, access)
        wanted = as_rights(letters)
        fitting = self._fitting(user, owner, group, access)
        granting = [(kind, name) for kind, name, rights in fitting if rights.covers(wanted)]
        if granting:
            return (True, granting)
        return (False, [(kind, name) for kind, name, rights in fitting])

    def letters_of(self, user, owner, group, access):
        """Return the rights of all letters that a user is granted one by one."""
        self._check(user, owner, group, access)
        parts = [rights for kind, name, rights in self._fitting(user, owner, group, access)]
        return Rights.of(*parts)

    def _check(self, user, owner, group, access):
        """Raise an error for the first of these that is not what it must be."""
        if user not in self._people:
            raise UnknownUser(user)
        if not is_owner(self._people, owner):
            raise UnknownUser(owner)
        if not is_owner_group(self._people, group):
            raise UnknownGroup(group)
        if not isinstance(access, AccessList):
            raise InvalidList(access)

    def _fitting(self, user, owner, group, access):
        """Return the entries (kind, name, rights) of the case that fits, with the letters that the mask leaves."""
        if user == owner:
            return [("owner", "", access.owner)]
        mask = Rights("rwx") if access.mask is None else access.mask
        named = access.users()
        if user in named:
            return [("user", user, named[user] & mask)]
        held = self._people.groups_of(user)
        fitting = []
        for kind, name, rights in access.entries():
            if (kind == "group" and group in held) or (kind == "named" and name in held):
                fitting.append((kind, name, rights & mask))
        return fitting if fitting else [("other", "", access.other)]
