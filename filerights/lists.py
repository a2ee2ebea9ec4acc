"""Access lists: the rights of an owner, a group, others, and of named users and groups, with a mask."""

from filerights.errors import InvalidDigits, InvalidEntry, InvalidList, InvalidName, InvalidRights
from filerights.errors import InvalidText, RightsError, TooMany, UnknownEntry
from filerights.rights import Rights, as_rights, is_rights
from filerights.words import is_user_name

MOST_NAMED = 6
PLAIN_KINDS = ("owner", "group", "mask", "other")
NAMED_KINDS = ("user", "named")
KIND_SIGNS = {"owner": "u", "user": "u", "group": "g", "named": "g", "mask": "m", "other": "o"}
PLAIN_SIGNS = {"u": "owner", "g": "group", "m": "mask", "o": "other"}
NAMED_SIGNS = {"u": "user", "g": "named"}


class AccessList:
    """The entries of a node, or the default list of a folder; it never changes.

    A list with a named entry always has a mask.
    """

    def __init__(self, owner, group, other, *, users=None, groups=None, mask=None):
        self._owner = as_rights(owner)
        self._group = as_rights(group)
        self._other = as_rights(other)
        self._users = _named_rights(users)
        self._groups = _named_rights(groups)
        self._mask = self._first_mask() if mask is None else as_rights(mask)

    def _first_mask(self):
        """Return the mask of a list that is told none, or None if it needs none."""
        named = list(self._users.values()) + list(self._groups.values())
        return Rights.of(self._group, *named) if named else None

    @classmethod
    def plain(cls, digits):
        """Return the list without named entries and mask that has the rights of three digits."""
        owner, group, other = _three_rights(digits)
        return cls(owner, group, other)

    @staticmethod
    def everything():
        """Return the list that gives all letters to everybody."""
        return AccessList("rwx", "rwx", "rwx")

    @classmethod
    def from_text(cls, text):
        """Return the list whose text this is."""
        if not isinstance(text, str):
            raise InvalidText(text)
        try:
            access = _assembled(_told_entries(text))
        except RightsError:
            raise InvalidText(text) from None
        # The entries were read loosely: only the text of a list comes back from the list.
        if str(access) != text:
            raise InvalidText(text)
        return access

    @property
    def owner(self):
        """The rights of the owner."""
        return self._owner

    @property
    def group(self):
        """The rights of the group."""
        return self._group

    @property
    def other(self):
        """The rights of the others."""
        return self._other

    @property
    def mask(self):
        """The mask, or None."""
        return self._mask

    @property
    def digits(self):
        """The digits of the owner, of the mask or else the group, and of the others."""
        return f"{self._owner.digit}{self._middle().digit}{self._other.digit}"

    def _middle(self):
        """Return the rights that the second digit stands for."""
        return self._group if self._mask is None else self._mask

    def users(self):
        """Return a dict from the named users to their rights."""
        return dict(self._users)

    def groups(self):
        """Return a dict from the named groups to their rights."""
        return dict(self._groups)

    def entries(self):
        """Return the list of all entries as tuples (kind, name, rights), in their order."""
        masks = [] if self._mask is None else [("mask", "", self._mask)]
        return (
            [("owner", "", self._owner)]
            + [("user", name, self._users[name]) for name in sorted(self._users)]
            + [("group", "", self._group)]
            + [("named", name, self._groups[name]) for name in sorted(self._groups)]
            + masks
            + [("other", "", self._other)]
        )

    def with_entry(self, kind, rights, *, name=""):
        """Return the list with other rights in an entry, which is put in if it is not there."""
        if not _is_entry(kind, name):
            raise InvalidEntry((kind, name))
        if not is_rights(rights):
            raise InvalidRights(rights)
        entries = self._by_entry()
        entries[(kind, name)] = rights
        if len(_named_in(entries, kind)) > MOST_NAMED:
            raise TooMany(MOST_NAMED + 1)
        return _assembled(entries)

    def without(self, kind, name):
        """Return the list without a named entry, or without the mask if it has no named entry."""
        entries = self._by_entry()
        kinds = NAMED_KINDS if self._users or self._groups else ("mask",)
        if not _is_entry(kind, name) or kind not in kinds or (kind, name) not in entries:
            raise UnknownEntry((kind, name))
        del entries[(kind, name)]
        return _assembled(entries)

    def with_digits(self, digits):
        """Return the list with the rights of three digits, the second one for the mask if there is one."""
        owner, middle, other = _three_rights(digits)
        return self._with_three(owner, middle, other)

    def narrowed(self, digits):
        """Return the list in which the three entries of the digits keep only the letters of the digits."""
        owner, middle, other = _three_rights(digits)
        return self._with_three(self._owner & owner, self._middle() & middle, self._other & other)

    def _with_three(self, owner, middle, other):
        """Return the list with other rights where its digits stand."""
        if self._mask is None:
            return AccessList(owner, middle, other)
        return AccessList(owner, self._group, other, users=self._users, groups=self._groups, mask=middle)

    def _by_entry(self):
        """Return a dict from (kind, name) to the rights of each entry."""
        return {(kind, name): rights for kind, name, rights in self.entries()}

    def __eq__(self, other):
        return isinstance(other, AccessList) and self.entries() == other.entries()

    def __len__(self):
        return len(self.entries())

    def __str__(self):
        return ",".join([f"{KIND_SIGNS[kind]}:{name}:{str(rights)}" for kind, name, rights in self.entries()])

    def __repr__(self):
        return f"AccessList({str(self)})"


def is_digits(value):
    """Return True if any value is a string of exactly three digits from 0 to 7."""
    return isinstance(value, str) and len(value) == 3 and all([digit in "01234567" for digit in value])


def without_letters(digits, umask):
    """Return the digits without the letters that the umask has in the same place."""
    kept = _three_rights(digits)
    lost = _three_rights(umask)
    return "".join([str((rights - gone).digit) for rights, gone in zip(kept, lost)])


def new_list(default, digits, umask):
    """Return the list of a new node in a folder with this default list, or None, by the digits and the umask."""
    if default is None:
        return AccessList.plain(without_letters(digits, umask))
    return default.narrowed(digits)


def _three_rights(digits):
    """Return the list of the rights that three digits stand for."""
    if not is_digits(digits):
        raise InvalidDigits(digits)
    return [Rights.from_digit(int(digit)) for digit in digits]


def _named_rights(value):
    """Return a copy of a dict of named entries, with its values as Rights."""
    if value is None:
        return {}
    if not isinstance(value, dict) or len(value) > MOST_NAMED:
        raise InvalidList(value)
    named = {}
    for name in _keys_in_order(value):
        if not is_user_name(name):
            raise InvalidName(name)
        named[name] = as_rights(value[name])
    return named


def _keys_in_order(value):
    """Return the keys of a dict in ascending order, those that are not strings first."""
    strings = [key for key in value if isinstance(key, str)]
    return sorted([key for key in value if not isinstance(key, str)]) + sorted(strings)


def _is_entry(kind, name):
    """Return True if some list has an entry by this kind and name, which are any values."""
    if not isinstance(kind, str) or not isinstance(name, str):
        return False
    if kind in NAMED_KINDS:
        return is_user_name(name)
    return kind in PLAIN_KINDS and name == ""


def _told_entries(text):
    """Return a dict from (kind, name) to the letters that a text tells, well formed or not."""
    entries = {}
    for word in text.split(","):
        sign, _, rest = word.partition(":")
        name, _, marks = rest.partition(":")
        kind = NAMED_SIGNS.get(sign) if name else PLAIN_SIGNS.get(sign)
        entries[(kind, name)] = marks.replace("-", "")
    return entries


def _named_in(entries, kind):
    """Return the part of a dict of entries that has this kind, by name."""
    return {name: entries[(word, name)] for word, name in entries if word == kind}


def _assembled(entries):
    """Return the list with the entries of a dict from (kind, name) to rights."""
    return AccessList(
        entries.get(("owner", "")),
        entries.get(("group", "")),
        entries.get(("other", "")),
        users=_named_in(entries, "user"),
        groups=_named_in(entries, "named"),
        mask=entries.get(("mask", "")),
    )
