"""Seats, trials and histories: deeds of one user, deeds on trial, and deeds that can be taken back."""

from filerights.deeds import do, run
from filerights.errors import InvalidContent, InvalidDigits, InvalidList, InvalidName, InvalidNode, InvalidPath
from filerights.errors import NothingToUndo, UnknownUser
from filerights.house import check_house
from filerights.lists import AccessList, is_digits
from filerights.words import is_name, is_path


class Seat:
    """The place of one user at a house, who carries out deeds there."""

    def __init__(self, house, user):
        check_house(house)
        if user not in house.people:
            raise UnknownUser(user)
        self._house = house
        self._user = user

    @property
    def user(self):
        """The user."""
        return self._user

    @property
    def umask(self):
        """The umask that the user has now."""
        return self._house.umask_of(self._user)

    def read(self, path):
        """Read a file, and return its content."""
        _check_path(path)
        return self._carry_out("read", path)

    def write(self, path, content):
        """Give a file another content."""
        _check_path(path)
        if not isinstance(content, str):
            raise InvalidContent(content)
        self._carry_out("write", path, content)

    def file(self, path, *, mode="666"):
        """Make a file."""
        _check_path(path)
        _check_digits(mode)
        self._carry_out("file", path, mode)

    def folder(self, path, *, mode="777"):
        """Make a folder."""
        _check_path(path)
        _check_digits(mode)
        self._carry_out("folder", path, mode)

    def move(self, path, to):
        """Give a node, with all nodes below it, another path."""
        _check_path(path)
        _check_path(to)
        self._carry_out("move", path, to)

    def remove(self, path):
        """Take a node out."""
        _check_path(path)
        self._carry_out("remove", path)

    def allow(self, path, access):
        """Give a node another access list."""
        _check_path(path)
        if not isinstance(access, AccessList):
            raise InvalidList(access)
        self._carry_out("allow", path, access)

    def set_default(self, path, access):
        """Give a folder another default list, or none."""
        _check_path(path)
        if access is not None and not isinstance(access, AccessList):
            raise InvalidList(access)
        self._carry_out("default", path, access)

    def mark(self, path, *, sticky, passes):
        """Give a folder other marks."""
        _check_path(path)
        for value in (sticky, passes):
            if not isinstance(value, bool):
                raise InvalidNode(value)
        self._carry_out("mark", path, sticky, passes)

    def give(self, path, group):
        """Give a node another group."""
        _check_path(path)
        if not is_name(group):
            raise InvalidName(group)
        self._carry_out("give", path, group)

    def set_umask(self, digits):
        """Give the user another umask."""
        _check_digits(digits)
        self._carry_out("umask", digits)

    def _carry_out(self, word, *parts):
        """Carry out a deed of the user, and return what it returns."""
        return do(self._house, (self._user, word, *parts))


class Trial:
    """A house that is, when the block of a with statement is left, again what it was before."""

    def __init__(self, house):
        check_house(house)
        self._house = house
        self._kept = None

    def __enter__(self):
        self._kept = self._house.state
        return self._house

    def __exit__(self, kind, value, trace):
        house = self._house
        house.state = self._kept


class History:
    """The deeds that it carried out in a house, each with the state of the house before it."""

    def __init__(self, house):
        check_house(house)
        self._house = house
        self._rows = []

    def do(self, deed):
        """Carry out a deed, keep it, and return what it returns."""
        before = self._house.state
        answer = do(self._house, deed)
        self._rows.append((before, deed))
        return answer

    def undo(self):
        """Take back the last deed that was kept, and return it."""
        if not self._rows:
            raise NothingToUndo()
        before, deed = self._rows.pop()
        self._house.restore(before)
        return deed

    def deeds(self):
        """Return the list of the deeds that are kept, in order."""
        return [deed for before, deed in self._rows]

    def copied(self):
        """Return a history of the same house that keeps the same deeds."""
        history = History(self._house)
        history._rows = list(self._rows)
        return history

    def __len__(self):
        return len(self._rows)


def tried(house, deeds):
    """Return what run returns for a list of deeds, or raise what it raises; the house stays what it is."""
    with Trial(house) as same:
        return run(same, deeds)


def _check_path(path):
    """Raise an error if this is not a path."""
    if not is_path(path):
        raise InvalidPath(path)


def _check_digits(digits):
    """Raise an error if these are not three digits."""
    if not is_digits(digits):
        raise InvalidDigits(digits)
