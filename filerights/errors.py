"""The exceptions: three bases, and each other class directly below one of them."""


class RightsError(ValueError):
    """An argument is invalid."""


class MissingError(KeyError):
    """Something is not there."""


class RefusedError(LookupError):
    """Something is refused."""


class InvalidInteger(RightsError):
    """The value is not an integer in the range that is asked."""

    def __init__(self, value):
        self.value = value


class InvalidName(RightsError):
    """The value is not a name, or one that cannot be had here."""

    def __init__(self, value):
        self.value = value


class InvalidPath(RightsError):
    """The value is not a path."""

    def __init__(self, value):
        self.value = value


class InvalidRights(RightsError):
    """The value is not rights."""

    def __init__(self, value):
        self.value = value


class InvalidDigits(RightsError):
    """The value is not three digits from 0 to 7."""

    def __init__(self, value):
        self.value = value


class InvalidList(RightsError):
    """The value is not an access list, or not the entries of one."""

    def __init__(self, value):
        self.value = value


class InvalidEntry(RightsError):
    """The value does not tell an entry, or a change of one."""

    def __init__(self, value):
        self.value = value


class InvalidPeople(RightsError):
    """The value is not people, or not what people are made from."""

    def __init__(self, value):
        self.value = value


class InvalidNode(RightsError):
    """The value is not a kind or a mark that a node can have."""

    def __init__(self, value):
        self.value = value


class InvalidHouse(RightsError):
    """The value is not a house."""

    def __init__(self, value):
        self.value = value


class InvalidContent(RightsError):
    """The value is not a content that the node can have."""

    def __init__(self, value):
        self.value = value


class InvalidDeed(RightsError):
    """The value is not a deed."""

    def __init__(self, value):
        self.value = value


class InvalidDeeds(RightsError):
    """The value is not a list of deeds, of changes or of lines."""

    def __init__(self, value):
        self.value = value


class InvalidScript(RightsError):
    """The value is not a script of making."""

    def __init__(self, value):
        self.value = value


class InvalidStart(RightsError):
    """The value is not a start of a script."""

    def __init__(self, value):
        self.value = value


class InvalidFree(RightsError):
    """The value is not a list of free users."""

    def __init__(self, value):
        self.value = value


class InvalidGoal(RightsError):
    """The value is not a goal."""

    def __init__(self, value):
        self.value = value


class InvalidGoals(RightsError):
    """The value is not a list of free users with goals."""

    def __init__(self, value):
        self.value = value


class InvalidKeeps(RightsError):
    """The value is not a list of what users keep."""

    def __init__(self, value):
        self.value = value


class InvalidText(RightsError):
    """The value is not a text that can be read."""

    def __init__(self, value):
        self.value = value


class InvalidLine(RightsError):
    """The line with this index cannot be read or executed."""

    def __init__(self, index):
        self.index = index


class InvalidCommand(RightsError):
    """The value is not a command of a session."""

    def __init__(self, value):
        self.value = value


class TooMany(RightsError):
    """So many are more than there may be."""

    def __init__(self, count):
        self.count = count


class Ground(RightsError):
    """The path belongs to the ground, which never changes."""

    def __init__(self, path):
        self.path = path


class UnknownUser(MissingError):
    """There is no such user."""

    def __init__(self, name):
        self.name = name


class UnknownGroup(MissingError):
    """There is no such group."""

    def __init__(self, name):
        self.name = name


class UnknownEntry(MissingError):
    """There is no such entry that can be left out."""

    def __init__(self, name):
        self.name = name


class Absent(MissingError):
    """There is nothing at the path."""

    def __init__(self, path):
        self.path = path


class Denied(RefusedError):
    """The user is not granted these letters at the path."""

    def __init__(self, path, letters):
        self.path = path
        self.letters = letters


class NotOwner(RefusedError):
    """The user does not own the node at the path."""

    def __init__(self, path):
        self.path = path


class Held(RefusedError):
    """A sticky folder holds the node at the path."""

    def __init__(self, path):
        self.path = path


class Taken(RefusedError):
    """There is a node at the path already."""

    def __init__(self, path):
        self.path = path


class NotFolder(RefusedError):
    """The node at the path is not a folder."""

    def __init__(self, path):
        self.path = path


class NotFile(RefusedError):
    """The node at the path is not a file."""

    def __init__(self, path):
        self.path = path


class NotEmpty(RefusedError):
    """The folder at the path has entries."""

    def __init__(self, path):
        self.path = path


class Inside(RefusedError):
    """The path is below the node that is moved there."""

    def __init__(self, path):
        self.path = path


class NotMember(RefusedError):
    """The user does not have this group."""

    def __init__(self, name):
        self.name = name


class DeedFailed(RefusedError):
    """The deed with this index is refused."""

    def __init__(self, index):
        self.index = index


class NothingToUndo(RefusedError):
    """No deed is kept that could be taken back."""


class Kept(RefusedError):
    """What users are to keep is not so at present."""

    def __init__(self, value):
        self.value = value
