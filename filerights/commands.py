"""Commands: what the lines of a session tell to do."""

from filerights.aims import is_aim
from filerights.lines import read_deed, read_list
from filerights.lists import is_digits
from filerights.rights import is_rights
from filerights.words import is_name, is_path, split_words

NO_LETTERS = "-"


def command_of(line):
    """Return the command that any value is the line of, as a tuple of a word and what it is told, or None."""
    if not isinstance(line, str):
        return None
    if line.startswith("do "):
        deed = read_deed(line[3:])
        return None if deed is None else ("do", deed)
    words = split_words(line)
    if words is None or words[0] not in READERS:
        return None
    reader = READERS[words[0]]
    return reader(words)


def _begin(words):
    """Return the command with a dict from users to lists of groups."""
    members = {}
    for word in words[1:]:
        user, _, told = word.partition("=")
        groups = _names(told)
        if not is_name(user) or user in members or groups is None:
            return None
        members[user] = groups
    return ("begin", members) if members else None


def _put(words):
    """Return the command with kind, path, owner, group and digits."""
    if len(words) != 6:
        return None
    _, kind, path, owner, group, digits = words
    if kind not in ("file", "folder") or not is_path(path) or not is_name(owner) or not is_name(group):
        return None
    return tuple(words) if is_digits(digits) else None


def _rule(words):
    """Return the command with path and access list."""
    if len(words) != 3:
        return None
    word, path, told = words
    access = read_list(told)
    return None if access is None or not is_path(path) else (word, path, access)


def _alone(words):
    """Return the command that is told nothing."""
    return tuple(words) if len(words) == 1 else None


def _may(words):
    """Return the command with user, path and letters."""
    if len(words) != 4:
        return None
    word, user, path, told = words
    letters = _letters(told)
    return None if letters is None or not is_name(user) or not is_path(path) else (word, user, path, letters)


def _who(words):
    """Return the command with path and letters."""
    if len(words) != 3:
        return None
    word, path, told = words
    letters = _letters(told)
    return None if letters is None or not is_path(path) else (word, path, letters)


def _ever(words):
    """Return the command with a list of free users and a goal."""
    if len(words) < 2:
        return None
    word, told, *rest = words
    users, goal = _names(told), tuple(rest)
    return None if users is None or not is_aim(goal) else (word, users, goal)


def _teams(words):
    """Return the command with a goal."""
    word, *rest = words
    goal = tuple(rest)
    return (word, goal) if is_aim(goal) else None


READERS = {
    "begin": _begin,
    "put": _put,
    "rule": _rule,
    "undo": _alone,
    "tree": _alone,
    "may": _may,
    "who": _who,
    "ever": _ever,
    "teams": _teams,
}


def _names(text):
    """Return the list of the names between which one comma stands, or None if a text is not made so."""
    names = text.split(",")
    return names if all([is_name(name) for name in names]) else None


def _letters(text):
    """Return the letters for which a word stands, or None if it stands for none."""
    if text == NO_LETTERS:
        return ""
    return text if is_rights(text) else None
