"""Integers, names, paths, and the words of a text."""

from filerights.errors import InvalidName, InvalidPath

LONGEST_NAME = 8
MOST_DIGITS = 30


def is_integer(value, low, high):
    """Return True if any value is an integer from low to high."""
    return isinstance(value, int) and not isinstance(value, bool) and low <= value <= high


def is_name(value):
    """Return True if any value is a name, also root."""
    if not isinstance(value, str) or len(value) > LONGEST_NAME:
        return False
    return value.isascii() and value.isalpha() and value.islower()


def is_user_name(value):
    """Return True if any value is a name that a user, or a group of users, can have."""
    return is_name(value) and value != "root"


def is_list(value):
    """Return True if any value serves where a list is asked."""
    return isinstance(value, (list, tuple))


def is_path(value):
    """Return True if any value is a path, of any length."""
    if not isinstance(value, str) or not value.startswith("/"):
        return False
    if value == "/":
        return True
    letters = value.replace("/", "")
    if not letters.isascii() or not letters.isalpha() or not letters.islower():
        return False
    return all([1 <= len(part) <= LONGEST_NAME for part in value.split("/")[1:]])


def parts_of(path):
    """Return the list of the names of a path."""
    if not is_path(path):
        raise InvalidPath(path)
    if path == "/":
        return []
    return path.split("/")[1:]


def joined(path, *names):
    """Return the path with these names behind its parts."""
    parts = parts_of(path)
    for name in names:
        if not is_name(name):
            raise InvalidName(name)
    return "/" + "/".join(parts + list(names))


def above(path):
    """Return the path without its last part, and None for the ground folder."""
    if not is_path(path):
        raise InvalidPath(path)
    return folder_of(path)


def folder_of(path):
    """Return the path without its last part, and None for the ground folder; it surely is a path."""
    if path == "/":
        return None
    return path[:path.rfind("/")] or "/"


def is_below(path, other):
    """Return True if a path is longer than another one and begins with its parts."""
    parts = parts_of(path)
    start = parts_of(other)
    return len(parts) > len(start) and parts[:len(start)] == start


def parse_integer(text, *, low=0, high=999999):
    """Return the integer that a text represents, or None if it represents none from low to high."""
    if not isinstance(text, str) or len(text) > MOST_DIGITS:
        return None
    # Other scripts have digits, too, which isdigit alone would take.
    if not text.isascii() or not text.isdigit():
        return None
    if text.startswith("0") and text != "0":
        return None
    number = int(text)
    return number if low <= number <= high else None


def split_words(text, *, separator=" "):
    """Return the words between which exactly one separator stands, or None if a text is not made so."""
    if not isinstance(text, str) or "\n" in text:
        return None
    words = text.split(separator)
    # An empty word is a separator at an end, two in a row, or no text at all.
    return None if "" in words else words
