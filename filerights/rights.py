"""Rights: sets of the letters r, w and x."""

from filerights.errors import InvalidInteger, InvalidRights
from filerights.words import is_integer

LETTERS = "rwx"
ALL_DIGIT = 7
# The digit of each string of letters, and the letters of each digit: rights are made too often to add them up.
DIGITS = {
    "": 0, "x": 1, "w": 2, "wx": 3, "xw": 3, "r": 4, "rx": 5, "xr": 5, "rw": 6, "wr": 6,
    "rwx": 7, "rxw": 7, "wrx": 7, "wxr": 7, "xrw": 7, "xwr": 7,
}
WORDS = ("", "x", "w", "wx", "r", "rx", "rw", "rwx")


class Rights:
    """A set of letters, which never changes."""

    def __init__(self, letters=""):
        if not _is_letters(letters):
            raise InvalidRights(letters)
        self._digit = DIGITS[letters]

    @classmethod
    def of(cls, *parts):
        """Return the letters of all parts together, rights or strings of letters."""
        whole = cls()
        for part in parts:
            whole = whole | as_rights(part)
        return whole

    @classmethod
    def from_digit(cls, digit):
        """Return the rights with a digit from 0 to 7."""
        if not is_integer(digit, 0, ALL_DIGIT):
            raise InvalidInteger(digit)
        return cls(WORDS[digit])

    @property
    def digit(self):
        """4 for r plus 2 for w plus 1 for x."""
        return self._digit

    def listed(self):
        """Return the list of the letters, in their order."""
        return list(WORDS[self._digit])

    def covers(self, other):
        """Return True if these rights have all letters of the other ones."""
        digit = _digit_of(other)
        return self._digit & digit == digit

    def __or__(self, other):
        return Rights(WORDS[self._digit | _digit_of(other)])

    def __and__(self, other):
        return Rights(WORDS[self._digit & _digit_of(other)])

    def __sub__(self, other):
        return Rights(WORDS[self._digit & ~_digit_of(other)])

    def __xor__(self, other):
        return Rights(WORDS[self._digit ^ _digit_of(other)])

    def __invert__(self):
        return Rights(WORDS[ALL_DIGIT - self._digit])

    def __eq__(self, other):
        return isinstance(other, Rights) and self._digit == other._digit

    def __contains__(self, value):
        return isinstance(value, str) and value in self.listed()

    def __len__(self):
        return len(self.listed())

    def __bool__(self):
        return bool(self._digit)

    def __str__(self):
        return "".join([letter if letter in self else "-" for letter in LETTERS])

    def __repr__(self):
        return f"Rights({str(self)})"


def is_rights(value):
    """Return True if any value is a Rights object or a string of letters for one."""
    return isinstance(value, Rights) or _is_letters(value)


def as_rights(value):
    """Return the rights that a Rights object or a string of letters stands for."""
    return value if isinstance(value, Rights) else Rights(value)


def as_digit(value):
    """Return the digit of the rights that a Rights object or a string of letters stands for."""
    if isinstance(value, Rights):
        return value.digit
    if not _is_letters(value):
        raise InvalidRights(value)
    return DIGITS[value]


def _is_letters(value):
    """Return True if any value is a string that contains each letter at most once, and nothing else."""
    return isinstance(value, str) and value in DIGITS


def _digit_of(value):
    """Return the digit of what must be a Rights object; a string of letters does not serve."""
    if not isinstance(value, Rights):
        raise InvalidRights(value)
    return value.digit
