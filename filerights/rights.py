"""Rights: sets of the letters r, w and x."""

from filerights.errors import InvalidInteger, InvalidRights
from filerights.words import is_integer

LETTER_DIGITS = {"r": 4, "w": 2, "x": 1}
ALL_DIGIT = 7


class Rights:
    """A set of letters, which never changes."""

    def __init__(self, letters=""):
        if not _is_letters(letters):
            raise InvalidRights(letters)
        self._digit = sum([LETTER_DIGITS[letter] for letter in letters])

    @classmethod
    def of(cls, *parts):
        """Return the letters of all parts together, rights or strings of letters."""
        whole = cls()
        for part in parts:
            whole = whole | as_rights(part)
        return whole

    @classmethod
    def from_digit(cls, digit):
        """Return the rights with a digit from 0 to 7."""
        if not is_integer(digit, 0, ALL_DIGIT):
            raise InvalidInteger(digit)
        return cls(_letters_with(digit))

    @property
    def digit(self):
        """4 for r plus 2 for w plus 1 for x."""
        return self._digit

    def listed(self):
        """Return the list of the letters, in their order."""
        return list(_letters_with(self._digit))

    def covers(self, other):
        """Return True if these rights have all letters of the other ones."""
        digit = _digit_of(other)
        return self._digit & digit == digit

    def __or__(self, other):
        return Rights(_letters_with(self._digit | _digit_of(other)))

    def __and__(self, other):
        return Rights(_letters_with(self._digit & _digit_of(other)))

    def __sub__(self, other):
        return Rights(_letters_with(self._digit & ~_digit_of(other)))

    def __xor__(self, other):
        return Rights(_letters_with(self._digit ^ _digit_of(other)))

    def __invert__(self):
        return Rights(_letters_with(ALL_DIGIT - self._digit))

    def __eq__(self, other):
        return isinstance(other, Rights) and self._digit == other._digit

    def __contains__(self, value):
        return isinstance(value, str) and value in self.listed()

    def __len__(self):
        return len(self.listed())

    def __bool__(self):
        return bool(self._digit)

    def __str__(self):
        return "".join([letter if letter in self else "-" for letter in LETTER_DIGITS])

    def __repr__(self):
        return f"Rights({str(self)})"


def is_rights(value):
    """Return True if any value is a Rights object or a string of letters for one."""
    return isinstance(value, Rights) or _is_letters(value)


def as_rights(value):
    """Return the rights that a Rights object or a string of letters stands for."""
    return value if isinstance(value, Rights) else Rights(value)


def _is_letters(value):
    """Return True if any value is a string that contains each letter at most once, and nothing else."""
    if not isinstance(value, str):
        return False
    return len(value) == len(set(value)) and all([letter in LETTER_DIGITS for letter in value])


def _letters_with(digit):
    """Return the string of the letters that a digit stands for, in their order."""
    return "".join([letter for letter in LETTER_DIGITS if digit & LETTER_DIGITS[letter]])


def _digit_of(value):
    """Return the digit of what must be a Rights object; a string of letters does not serve."""
    if not isinstance(value, Rights):
        raise InvalidRights(value)
    return value.digit
