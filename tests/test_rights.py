"""Rights: points [21], [22] and [23]."""

import itertools
import unittest

from filerights.errors import InvalidInteger, InvalidRights
from filerights.rights import Rights, as_rights, is_rights
from helpers import SIGNS, any_values, raised

TEXTS = ["", "x", "w", "wx", "r", "rx", "rw", "rwx"]
SETS = [set(text) for text in TEXTS]

OPERATORS = [
    (lambda one, other: one | other, lambda one, other: one | other),
    (lambda one, other: one & other, lambda one, other: one & other),
    (lambda one, other: one - other, lambda one, other: one - other),
    (lambda one, other: one ^ other, lambda one, other: one ^ other),
]


def is_letters(text):
    """Return True if a string is letters, told apart by another way than the program's."""
    return "".join(sorted(text)) in ["".join(sorted(good)) for good in TEXTS]


class RightsTest(unittest.TestCase):
    def same(self, rights, letters):
        self.assertIs(rights.__class__, Rights)
        self.assertEqual(set(rights.listed()), set(letters))
        self.assertEqual(rights.listed(), [letter for letter in "rwx" if letter in letters])

    def test_letters_in_any_order(self):
        for text in TEXTS:
            for signs in itertools.permutations(text):
                self.same(Rights("".join(signs)), text)
        self.same(Rights(), "")
        self.same(Rights(letters="xr"), "rx")

    def test_what_the_class_takes(self):
        for count in range(5):
            for signs in itertools.product("rwxa-R \n", repeat=count):
                text = "".join(signs)
                self.assertIs(is_rights(text), is_letters(text), text)
                if is_letters(text):
                    self.same(Rights(text), text)
                    self.same(as_rights(text), text)
                else:
                    self.refuses(text)

    def test_one_more_sign(self):
        for text, sign in itertools.product(TEXTS, SIGNS):
            for longer in (text + sign, sign + text):
                self.assertIs(is_rights(longer), sign in "rwx" and sign not in text, longer)
                if not is_rights(longer):
                    self.refuses(longer)

    def refuses(self, value):
        for call in (Rights, as_rights, Rights.of):
            error = raised(call, value)
            self.assertIs(error.__class__, InvalidRights)
            self.assertIs(error.value, value)

    def test_any_values(self):
        for value in any_values():
            good = isinstance(value, Rights) or isinstance(value, str) and is_letters(value)
            self.assertIs(is_rights(value), good, value)
            if not good:
                self.refuses(value)

    def test_rights_are_no_string_of_letters(self):
        for text in TEXTS:
            rights = Rights(text)
            error = raised(Rights, rights)
            self.assertIs(error.__class__, InvalidRights)
            self.assertIs(error.value, rights)
            self.same(as_rights(rights), text)

    def test_what_is_told_of_rights(self):
        for digit, text in enumerate(TEXTS):
            rights = Rights(text)
            self.assertEqual(rights.digit, digit)
            self.assertEqual(len(rights), len(text))
            self.assertIs(bool(rights), text != "")
            self.assertEqual(str(rights), "".join([sign if sign in text else "-" for sign in "rwx"]))
            self.assertIs(repr(rights).__class__, str)
            self.same(Rights.from_digit(digit), text)

    def test_listed_is_new_each_time(self):
        rights = Rights("rw")
        rights.listed().append("x")
        self.assertEqual(rights.listed(), ["r", "w"])

    def test_letters_in_rights(self):
        for text, value in itertools.product(TEXTS, any_values() + list("rwx") + TEXTS):
            good = isinstance(value, str) and len(value) == 1 and value in text
            self.assertIs(value in Rights(text), good)

    def test_all_pairs_under_each_operator(self):
        for (text, letters), (other_text, others) in itertools.product(zip(TEXTS, SETS), repeat=2):
            one, other = Rights(text), Rights(other_text)
            for of_rights, of_sets in OPERATORS:
                self.same(of_rights(one, other), of_sets(letters, others))
            self.assertIs(one.covers(other), letters >= others)
            self.assertIs(one == other, letters == others)
            self.assertIs(one != other, letters != others)
            self.same(one, text)
            self.same(other, other_text)

    def test_other_letters(self):
        for text, letters in zip(TEXTS, SETS):
            rights = Rights(text)
            self.same(~rights, {"r", "w", "x"} - letters)
            self.same(rights, text)

    def test_operators_in_place_make_new_rights(self):
        rights = first = Rights("rw")
        rights |= Rights("x")
        self.same(rights, "rwx")
        rights -= Rights("r")
        self.same(rights, "wx")
        self.same(first, "rw")

    def test_wrong_objects_on_the_right_side(self):
        calls = [of_rights for of_rights, _ in OPERATORS] + [lambda one, other: one.covers(other)]
        for value, call in itertools.product(any_values() + TEXTS, calls):
            if isinstance(value, Rights):
                continue
            rights = Rights("rw")
            error = raised(call, rights, value)
            self.assertIs(error.__class__, InvalidRights)
            self.assertIs(error.value, value)
            self.same(rights, "rw")

    def test_rights_equal_only_rights(self):
        for text, value in itertools.product(TEXTS, any_values() + TEXTS + list(range(8))):
            if not isinstance(value, Rights):
                self.assertIs(Rights(text) == value, False)
                self.assertIs(value == Rights(text), False)
                self.assertIs(Rights(text) != value, True)

    def test_of(self):
        self.same(Rights.of(), "")
        self.same(Rights.of(""), "")
        for text, other in itertools.product(TEXTS, repeat=2):
            self.same(Rights.of(text, Rights(other)), set(text) | set(other))
            self.same(Rights.of(Rights(text), other, "x"), set(text) | set(other) | {"x"})

    def test_of_tells_the_first_wrong_part(self):
        for value in any_values():
            if is_rights(value):
                continue
            for parts in ([value], ["r", Rights("w"), value], [value, None], ["x", value, "rr"]):
                error = raised(Rights.of, *parts)
                self.assertIs(error.__class__, InvalidRights)
                self.assertIs(error.value, value)

    def test_from_digit_takes_integers_from_0_to_7(self):
        self.same(Rights.from_digit(digit=5), "rx")
        for value in any_values() + [-1, 8, "5", 9]:
            if value.__class__ is int and 0 <= value <= 7:
                continue
            error = raised(Rights.from_digit, value)
            self.assertIs(error.__class__, InvalidInteger)
            self.assertIs(error.value, value)


if __name__ == "__main__":
    unittest.main()
