"""Integers, names, paths and words: points [2], [12], [13] and [14]."""

import itertools
import unittest

from filerights.errors import InvalidName, InvalidPath
from filerights.words import above, is_below, is_integer, is_list, is_name, is_path, is_user_name, joined
from filerights.words import parse_integer, parts_of, split_words
from helpers import SIGNS, any_values, raised

NAMES = ["a", "z", "ann", "root", "tmp", "abcdefgh", "zzzzzzzz"]
PATHS = ["/", "/a", "/home", "/home/ann", "/root", "/a/a/a", "/abcdefgh/abcdefgh", "/a" * 20, "/abcdefgh" * 300]
NO_NAMES = [
    "", "abcdefghi", "Ann", "aNn", "a1", "1", "a_b", "a-b", "a b", " a", "a ", "a\n", "\na", "\n", "/", "/a", "\u00e4nn",
]
NO_PATHS = [
    "", "a", "a/b", "//", "/a/", "//a", "/a//b", "/A", "/a b", "/a/b1", "/a\n", "\n/a", "/\n", " /", "/ ", "/abcdefghi",
    "/a/abcdefghi", "/.", "/..", "/a/./b", "\\a",
]


class PredicatesTest(unittest.TestCase):
    def test_integers(self):
        for low, value, high in itertools.product(range(-3, 4), repeat=3):
            self.assertIs(is_integer(value, low, high), low <= value <= high)
        self.assertIs(is_integer(10 ** 29, 0, 10 ** 29), True)
        self.assertIs(is_integer(10 ** 29, 0, 10 ** 29 - 1), False)
        self.assertIs(is_integer(value=5, low=5, high=5), True)

    def test_integers_among_any_values(self):
        for value in any_values():
            wanted = isinstance(value, int) and value is not True and value is not False
            self.assertIs(is_integer(value, -(10 ** 30), 10 ** 30), wanted)

    def test_booleans_are_no_integers(self):
        for value in (True, False):
            self.assertIs(is_integer(value, 0, 1), False)

    def test_names(self):
        for name in NAMES:
            self.assertIs(is_name(name), True)
            self.assertIs(is_user_name(name), name != "root")
        for value in NO_NAMES:
            self.assertIs(is_name(value), False)
            self.assertIs(is_user_name(value), False)

    def test_names_sign_by_sign(self):
        for sign in SIGNS:
            good = "a" <= sign <= "z"
            for value in (sign, sign + "a", "a" + sign, "a" + sign + "a", sign + "bcdefgh", "abcdefg" + sign):
                self.assertIs(is_name(value), good, value)
            self.assertIs(is_name(sign + "abcdefgh"), False)
            self.assertIs(is_name("abcdefgh" + sign), False)

    def test_names_and_paths_among_any_values(self):
        good_names = ["r", "rw", "xwr", "rr", "a", "ann", "root", "abcdefgh", "owner", "user"]
        good_paths = ["/", "/home", "/home/ann"]
        for value in any_values():
            is_text = isinstance(value, str)
            self.assertIs(is_name(value), is_text and value in good_names, value)
            self.assertIs(is_path(value), is_text and value in good_paths, value)

    def test_paths(self):
        for path in PATHS:
            self.assertIs(is_path(path), True)
        for value in NO_PATHS:
            self.assertIs(is_path(value), False, value)

    def test_paths_part_by_part(self):
        for letter in ("\u00e9", "\u00df", "\u03b1", "A", "1", "_", " "):
            for path in (f"/{letter}", f"/a{letter}", f"/{letter}/b", f"/b/{letter}", f"/a/b{letter}c/d"):
                self.assertIs(is_path(path), False, path)
        for path in ("/abcdefgh/a", "/a/abcdefgh", "/a/b/abcdefgh/c"):
            self.assertIs(is_path(path), True)
            self.assertIs(is_path(path.replace("h", "hi")), False)

    def test_paths_with_one_more_sign(self):
        for path, sign in itertools.product(["/a", "/home/ann"], SIGNS):
            self.assertIs(is_path(sign + path), False, sign + path)
            self.assertIs(is_path(path + sign), "a" <= sign <= "z", path + sign)

    def test_paths_over_few_signs(self):
        for count in range(6):
            for signs in itertools.product("/a\n", repeat=count):
                text = "".join(signs)
                good = text == "/" or text[:1] == "/" and text[-1:] == "a" and "//" not in text and "\n" not in text
                self.assertIs(is_path(text), good, text)

    def test_lists(self):
        for value in any_values():
            self.assertIs(is_list(value), value.__class__ in (list, tuple))


class PathsTest(unittest.TestCase):
    def test_parts(self):
        self.assertEqual(parts_of("/"), [])
        self.assertEqual(parts_of("/a"), ["a"])
        self.assertEqual(parts_of("/home/ann/a"), ["home", "ann", "a"])
        self.assertEqual(parts_of(path="/abcdefgh" * 30), ["abcdefgh"] * 30)

    def test_parts_are_new_each_time(self):
        for path in PATHS:
            first = parts_of(path)
            first.append("x")
            self.assertNotEqual(parts_of(path), first)

    def test_joined(self):
        self.assertEqual(joined("/"), "/")
        self.assertEqual(joined("/a"), "/a")
        self.assertEqual(joined("/", "a"), "/a")
        self.assertEqual(joined("/a", "b", "root"), "/a/b/root")
        for path in PATHS:
            self.assertEqual(joined("/", *parts_of(path)), path)
            self.assertEqual(parts_of(joined(path, "x", "y")), parts_of(path) + ["x", "y"])

    def test_above(self):
        self.assertIsNone(above("/"))
        self.assertEqual(above(path="/a"), "/")
        for path in PATHS:
            self.assertEqual(above(joined(path, "x")), path)

    def test_below(self):
        paths = ["/", "/a", "/ab", "/a/b", "/a/bc", "/b/a", "/a/b/c", "/ab/b", "/b"]
        for path, other in itertools.product(paths, repeat=2):
            parts, start = parts_of(path), parts_of(other)
            wanted = len(parts) > len(start) and all([one == two for one, two in zip(parts, start)])
            self.assertIs(is_below(path, other), wanted, (path, other))
        self.assertIs(is_below(path="/a", other="/"), True)
        self.assertIs(is_below("/", "/"), False)

    def test_invalid_paths(self):
        for value in any_values() + NO_PATHS:
            if is_path(value):
                continue
            calls = [(parts_of,), (joined,), (joined, "a"), (joined, "A"), (above,), (is_below, "/"), (is_below, "b")]
            for call, *more in calls:
                error = raised(call, value, *more)
                self.assertIs(error.__class__, InvalidPath)
                self.assertIs(error.value, value)

    def test_joined_tells_the_first_thing_that_is_no_name(self):
        for value in any_values() + NO_NAMES:
            if is_name(value):
                continue
            for names in ([value], ["a", value], [value, "A"], ["a", value, None]):
                error = raised(joined, "/a", *names)
                self.assertIs(error.__class__, InvalidName)
                self.assertIs(error.value, value)

    def test_below_tells_the_second_path(self):
        for value in any_values() + NO_PATHS:
            if not is_path(value):
                error = raised(is_below, "/a", value)
                self.assertIs(error.__class__, InvalidPath)
                self.assertIs(error.value, value)


class WordsTest(unittest.TestCase):
    def test_integers_as_texts(self):
        for number in [*range(1200), 9999, 99999, 999999]:
            self.assertEqual(parse_integer(str(number)), number)
            self.assertIsNone(parse_integer("0" + str(number)))
            self.assertIsNone(parse_integer("-" + str(number), low=-9999999))
        self.assertIs(parse_integer("0").__class__, int)

    def test_bounds(self):
        for low, number, high in itertools.product(range(12), repeat=3):
            wanted = number if low <= number <= high else None
            self.assertEqual(parse_integer(str(number), low=low, high=high), wanted)
        self.assertIsNone(parse_integer("1000000"))
        self.assertEqual(parse_integer(text="0", low=-5), 0)
        self.assertEqual(parse_integer("1000000", high=1000000), 1000000)
        self.assertIsNone(parse_integer("4", low=5))

    def test_at_most_thirty_digits(self):
        self.assertEqual(parse_integer("9" * 30, high=10 ** 40), 10 ** 30 - 1)
        self.assertIsNone(parse_integer("1" + "0" * 30, high=10 ** 40))
        self.assertIsNone(parse_integer("1" * 4000, high=10 ** 40))

    def test_texts_that_are_no_integers(self):
        for sign in SIGNS:
            if not sign.isdigit():
                for text in (sign, sign + "1", "1" + sign, "1" + sign + "1"):
                    self.assertIsNone(parse_integer(text, low=-99), text)
        for value in any_values():
            wanted = int(value) if isinstance(value, str) and value in ("0", "7", "755") else None
            self.assertEqual(parse_integer(value), wanted)
        for text in ("1_000", "00", "+1", "1.0", "1e3", "0x1", "\u0661", "\u00b2"):
            self.assertIsNone(parse_integer(text), text)

    def test_bounds_by_name_only(self):
        self.assertRaises(TypeError, parse_integer, "1", 0)
        self.assertRaises(TypeError, split_words, "a", "+")

    def test_words(self):
        self.assertEqual(split_words("a"), ["a"])
        self.assertEqual(split_words("a b c"), ["a", "b", "c"])
        self.assertEqual(split_words(text="do /a =x", separator=" "), ["do", "/a", "=x"])
        self.assertEqual(split_words("a b", separator=","), ["a b"])
        self.assertEqual(split_words(" ", separator=","), [" "])
        self.assertEqual(split_words(" , ", separator=","), [" ", " "])
        self.assertEqual(split_words("a b " * 999 + "c"), ["a", "b"] * 999 + ["c"])

    def test_words_over_few_signs(self):
        for count in range(7):
            for signs in itertools.product("a +\n", repeat=count):
                text = "".join(signs)
                for separator in " +a":
                    self.assertEqual(split_words(text, separator=separator), self.words_by_hand(text, separator))

    def words_by_hand(self, text, separator):
        """Return the words, by going through the signs one by one."""
        words, word = [], ""
        for sign in text + separator:
            if sign == "\n" or sign == separator and word == "":
                return None
            if sign == separator:
                words, word = words + [word], ""
            else:
                word += sign
        return words

    def test_words_are_new_each_time(self):
        first = split_words("a b")
        first.append("c")
        self.assertEqual(split_words("a b"), ["a", "b"])

    def test_what_has_no_words(self):
        for value in any_values():
            if not isinstance(value, str):
                self.assertIsNone(split_words(value))
        for text in ("", " ", "a ", " a", "a  b", "a\n", "\na", "a\nb", "\n", "a \nb"):
            self.assertIsNone(split_words(text), text)


if __name__ == "__main__":
    unittest.main()
