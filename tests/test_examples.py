"""The examples of the document, as they stand there."""

import unittest

from filerights.lists import AccessList, is_digits, without_letters
from filerights.rights import Rights, as_rights, is_rights
from filerights.words import above, is_below, is_integer, is_list, is_name, is_path, joined, parse_integer
from filerights.words import parts_of, split_words
from helpers import shown

NAMES = {
    tool.__name__: tool for tool in (
        AccessList, Rights, above, as_rights, is_below, is_digits, is_integer, is_list, is_name, is_path, is_rights,
        joined, parse_integer, parts_of, split_words, without_letters,
    )
}

POINT_13 = """
    >>> [parts_of("/home/ann"), joined("/", "tmp", "a"), above("/home/ann"), above("/home"), above("/")]
    [['home', 'ann'], '/tmp/a', '/home', '/', None]
    >>> [is_path("/home/"), is_path("//"), is_below("/home/ann", "/home"), is_below("/homes", "/home"), is_below("/a", "/a")]
    [False, False, True, False, False]
"""

POINT_14 = """
    >>> [parse_integer("07"), parse_integer("39", high=38), split_words("a b+c", separator="+"), split_words("a  b")]
    [None, None, ['a b', 'c'], None]
"""

POINT_23 = """
    >>> [str(Rights("xr")), str(~Rights("w")), Rights("rw").digit, Rights("xw").listed(), "w" in Rights("rw"), "rw" in Rights("rw")]
    ['r-x', 'r-x', 6, ['w', 'x'], True, False]
    >>> [Rights("rw").covers(Rights("r")), Rights("rw") - Rights("wx") == Rights("r"), str(Rights.of("r", Rights("x"))), bool(Rights())]
    [True, True, 'r-x', False]
"""

POINT_35 = """
    >>> access = AccessList("rwx", "r", "", users={"ann": "rw"})
    >>> [str(access), access.digits, str(access.with_digits("640")), access.narrowed("705").digits, str(access.without("user", "ann"))]
    ['u::rwx,u:ann:rw-,g::r--,m::rw-,o::---', '760', 'u::rw-,u:ann:rw-,g::r--,m::r--,o::---', '700', 'u::rwx,g::r--,m::rw-,o::---']
    >>> [AccessList.from_text(str(access)) == access, AccessList.plain("750") == AccessList("rwx", "rx", ""), without_letters("666", "027")]
    [True, True, '640']
"""


class ExamplesTest(unittest.TestCase):
    def check(self, text, count):
        rows = shown(text, dict(NAMES))
        self.assertEqual(len(rows), count)
        for found, told in rows:
            self.assertEqual(found, told)

    def test_point_13(self):
        self.check(POINT_13, 2)

    def test_point_14(self):
        self.check(POINT_14, 1)

    def test_point_23(self):
        self.check(POINT_23, 2)

    def test_point_35(self):
        self.check(POINT_35, 3)

    def test_the_runner_sees_what_differs(self):
        rows = shown(">>> 1 + 1\n3\n>>> above('a')\nraises InvalidPath('a')", dict(NAMES))
        self.assertEqual(rows, [("2", "3"), ("raises InvalidPath('a')", "raises InvalidPath('a')")])


if __name__ == "__main__":
    unittest.main()
