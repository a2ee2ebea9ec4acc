"""The examples of the document, as they stand there."""

import unittest

from filerights.deeds import do, is_deed, run
from filerights.house import House, lacking, letters_at, may, who_may
from filerights.judge import Judge
from filerights.lists import AccessList, is_digits, without_letters
from filerights.people import People
from filerights.rights import Rights, as_rights, is_rights
from filerights.words import above, is_below, is_integer, is_list, is_name, is_path, joined, parse_integer
from filerights.words import parts_of, split_words
from helpers import shown

NAMES = {
    tool.__name__: tool for tool in (
        AccessList, House, Judge, People, Rights, above, as_rights, do, is_below, is_deed, is_digits, is_integer, is_list,
        is_name, is_path, is_rights, joined, lacking, letters_at, may, parse_integer, parts_of, run, split_words,
        who_may, without_letters,
    )
}

POINT_13 = """
    >>> [parts_of("/home/ann"), joined("/", "tmp", "a"), above("/home/ann"), above("/home"), above("/")]
    [['home', 'ann'], '/tmp/a', '/home', '/', None]
    >>> [is_path("/home/"), is_path("//"), is_below("/home/ann", "/home"), is_below("/homes", "/home"), is_below("/a", "/a")]
    [False, False, True, False, False]
"""

POINT_14 = """
    >>> [parse_integer("07"), parse_integer("39", high=38), split_words("a b+c", separator="+"), split_words("a  b")]
    [None, None, ['a b', 'c'], None]
"""

POINT_23 = """
    >>> [str(Rights("xr")), str(~Rights("w")), Rights("rw").digit, Rights("xw").listed(), "w" in Rights("rw"), "rw" in Rights("rw")]
    ['r-x', 'r-x', 6, ['w', 'x'], True, False]
    >>> [Rights("rw").covers(Rights("r")), Rights("rw") - Rights("wx") == Rights("r"), str(Rights.of("r", Rights("x"))), bool(Rights())]
    [True, True, 'r-x', False]
"""

POINT_35 = """
    >>> access = AccessList("rwx", "r", "", users={"ann": "rw"})
    >>> [str(access), access.digits, str(access.with_digits("640")), access.narrowed("705").digits, str(access.without("user", "ann"))]
    ['u::rwx,u:ann:rw-,g::r--,m::rw-,o::---', '760', 'u::rw-,u:ann:rw-,g::r--,m::r--,o::---', '700', 'u::rwx,g::r--,m::rw-,o::---']
    >>> [AccessList.from_text(str(access)) == access, AccessList.plain("750") == AccessList("rwx", "rx", ""), without_letters("666", "027")]
    [True, True, '640']
"""

POINT_44 = """
    >>> people = People({"ann": ["staff", "chess"], "bob": ["staff"]})
    >>> judge, access = Judge(people), AccessList("rwx", "rw", "x", groups={"chess": "x"})
    >>> [judge("ann", "root", "staff", access, "rw"), judge("ann", "root", "staff", access, "wx"), judge("ann", "root", "staff", access, "")]
    [True, False, True]
    >>> [judge.deciding("ann", "root", "staff", access, "wx"), judge.deciding("ann", "root", "staff", access, "x")]
    [(False, [('group', ''), ('named', 'chess')]), (True, [('named', 'chess')])]
    >>> [str(judge.letters_of("ann", "root", "staff", access)), judge("bob", "bob", "staff", AccessList.plain("077"), "r")]
    ['rwx', False]
"""

POINT_55 = """
    >>> house = House(People({"ann": ["staff"], "bob": ["guests", "staff"]}))
    >>> house.add("/lab", "folder", owner="ann", group="staff", access=AccessList.plain("750"))
    >>> house.add("/lab/plan", "file", owner="ann", group="guests", access=AccessList("rw", "r", ""), content="north")
    >>> [may(house, "bob", "/lab/plan", "r"), who_may(house, "/lab", "w"), lacking(house, "bob", "/lab/plan/old"), len(house), house.umask_of("bob")]
    [True, ['ann'], ('/lab/plan', 'file'), 2, '022']
    >>> house["/lab"] = AccessList.plain("700")
    >>> [lacking(house, "bob", "/lab/plan"), str(letters_at(house, "ann", "/lab/plan")), [path for path, node in house.walk("/lab")]]
    [('/lab', 'x'), 'rw-', ['/lab', '/lab/plan']]
"""

POINT_62 = """
    >>> house = House(People({"ann": ["staff"], "bob": ["guests", "staff"]}))
    >>> [do(house, ("ann", "folder", "/tmp/lab", "777")), do(house, ("ann", "mark", "/tmp/lab", False, True))]
    [None, None]
    >>> do(house, ("bob", "file", "/tmp/lab/plan", "666"))
    raises Denied('/tmp/lab', 'wx')
    >>> [str(house["/tmp/lab"].access), house.umask_of("bob")]
    ['u::rwx,g::r-x,o::r-x', '022']
"""


class ExamplesTest(unittest.TestCase):
    def check(self, text, count):
        rows = shown(text, dict(NAMES))
        self.assertEqual(len(rows), count)
        for found, told in rows:
            self.assertEqual(found, told)

    def test_point_13(self):
        self.check(POINT_13, 2)

    def test_point_14(self):
        self.check(POINT_14, 1)

    def test_point_23(self):
        self.check(POINT_23, 2)

    def test_point_35(self):
        self.check(POINT_35, 3)

    def test_point_44(self):
        self.check(POINT_44, 5)

    def test_point_55(self):
        self.check(POINT_55, 6)

    def test_point_62(self):
        self.check(POINT_62, 4)

    def test_the_runner_sees_what_differs(self):
        rows = shown(">>> 1 + 1\n3\n>>> above('a')\nraises InvalidPath('a')", dict(NAMES))
        self.assertEqual(rows, [("2", "3"), ("raises InvalidPath('a')", "raises InvalidPath('a')")])


if __name__ == "__main__":
    unittest.main()
