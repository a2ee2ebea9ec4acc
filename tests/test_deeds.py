"""Which values are deeds, and rows of deeds."""

import unittest

from filerights.deeds import is_deed, run
from filerights.errors import Absent, DeedFailed, Denied, Ground, InvalidDeed, InvalidDeeds, InvalidHouse, NotOwner
from filerights.errors import Taken, UnknownUser
from filerights.house import House
from filerights.lists import AccessList
from filerights.people import People
from helpers import any_values, raised

ACCESS = AccessList("rwx", "r", "", users={"bob": "x"})
DEEDS = [
    ("ann", "read", "/a"), ("ann", "write", "/a", "x\ny"), ("ann", "write", "/", ""), ("ann", "file", "/a", "644"),
    ("ann", "folder", "/a/b", "777"), ("ann", "move", "/a", "/b"), ("ann", "move", "/", "/"), ("ann", "remove", "/tmp"),
    ("ann", "allow", "/a", ACCESS), ("ann", "default", "/a", ACCESS), ("ann", "default", "/a", None),
    ("ann", "mark", "/a", True, False), ("ann", "give", "/a", "staff"), ("ann", "give", "/a", "root"),
    ("ann", "umask", "000"), ("abcdefgh", "read", "/abcdefgh"),
]
# For each word, what can stand behind it, so that everything else is found to be wrong there.
PARTS = {
    "read": ["path"], "write": ["path", "content"], "file": ["path", "digits"], "folder": ["path", "digits"],
    "move": ["path", "path"], "remove": ["path"], "allow": ["path", "access"], "default": ["path", "default"],
    "mark": ["path", "mark", "mark"], "give": ["path", "group"], "umask": ["digits"],
}
GOOD = {
    "path": lambda value: value in ("/", "/home", "/home/ann"),
    "content": lambda value: isinstance(value, str),
    "digits": lambda value: value == "755",
    "access": lambda value: isinstance(value, AccessList),
    "default": lambda value: value is None or isinstance(value, AccessList),
    "mark": lambda value: value is True or value is False,
    "group": lambda value: isinstance(value, str) and value in (
        "a", "ann", "r", "rw", "xwr", "rr", "root", "owner", "user", "abcdefgh"),
}


class IsDeedTest(unittest.TestCase):
    def test_deeds(self):
        for deed in DEEDS:
            self.assertIs(is_deed(deed), True, deed)
            self.assertIs(is_deed(value=deed), True)

    def test_any_values(self):
        for value in any_values():
            self.assertIs(is_deed(value), False)

    def test_a_list_is_no_deed(self):
        for deed in DEEDS:
            self.assertIs(is_deed(list(deed)), False)
            self.assertIs(is_deed([deed]), False)
            self.assertIs(is_deed((deed,)), False)

    def test_longer_and_shorter_tuples(self):
        for deed in DEEDS:
            for count in range(len(deed)):
                self.assertIs(is_deed(deed[:count]), False)
            for value in (None, "", "/a", "644", True, ACCESS):
                self.assertIs(is_deed((*deed, value)), False)

    def test_other_users(self):
        for deed in DEEDS:
            for value in any_values() + ["abcdefghi", "Ann", "ann ", "a1"]:
                wanted = GOOD["group"](value) and value != "root"
                self.assertIs(is_deed((value, *deed[1:])), wanted, value)

    def test_other_words(self):
        for value in any_values() + ["Read", "rea", "list", "set_umask", ["read"], ("read",), "digits"]:
            self.assertIs(is_deed(("ann", value, "/a")), False)
            self.assertIs(is_deed(("ann", value, "000")), False)
        self.assertIs(is_deed(("ann", "remove", "/a")), True)

    def test_each_part_with_any_value(self):
        for deed in DEEDS:
            kinds = PARTS[deed[1]]
            for at, kind in enumerate(kinds):
                for value in any_values():
                    changed = (*deed[:at + 2], value, *deed[at + 3:])
                    self.assertIs(is_deed(changed), GOOD[kind](value), changed)

    def test_parts_that_differ_a_little(self):
        wrong = [
            ("ann", "read", "/a/"), ("ann", "read", "a"), ("ann", "read", ["/a"]), ("ann", "write", "/a", b"x"),
            ("ann", "write", "/a", None), ("ann", "file", "/a", "64"), ("ann", "file", "/a", "648"),
            ("ann", "file", "/a", 644), ("ann", "folder", "/a", "0777"), ("ann", "move", "/a", "b"),
            ("ann", "move", "/a//", "/b"), ("ann", "allow", "/a", None), ("ann", "allow", "/a", str(ACCESS)),
            ("ann", "default", "/a", False), ("ann", "default", "/a", ""), ("ann", "mark", "/a", 1, 0),
            ("ann", "mark", "/a", True, None), ("ann", "mark", "/a", True), ("ann", "give", "/a", None),
            ("ann", "give", "/a", "Staff"), ("ann", "umask", "8"), ("ann", "umask", "/a"), ("root", "read", "/a"),
            ("", "read", "/a"), ("ann", "umask"), ("ann",), ("read", "ann", "/a"),
        ]
        for value in wrong:
            self.assertIs(is_deed(value), False, value)


class RunTest(unittest.TestCase):
    def setUp(self):
        self.house = House(People({"ann": ["staff"], "bob": ["guests", "staff"]}))
        self.house.add("/lab", "folder", owner="ann", access=AccessList.plain("755"))

    def test_a_row(self):
        deeds = [
            ("ann", "file", "/lab/a", "666"), ("ann", "write", "/lab/a", "x"), ("bob", "read", "/lab/a"),
            ("bob", "umask", "077"), ("bob", "folder", "/tmp/b", "777"), ("ann", "read", "/lab/a"),
        ]
        self.assertEqual(run(self.house, deeds), [None, None, "x", None, None, "x"])
        self.assertEqual([self.house.paths(), str(self.house["/tmp/b"].access), self.house["/lab/a"].content],
                         [["/lab", "/lab/a", "/tmp/b"], "u::rwx,g::---,o::---", "x"])
        self.assertEqual(len(deeds), 6)

    def test_no_deeds(self):
        kept = self.house.state
        self.assertEqual([run(self.house, []), run(house=self.house, deeds=())], [[], []])
        self.assertIs(self.house.state, kept)

    def test_a_tuple_of_deeds_and_new_lists(self):
        deeds = (("bob", "read", "/lab/a"),)
        self.house.add("/lab/a", "file", content="x")
        first = run(self.house, deeds)
        first.append("y")
        self.assertEqual([run(self.house, deeds), type(first)], [["x"], list])

    def check_failed(self, deeds, index, cause):
        before, kept = self.house.copied(), self.house.state
        numbers = {path: node.number for path, node in self.house.walk()}
        error = raised(run, self.house, deeds)
        self.assertIs(type(error), DeedFailed)
        self.assertEqual([error.index, type(error.index)], [index, int])
        self.assertIs(type(error.__cause__), cause)
        self.assertEqual([self.house == before, self.house.state == kept], [True, True])
        self.assertEqual({path: node.number for path, node in self.house.walk()}, numbers)
        return error.__cause__

    def test_a_row_that_fails_in_the_middle(self):
        makes = [("ann", "file", "/lab/a", "666"), ("bob", "umask", "000"), ("ann", "mark", "/lab", True, True)]
        later = [("ann", "write", "/lab/a", "x")]
        cause = self.check_failed(makes + [("bob", "file", "/lab/b", "644")] + later, 3, Denied)
        self.assertEqual([cause.path, cause.letters], ["/lab", "wx"])
        self.check_failed([("bob", "read", "/lab/a")] + makes, 0, Absent)
        self.check_failed(makes + makes, 3, Taken)
        self.check_failed(makes + [("ann", "remove", "/tmp")], 3, Ground)
        self.check_failed(makes + [("cal", "umask", "000")], 3, UnknownUser)
        self.check_failed(makes[:1] + [("bob", "allow", "/lab/a", ACCESS)], 1, NotOwner)

    def test_it_can_go_on_behind_a_failed_row(self):
        self.check_failed([("ann", "file", "/lab/a", "666"), ("ann", "file", "/lab/a", "666")], 1, Taken)
        self.assertEqual(run(self.house, [("ann", "file", "/lab/a", "666")]), [None])
        self.assertEqual(self.house.paths(), ["/lab", "/lab/a"])

    def test_houses(self):
        for value in any_values():
            if not isinstance(value, House):
                error = raised(run, value, 1)
                self.assertIs(type(error), InvalidHouse)
                self.assertIs(error.value, value)

    def test_what_is_no_list(self):
        for value in any_values() + [{"ann": 1}, "ann read /a"]:
            if not isinstance(value, (list, tuple)):
                error = raised(run, self.house, value)
                self.assertIs(type(error), InvalidDeeds)
                self.assertIs(error.value, value)

    def test_what_is_no_deed(self):
        good, kept = ("ann", "file", "/lab/a", "666"), self.house.state
        for value in any_values() + [list(good), ("root", "read", "/a"), good + ("x",)]:
            for deeds in ([value], [good, value], [good, good, value, []], [good, value, good]):
                error = raised(run, self.house, deeds)
                self.assertIs(type(error), InvalidDeed)
                self.assertIs(error.value, value)
                self.assertIs(self.house.state, kept)


if __name__ == "__main__":
    unittest.main()
