"""Who reaches what in a house, and with which letters."""

import itertools
import unittest

from filerights.errors import InvalidHouse, InvalidPath, InvalidRights, UnknownUser
from filerights.house import House, lacking, letters_at, may, who_may
from filerights.judge import Judge
from filerights.lists import AccessList
from filerights.people import People
from filerights.rights import Rights, is_rights
from filerights.words import is_path
from helpers import any_values, raised

PEOPLE = People({"ann": ["staff"], "bob": ["guests", "staff"], "cal": ["guests"]})
LETTERS = ["", "r", "w", "x", "rw", "rx", "wx", "rwx"]


def filled():
    """Return a house with folders that are shut for some users, made anew."""
    house = House(PEOPLE)
    house.add("/lab", "folder", owner="ann", group="staff", access=AccessList.plain("710"))
    house.add("/lab/box", "folder", owner="bob", group="guests", access=AccessList.plain("170"))
    house.add("/lab/box/plan", "file", owner="ann", group="guests", access=AccessList("rw", "", "r", users={"bob": "w"}))
    house.add("/lab/plan", "file", owner="cal", group="staff", access=AccessList.plain("764"))
    house.add("/odd", "folder", owner="ann", access=AccessList("rw", "x", "rwx"))
    house.add("/odd/a", "file", access=AccessList.plain("666"))
    house.add("/shut", "folder", owner="cal", access=AccessList.plain("000"))
    return house


class LackingTest(unittest.TestCase):
    def check(self, user, wanted):
        house = filled()
        for path, told in wanted.items():
            self.assertEqual(lacking(house, user, path), told, path)
        self.assertEqual(house, filled())

    def test_a_way_that_goes_through(self):
        self.check("ann", {path: None for path in ("/", "/tmp", "/lab", "/lab/plan", "/lab/box", "/odd", "/shut")})
        self.check("bob", {path: None for path in ("/", "/lab/box/plan", "/odd/a", "/shut")})

    def test_something_is_absent(self):
        self.check("ann", {
            "/new": ("/new", "absent"), "/new/a/b": ("/new", "absent"), "/lab/new": ("/lab/new", "absent"),
            "/lab/new/x": ("/lab/new", "absent"), "/tmp/a": ("/tmp/a", "absent"),
        })

    def test_a_file_on_the_way(self):
        self.check("ann", {"/lab/plan/x": ("/lab/plan", "file"), "/lab/plan/x/y": ("/lab/plan", "file")})
        self.check("bob", {"/lab/box/plan/x": ("/lab/box/plan", "file")})

    def test_a_folder_without_x(self):
        self.check("cal", {"/lab/plan": ("/lab", "x"), "/lab/box/plan": ("/lab", "x"), "/lab": None})
        self.check("ann", {"/lab/box/plan": ("/lab/box", "x"), "/odd/a": ("/odd", "x"), "/odd": None})
        self.check("cal", {"/shut": None, "/shut/a": ("/shut", "x")})

    def test_a_folder_is_asked_before_its_entry_is_looked_for(self):
        self.check("cal", {"/lab/new": ("/lab", "x"), "/lab/new/x": ("/lab", "x"), "/lab/plan/x": ("/lab", "x")})
        self.check("ann", {"/lab/box/new": ("/lab/box", "x"), "/odd/new": ("/odd", "x")})

    def test_a_new_tuple(self):
        told = lacking(filled(), "ann", "/new")
        self.assertEqual([type(told), type(told[0]), type(told[1])], [tuple, str, str])
        self.assertEqual(lacking(house=filled(), user="ann", path="/new"), told)


class MayTest(unittest.TestCase):
    def test_all_nodes_against_the_sentences(self):
        house, judge = filled(), Judge(PEOPLE)
        for path, user in itertools.product(["/", "/tmp", *house.paths()], PEOPLE.users()):
            node = house[path]
            reached = lacking(house, user, path) is None
            for letters in LETTERS:
                granted = judge(user, node.owner, node.group, node.access, letters)
                for told in (letters, letters[::-1], Rights(letters)):
                    self.assertIs(may(house, user, path, told), reached and granted)
                    self.assertEqual(user in who_may(house, path, told), reached and granted)
            wanted = judge.letters_of(user, node.owner, node.group, node.access) if reached else None
            self.assertEqual(letters_at(house, user, path), wanted)

    def test_known_answers(self):
        house = filled()
        self.assertEqual([may(house, "ann", "/lab/plan", letters) for letters in LETTERS],
                         [True, True, True, False, True, False, False, False])
        self.assertEqual([who_may(house, "/lab/plan", letters) for letters in ("r", "x", "")],
                         [["ann", "bob"], [], ["ann", "bob"]])
        self.assertEqual([who_may(house, "/", "rx"), who_may(house, "/", "w"), who_may(house, "/tmp", "rwx")],
                         [["ann", "bob", "cal"], [], ["ann", "bob", "cal"]])
        self.assertEqual([who_may(house, "/shut", ""), who_may(house, "/shut", "r")], [["ann", "bob", "cal"], []])
        self.assertEqual([str(letters_at(house, user, "/odd")) for user in PEOPLE.users()], ["rw-", "rwx", "rwx"])
        self.assertEqual([letters_at(house, "ann", "/odd/a"), letters_at(house, "cal", "/shut")], [None, Rights()])
        self.assertIsInstance(letters_at(house, "cal", "/shut"), Rights)

    def test_nothing_is_there(self):
        house = filled()
        for path in ("/new", "/lab/new", "/lab/plan/x", "/new/a"):
            for letters in ("", "r"):
                self.assertIs(may(house, "ann", path, letters), False)
                self.assertEqual(who_may(house, path, letters), [])
            self.assertIsNone(letters_at(house, "ann", path))

    def test_letters_one_by_one_and_together(self):
        house = House(People({"ann": ["staff", "chess"]}))
        house.add("/a", "file", group="staff", access=AccessList("", "r", "", groups={"chess": "w"}))
        self.assertEqual(letters_at(house, "ann", "/a"), Rights("rw"))
        self.assertEqual([may(house, "ann", "/a", letters) for letters in ("r", "w", "rw")], [True, True, False])
        house.add("/b", "folder", group="staff", access=AccessList("", "", "", groups={"chess": "x"}))
        house.add("/b/c", "file")
        self.assertIsNone(lacking(house, "ann", "/b/c"))

    def test_arguments_by_name(self):
        house = filled()
        self.assertIs(may(house=house, user="ann", path="/lab", letters="r"), True)
        self.assertEqual(who_may(house=house, path="/lab", letters="r"), ["ann"])
        self.assertEqual(letters_at(house=house, user="ann", path="/lab"), Rights("rwx"))


class RefusedTest(unittest.TestCase):
    def check(self, call, error_class, value):
        error = raised(call)
        self.assertIs(type(error), error_class)
        self.assertIs(list(vars(error).values())[0], value)

    def test_houses(self):
        for value in any_values() + [PEOPLE, filled()["/lab"], filled().state]:
            if not isinstance(value, House):
                self.check(lambda: lacking(value, 1, 1), InvalidHouse, value)
                self.check(lambda: may(value, 1, 1, 1), InvalidHouse, value)
                self.check(lambda: who_may(value, 1, 1), InvalidHouse, value)
                self.check(lambda: letters_at(value, 1, 1), InvalidHouse, value)

    def test_users(self):
        house = filled()
        for value in any_values() + ["root", "staff"]:
            if value != "ann":
                self.check(lambda: lacking(house, value, 1), UnknownUser, value)
                self.check(lambda: may(house, value, 1, 1), UnknownUser, value)
                self.check(lambda: letters_at(house, value, 1), UnknownUser, value)

    def test_paths(self):
        house = filled()
        for value in any_values() + ["/lab/", "lab"]:
            if not is_path(value):
                self.check(lambda: lacking(house, "ann", value), InvalidPath, value)
                self.check(lambda: may(house, "ann", value, 1), InvalidPath, value)
                self.check(lambda: who_may(house, value, 1), InvalidPath, value)
                self.check(lambda: letters_at(house, "ann", value), InvalidPath, value)

    def test_letters(self):
        house = filled()
        for value in any_values() + ["rr", "rwxr", "-", ["r"]]:
            if not is_rights(value):
                for path in ("/lab", "/new", "/lab/box/plan"):
                    self.check(lambda: may(house, "ann", path, value), InvalidRights, value)
                    self.check(lambda: who_may(house, path, value), InvalidRights, value)


if __name__ == "__main__":
    unittest.main()
