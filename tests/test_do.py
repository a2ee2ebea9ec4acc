"""Deeds carried out and refused, one by one."""

import unittest

from filerights.deeds import do
from filerights.errors import Absent, Denied, Ground, Held, Inside, InvalidDeed, InvalidHouse, NotEmpty, NotFile
from filerights.errors import NotFolder, NotMember, NotOwner, Taken, UnknownUser
from filerights.house import House
from filerights.lists import AccessList
from filerights.people import People
from helpers import any_values, raised

PEOPLE = People({"ann": ["staff", "chess"], "bob": ["guests", "staff"], "cal": ["guests"]})
ACCESS = AccessList("rwx", "r", "", users={"bob": "x"})


class DoTest(unittest.TestCase):
    def setUp(self):
        self.house = House(PEOPLE)
        self.add("/lab", "folder", "ann", "staff", "775")
        self.add("/lab/plan", "file", "ann", "guests", "640", content="north")
        self.add("/lab/box", "folder", "bob", "staff", "750")
        self.add("/lab/box/a", "file", "bob", "staff", "600")
        self.add("/shut", "folder", "root", "root", "000")
        self.add("/tmp/b", "file", "bob", "guests", "644")

    def add(self, path, kind, owner, group, digits, content=""):
        self.house.add(path, kind, owner=owner, group=group, access=AccessList.plain(digits), content=content)

    def refused(self, deed, error_class, *fields):
        before, kept = self.house.copied(), self.house.state
        error = raised(do, self.house, deed)
        self.assertIs(type(error), error_class, deed)
        self.assertEqual(list(vars(error).values()), list(fields))
        self.assertIs(self.house.state, kept)
        self.assertEqual(self.house, before)

    def facts(self, path):
        node = self.house[path]
        default = None if node.default is None else str(node.default)
        return [node.kind, node.owner, node.group, str(node.access), node.sticky, node.passes, default, node.content]


class ReadAndWriteTest(DoTest):
    def test_read(self):
        self.assertEqual([do(self.house, (user, "read", "/lab/plan")) for user in ("ann", "bob")], ["north"] * 2)
        self.assertEqual(do(house=self.house, deed=("bob", "read", "/lab/box/a")), "")

    def test_write(self):
        self.assertIsNone(do(self.house, ("ann", "write", "/lab/plan", "a\nb")))
        self.assertEqual(do(self.house, ("bob", "read", "/lab/plan")), "a\nb")
        number = self.house["/lab/plan"].number
        do(self.house, ("ann", "write", "/lab/plan", ""))
        self.assertEqual(self.facts("/lab/plan"),
                         ["file", "ann", "guests", "u::rw-,g::r--,o::---", False, False, None, ""])
        self.assertEqual(self.house["/lab/plan"].number, number)

    def test_refused(self):
        self.refused(("bob", "write", "/lab/plan", "x"), Denied, "/lab/plan", "w")
        self.add("/lab/odd", "file", "cal", "root", "244")
        self.refused(("cal", "read", "/lab/odd"), Denied, "/lab/odd", "r")
        for rest in (("read",), ("write", "x")):
            word, last = rest[0], rest[1:]
            self.refused(("ann", word, "/lab", *last), NotFile, "/lab")
            self.refused(("ann", word, "/", *last), NotFile, "/")
            self.refused(("ann", word, "/new", *last), Absent, "/new")
            self.refused(("ann", word, "/lab/no/x", *last), Absent, "/lab/no")
            self.refused(("ann", word, "/lab/plan/x", *last), NotFolder, "/lab/plan")
            self.refused(("cal", word, "/lab/box/a", *last), Denied, "/lab/box", "x")
            self.refused(("ann", word, "/shut/x", *last), Denied, "/shut", "x")


class MakeTest(DoTest):
    def test_a_file_and_a_folder(self):
        self.assertIsNone(do(self.house, ("bob", "file", "/lab/f", "666")))
        self.assertEqual(self.facts("/lab/f"),
                         ["file", "bob", "guests", "u::rw-,g::r--,o::r--", False, False, None, ""])
        self.assertIsNone(do(self.house, ("bob", "folder", "/lab/d", "777")))
        self.assertEqual(self.facts("/lab/d"),
                         ["folder", "bob", "guests", "u::rwx,g::r-x,o::r-x", False, False, None, ""])
        self.assertEqual(len({node.number for _, node in self.house.walk()}), 10)

    def test_the_umask_of_the_user(self):
        for umask, text in (("000", "u::rwx,g::rw-,o::r--"), ("777", "u::---,g::---,o::---"),
                            ("317", "u::r--,g::rw-,o::---")):
            self.assertIsNone(do(self.house, ("bob", "umask", umask)))
            self.assertEqual([self.house.umask_of("bob"), self.house.umask_of("ann")], [umask, "022"])
            do(self.house, ("bob", "file", "/tmp/f", "764"))
            self.assertEqual(str(self.house["/tmp/f"].access), text)
            do(self.house, ("bob", "remove", "/tmp/f"))

    def test_a_folder_that_passes_its_group_on(self):
        self.house.mark("/lab", passes=True, sticky=True)
        do(self.house, ("bob", "folder", "/lab/d", "777"))
        self.assertEqual(self.facts("/lab/d"), ["folder", "bob", "staff", "u::rwx,g::r-x,o::r-x", False, True, None, ""])
        do(self.house, ("bob", "file", "/lab/d/f", "777"))
        self.assertEqual(self.facts("/lab/d/f"), ["file", "bob", "staff", "u::rwx,g::r-x,o::r-x", False, False, None, ""])
        self.house.give("/lab", group="root")
        do(self.house, ("ann", "file", "/lab/f", "600"))
        self.assertEqual(self.house["/lab/f"].group, "root")

    def test_a_default_list(self):
        default = AccessList("rw", "rwx", "x", users={"cal": "rw"}, groups={"zoo": "x"}, mask="rx")
        self.house.set_default("/lab", default)
        do(self.house, ("bob", "umask", "777"))
        do(self.house, ("bob", "folder", "/lab/d", "571"))
        text = "u::r--,u:cal:rw-,g::rwx,g:zoo:--x,m::r-x,o::--x"
        self.assertEqual(self.facts("/lab/d"), ["folder", "bob", "guests", text, False, False, str(default), ""])
        do(self.house, ("bob", "file", "/lab/f", "620"))
        self.assertEqual(str(self.house["/lab/f"].access), "u::rw-,u:cal:rw-,g::rwx,g:zoo:--x,m::---,o::---")
        self.assertEqual([self.house["/lab/f"].default, self.house["/lab/d"].default], [None, default])

    def test_a_default_list_without_a_mask(self):
        self.house.set_default("/lab", AccessList("rwx", "wx", "rx"))
        do(self.house, ("bob", "file", "/lab/f", "653"))
        self.assertEqual(str(self.house["/lab/f"].access), "u::rw-,g::--x,o::--x")
        do(self.house, ("ann", "default", "/lab", AccessList("", "", "")))
        do(self.house, ("bob", "folder", "/lab/d", "777"))
        self.assertEqual(str(self.house["/lab/d"].access), "u::---,g::---,o::---")

    def test_refused(self):
        for word in ("file", "folder"):
            self.refused(("ann", word, "/", "777"), Taken, "/")
            self.refused(("ann", word, "/tmp", "777"), Denied, "/", "wx")
            self.refused(("ann", word, "/new", "777"), Denied, "/", "wx")
            self.refused(("ann", word, "/lab/plan", "777"), Taken, "/lab/plan")
            self.refused(("ann", word, "/lab/box/a", "777"), Denied, "/lab/box", "wx")
            self.refused(("cal", word, "/lab/plan", "777"), Denied, "/lab", "wx")
            self.refused(("cal", word, "/lab/box/a/x", "777"), Denied, "/lab/box", "x")
            self.refused(("ann", word, "/lab/no/x", "777"), Absent, "/lab/no")
            self.refused(("ann", word, "/lab/plan/x", "777"), NotFolder, "/lab/plan")
            self.refused(("ann", word, "/lab/plan/x/y", "777"), NotFolder, "/lab/plan")
            self.refused(("ann", word, "/shut/x", "777"), Denied, "/shut", "wx")

    def test_w_and_x_are_needed_together(self):
        access = AccessList("", "w", "", groups={"chess": "x"})
        self.house.add("/odd", "folder", group="staff", access=access)
        self.refused(("ann", "file", "/odd/a", "666"), Denied, "/odd", "wx")
        self.house["/odd"] = access.with_entry("named", "wx", name="chess")
        self.assertIsNone(do(self.house, ("ann", "file", "/odd/a", "666")))


class MoveTest(DoTest):
    def test_a_file(self):
        number, facts = self.house["/lab/plan"].number, self.facts("/lab/plan")
        self.assertIsNone(do(self.house, ("ann", "move", "/lab/plan", "/tmp/p")))
        self.assertEqual([self.facts("/tmp/p"), self.house["/tmp/p"].number], [facts, number])
        self.assertNotIn("/lab/plan", self.house)

    def test_a_folder_with_all_below(self):
        do(self.house, ("bob", "move", "/lab/box", "/tmp/box"))
        self.assertEqual(self.house.paths(), ["/lab", "/lab/plan", "/shut", "/tmp/b", "/tmp/box", "/tmp/box/a"])

    def test_a_node_of_others(self):
        self.assertIsNone(do(self.house, ("bob", "move", "/lab/plan", "/lab/q")))
        self.assertEqual(self.facts("/lab/q")[:4], ["file", "ann", "guests", "u::rw-,g::r--,o::---"])

    def test_a_folder_of_others_stays_in_its_folder(self):
        self.refused(("ann", "move", "/lab/box", "/tmp/box"), Denied, "/lab/box", "w")
        self.assertIsNone(do(self.house, ("ann", "move", "/lab/box", "/lab/bin")))
        self.refused(("ann", "move", "/lab/bin", "/tmp/b"), Taken, "/tmp/b")
        self.house["/lab/bin"] = AccessList.plain("020")
        self.assertIsNone(do(self.house, ("ann", "move", "/lab/bin", "/tmp/box")))

    def test_default_and_group_of_the_new_folder_do_not_matter(self):
        self.house.mark("/lab", passes=True)
        self.house.set_default("/lab", ACCESS)
        do(self.house, ("bob", "move", "/tmp/b", "/lab/b"))
        self.assertEqual(self.facts("/lab/b"), ["file", "bob", "guests", "u::rw-,g::r--,o::r--", False, False, None, ""])

    def test_refused(self):
        self.refused(("ann", "move", "/", "/lab/x"), Ground, "/")
        self.refused(("ann", "move", "/tmp", "/tmp/x"), Ground, "/tmp")
        self.refused(("ann", "move", "/no", "/lab/x"), Absent, "/no")
        self.refused(("ann", "move", "/lab/plan/x", "/"), NotFolder, "/lab/plan")
        self.refused(("cal", "move", "/lab/box/a", "/tmp/x"), Denied, "/lab/box", "x")
        self.refused(("cal", "move", "/lab/plan", "/tmp/x"), Denied, "/lab", "wx")
        self.refused(("ann", "move", "/lab", "/tmp/x"), Denied, "/", "wx")
        self.refused(("ann", "move", "/tmp/b", "/lab/b"), Held, "/tmp/b")
        self.refused(("ann", "move", "/lab/plan", "/"), Taken, "/")
        self.refused(("ann", "move", "/lab/plan", "/tmp"), Denied, "/", "wx")
        self.refused(("ann", "move", "/lab/plan", "/shut/x"), Denied, "/shut", "wx")
        self.refused(("ann", "move", "/lab/plan", "/shut/x/y"), Denied, "/shut", "x")
        self.refused(("ann", "move", "/lab/plan", "/lab/box/a"), Denied, "/lab/box", "wx")
        self.refused(("ann", "move", "/lab/plan", "/lab/no/x"), Absent, "/lab/no")
        self.refused(("ann", "move", "/lab/plan", "/tmp/b/x"), NotFolder, "/tmp/b")
        self.refused(("ann", "move", "/lab/plan", "/tmp/b"), Taken, "/tmp/b")
        self.refused(("ann", "move", "/lab/plan", "/lab/plan"), Taken, "/lab/plan")
        self.refused(("ann", "move", "/lab/plan", "/lab/plan/x"), Inside, "/lab/plan/x")
        self.refused(("bob", "move", "/lab/box", "/lab/box/a/b"), Inside, "/lab/box/a/b")
        self.refused(("bob", "move", "/lab/box", "/lab/box"), Taken, "/lab/box")


class RemoveTest(DoTest):
    def test_nodes(self):
        self.assertIsNone(do(self.house, ("bob", "remove", "/lab/box/a")))
        self.assertIsNone(do(self.house, ("ann", "remove", "/lab/box")))
        self.assertIsNone(do(self.house, ("bob", "remove", "/lab/plan")))
        self.assertIsNone(do(self.house, ("bob", "remove", "/tmp/b")))
        self.assertEqual(self.house.paths(), ["/lab", "/shut"])

    def test_sticky_folders(self):
        self.refused(("ann", "remove", "/tmp/b"), Held, "/tmp/b")
        self.house.mark("/lab", sticky=True)
        self.refused(("bob", "remove", "/lab/plan"), Held, "/lab/plan")
        self.refused(("ann", "remove", "/lab/box"), NotEmpty, "/lab/box")
        self.house.give("/lab", owner="cal")
        self.refused(("bob", "remove", "/lab/plan"), Held, "/lab/plan")
        self.assertIsNone(do(self.house, ("ann", "remove", "/lab/plan")))
        self.assertIsNone(do(self.house, ("bob", "move", "/lab/box", "/lab/bin")))
        self.assertIsNone(do(self.house, ("cal", "move", "/lab/bin", "/lab/box")))

    def test_refused(self):
        self.refused(("ann", "remove", "/"), Ground, "/")
        self.refused(("ann", "remove", "/tmp"), Ground, "/tmp")
        self.refused(("ann", "remove", "/no"), Absent, "/no")
        self.refused(("ann", "remove", "/lab/plan/x"), NotFolder, "/lab/plan")
        self.refused(("cal", "remove", "/lab/box/a"), Denied, "/lab/box", "x")
        self.refused(("cal", "remove", "/lab/box"), Denied, "/lab", "wx")
        self.refused(("ann", "remove", "/lab/box/a"), Denied, "/lab/box", "wx")
        self.refused(("ann", "remove", "/shut"), Denied, "/", "wx")
        self.refused(("ann", "remove", "/lab/box"), NotEmpty, "/lab/box")
        self.house.mark("/lab", sticky=True)
        self.house.give("/lab", owner="root")
        self.refused(("ann", "remove", "/lab/box"), Held, "/lab/box")


class OwnersTest(DoTest):
    def test_allow(self):
        for path in ("/lab", "/lab/plan"):
            self.assertIsNone(do(self.house, ("ann", "allow", path, AccessList("rwx", "", ""))))
            self.assertEqual(str(self.house[path].access), "u::rwx,g::---,o::---")

    def test_default(self):
        self.assertIsNone(do(self.house, ("ann", "default", "/lab", ACCESS)))
        self.assertEqual(self.house["/lab"].default, ACCESS)
        self.assertIsNone(do(self.house, ("ann", "default", "/lab", None)))
        self.assertIsNone(self.house["/lab"].default)

    def test_mark(self):
        for sticky, passes in ((True, False), (False, True), (True, True), (False, False)):
            self.assertIsNone(do(self.house, ("ann", "mark", "/lab", sticky, passes)))
            self.assertEqual([self.house["/lab"].sticky, self.house["/lab"].passes], [sticky, passes])

    def test_give(self):
        for group in ("chess", "staff"):
            for path in ("/lab", "/lab/plan"):
                self.assertIsNone(do(self.house, ("ann", "give", path, group)))
                self.assertEqual([self.house[path].owner, self.house[path].group], ["ann", group])

    def test_an_owner_needs_no_letters_of_the_node(self):
        do(self.house, ("ann", "allow", "/lab/plan", AccessList("", "", "")))
        do(self.house, ("ann", "allow", "/lab", AccessList("x", "", "")))
        self.assertIsNone(do(self.house, ("ann", "give", "/lab/plan", "chess")))
        do(self.house, ("ann", "allow", "/lab", AccessList("", "", "")))
        self.refused(("ann", "give", "/lab/plan", "staff"), Denied, "/lab", "x")
        self.assertIsNone(do(self.house, ("ann", "mark", "/lab", True, True)))
        self.assertIsNone(do(self.house, ("ann", "allow", "/lab", AccessList("x", "", ""))))

    def test_refused(self):
        rests = {"allow": (ACCESS,), "default": (ACCESS,), "mark": (True, True), "give": ("staff",)}
        for word, rest in rests.items():
            self.refused(("ann", word, "/", *rest), Ground, "/")
            self.refused(("ann", word, "/tmp", *rest), Ground, "/tmp")
            self.refused(("ann", word, "/no", *rest), Absent, "/no")
            self.refused(("ann", word, "/lab/plan/x", *rest), NotFolder, "/lab/plan")
            self.refused(("cal", word, "/lab/box/a", *rest), Denied, "/lab/box", "x")
            self.refused(("bob", word, "/lab", *rest), NotOwner, "/lab")
            self.refused(("ann", word, "/shut", *rest), NotOwner, "/shut")
        for word in ("default", "mark"):
            self.refused(("ann", word, "/lab/plan", *rests[word]), NotFolder, "/lab/plan")
            self.refused(("bob", word, "/lab/plan", *rests[word]), NotFolder, "/lab/plan")
        self.refused(("bob", "allow", "/lab/plan", ACCESS), NotOwner, "/lab/plan")

    def test_groups_that_cannot_be_given(self):
        for group in ("guests", "root", "zoo", "ann"):
            self.refused(("ann", "give", "/lab/plan", group), NotMember, group)
        self.refused(("bob", "give", "/lab/plan", "zoo"), NotOwner, "/lab/plan")


class ArgumentsTest(DoTest):
    def test_houses(self):
        for value in any_values() + [PEOPLE, self.house["/lab"]]:
            if not isinstance(value, House):
                error = raised(do, value, None)
                self.assertIs(type(error), InvalidHouse)
                self.assertIs(error.value, value)

    def test_what_is_no_deed(self):
        for value in any_values() + [["ann", "umask", "000"], ("ann", "umask", "008"), ("root", "umask", "000")]:
            error = raised(do, self.house, value)
            self.assertIs(type(error), InvalidDeed)
            self.assertIs(error.value, value)

    def test_unknown_users(self):
        user = "".join(["da", "n"])
        for deed in ((user, "umask", "000"), (user, "read", "/no"), (user, "remove", "/"), ("staff", "file", "/", "777")):
            self.refused(deed, UnknownUser, deed[0])
            self.assertIs(raised(do, self.house, deed).name, deed[0])

    def test_the_group_of_a_give_is_the_very_object(self):
        group = "".join(["zo", "o"])
        self.assertIs(raised(do, self.house, ("ann", "give", "/lab", group)).name, group)


if __name__ == "__main__":
    unittest.main()
