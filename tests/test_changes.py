"""The administrator's changes of a house: what they do, what they raise and in which order."""

import unittest

from filerights.errors import Absent, Ground, Inside, InvalidContent, InvalidDigits, InvalidList, InvalidNode
from filerights.errors import InvalidPath, NotFile, NotFolder, Taken, UnknownGroup, UnknownUser
from filerights.house import House
from filerights.lists import AccessList, is_digits
from filerights.people import People
from filerights.words import is_path
from helpers import any_values, raised

PEOPLE = People({"ann": ["staff"], "bob": ["guests", "staff"]})
ACCESS = AccessList("rwx", "r", "", users={"bob": "x"})
# Each change of the node at a path, with arguments that are right for a folder or a file.
CHANGES = {
    "access": lambda house, path: house.__setitem__(path, ACCESS),
    "cut": lambda house, path: house.cut(path),
    "shift": lambda house, path: house.shift(path, "/other"),
    "give": lambda house, path: house.give(path, owner="ann", group="staff"),
    "mark": lambda house, path: house.mark(path, sticky=True, passes=True),
    "default": lambda house, path: house.set_default(path, ACCESS),
    "content": lambda house, path: house.set_content(path, "x"),
}
NOT_FOLDERS = ["mark", "default"]


def filled():
    """Return a house with folders and files, made anew."""
    house = House(PEOPLE)
    house.add("/lab", "folder", owner="ann", group="staff", access=AccessList.plain("750"))
    house.add("/lab/box", "folder", owner="bob")
    house.add("/lab/box/a", "file", content="south")
    house.add("/lab/plan", "file", owner="bob", group="guests", content="north")
    house.add("/labs", "file")
    return house


def copied_text(text):
    """Return an equal string that is another object."""
    return "".join(list(text))


class ChangesTest(unittest.TestCase):
    def refused(self, call, error_class, value, same=True):
        """Check that a change of a filled house is refused for a value, and changes nothing."""
        house = filled()
        kept = house.state
        error = raised(call, house)
        self.assertIs(type(error), error_class)
        field = list(vars(error).values())[0]
        if same:
            self.assertIs(field, value)
        else:
            self.assertEqual(field, value)
        self.assertIs(house.state, kept)
        self.assertEqual(house, filled())


class PlacesTest(ChangesTest):
    def test_paths_that_are_wrong(self):
        for value in any_values() + [b"/lab", "/lab/", ["/lab"], "/lab/plan/x", "/new", "/lab/new"]:
            for change in CHANGES.values():
                if not is_path(value):
                    self.refused(lambda house, do=change: do(house, value), InvalidPath, value)
                elif value != "/":
                    self.refused(lambda house, do=change: do(house, value), Absent, value)

    def test_the_ground(self):
        for text in ("/", "/tmp"):
            path = copied_text(text)
            for change in CHANGES.values():
                self.refused(lambda house, do=change: do(house, path), Ground, path)

    def test_the_place_is_checked_before_the_rest(self):
        for path, error_class in ((copied_text("/tmp"), Ground), (copied_text("/new"), Absent), ("new", InvalidPath)):
            calls = [
                lambda house: house.__setitem__(path, None), lambda house: house.give(path, owner=1, group=1),
                lambda house: house.mark(path, sticky=1, passes=1), lambda house: house.set_default(path, 1),
                lambda house: house.set_content(path, 1), lambda house: house.shift(path, "/lab"),
                lambda house: house.shift(path, path + "/x"),
            ]
            for call in calls:
                self.refused(call, error_class, path)

    def test_changes_return_none(self):
        for word, change in CHANGES.items():
            self.assertIsNone(change(filled(), "/lab/plan" if word == "content" else "/lab"))
        self.assertEqual([filled().add("/a", "file"), filled().set_umask("ann", "000")], [None, None])

    def test_files_and_folders(self):
        path = copied_text("/lab/plan")
        for word in NOT_FOLDERS:
            self.refused(lambda house: CHANGES[word](house, path), NotFolder, path)
        self.refused(lambda house: house.mark(path, sticky=1), NotFolder, path)
        self.refused(lambda house: house.set_default(path, 1), NotFolder, path)
        folder = copied_text("/lab")
        self.refused(lambda house: house.set_content(folder, "x"), NotFile, folder)
        self.refused(lambda house: house.set_content(folder, 1), NotFile, folder)


class AccessTest(ChangesTest):
    def test_another_list(self):
        house = filled()
        for path in ("/lab", "/lab/plan"):
            house[path] = ACCESS
            self.assertEqual(house[path].access, ACCESS)
        self.assertEqual([house["/lab"].owner, house["/lab/plan"].content, house.paths()],
                         ["ann", "north", filled().paths()])

    def test_no_list(self):
        for value in any_values() + ["755", str(ACCESS)]:
            if not isinstance(value, AccessList):
                self.refused(lambda house: house.__setitem__("/lab", value), InvalidList, value)


class AddTest(ChangesTest):
    def test_folders_and_files(self):
        house = House(PEOPLE)
        house.add("/a", "folder")
        house.add("/a/b", "file", owner="bob", group="guests", access=ACCESS, content="x\ny")
        house.add("/tmp/c", "folder", owner="ann", group="staff", access=ACCESS, content="")
        house.add(path="/tmp/c/d", kind="file", owner="root", group="root", access=None, content="")
        self.assertEqual(house.paths(), ["/a", "/a/b", "/tmp/c", "/tmp/c/d"])
        node = house["/a/b"]
        self.assertEqual([node.kind, node.owner, node.group, node.access, node.content],
                         ["file", "bob", "guests", ACCESS, "x\ny"])
        node = house["/tmp/c"]
        self.assertEqual([node.kind, node.owner, node.group, node.access, node.content],
                         ["folder", "ann", "staff", ACCESS, ""])
        self.assertEqual([str(house["/a"].access), str(house["/tmp/c/d"].access)],
                         ["u::rwx,g::r-x,o::r-x", "u::rw-,g::r--,o::r--"])

    def test_nothing_is_taken_from_the_folder_above(self):
        house = filled()
        house.mark("/lab", sticky=True, passes=True)
        house.set_default("/lab", ACCESS)
        house.add("/lab/new", "folder")
        node = house["/lab/new"]
        self.assertEqual([node.group, node.sticky, node.passes, node.default, str(node.access)],
                         ["root", False, False, None, "u::rwx,g::r-x,o::r-x"])

    def test_paths(self):
        for value in any_values():
            if not is_path(value):
                self.refused(lambda house: house.add(value, "file"), InvalidPath, value)
        for text in ("/", "/tmp", "/lab", "/lab/plan"):
            path = copied_text(text)
            self.refused(lambda house: house.add(path, "file"), Taken, path)

    def test_the_folder_above(self):
        for path, folder in (("/new/a", "/new"), ("/new/a/b", "/new/a"), ("/lab/plan/a/b", "/lab/plan/a")):
            self.refused(lambda house: house.add(path, "file"), Absent, folder, same=False)
        self.refused(lambda house: house.add("/lab/plan/a", "file"), NotFolder, "/lab/plan", same=False)

    def test_kinds(self):
        for value in any_values() + ["File", "folders", ["file"], "", "node"]:
            self.refused(lambda house: house.add("/new", value), InvalidNode, value)

    def test_owners_and_groups(self):
        for value in any_values() + ["staff", "cal"]:
            if value not in ("ann", "root"):
                self.refused(lambda house: house.add("/new", "file", owner=value), UnknownUser, value)
            if value not in ("root", "staff"):
                self.refused(lambda house: house.add("/new", "file", group=value), UnknownGroup, value)

    def test_lists(self):
        for value in any_values() + ["755"]:
            if value is not None and not isinstance(value, AccessList):
                self.refused(lambda house: house.add("/new", "file", access=value), InvalidList, value)

    def test_contents(self):
        for value in any_values() + [b"x"]:
            if not isinstance(value, str):
                self.refused(lambda house: house.add("/new", "file", content=value), InvalidContent, value)
            if value != "":
                self.refused(lambda house: house.add("/new", "folder", content=value), InvalidContent, value)

    def test_the_order_of_the_checks(self):
        wrong = [1, "whose", "them", "755", 2]
        right = ["file", "root", "root", None, ""]
        classes = [InvalidNode, UnknownUser, UnknownGroup, InvalidList, InvalidContent]

        def add(house, path, kind, owner, group, access, content):
            house.add(path, kind, owner=owner, group=group, access=access, content=content)

        for at in range(5):
            parts = right[:at] + wrong[at:]
            self.refused(lambda house: add(house, "/new", *parts), classes[at], wrong[at])
        self.refused(lambda house: add(house, "new", *wrong), InvalidPath, "new")
        self.refused(lambda house: add(house, "/lab", *wrong), Taken, "/lab")
        self.refused(lambda house: add(house, "/a/b", *wrong), Absent, "/a", same=False)
        self.refused(lambda house: add(house, "/labs/b", *wrong), NotFolder, "/labs", same=False)


class CutTest(ChangesTest):
    def test_with_all_below(self):
        house = filled()
        house.cut("/lab/box")
        self.assertEqual(house.paths(), ["/lab", "/lab/plan", "/labs"])
        house.cut("/lab")
        self.assertEqual([house.paths(), "/lab/plan" in house, "/tmp" in house], [["/labs"], False, True])
        house.cut(path="/labs")
        self.assertEqual([len(house), house.names_in("/")], [0, ["tmp"]])


class ShiftTest(ChangesTest):
    def test_with_all_below(self):
        house = filled()
        before = dict(house.walk("/lab"))
        house.shift("/lab", "/tmp/old")
        self.assertEqual(house.paths(), ["/labs", "/tmp/old", "/tmp/old/box", "/tmp/old/box/a", "/tmp/old/plan"])
        for path, node in before.items():
            self.assertEqual(house["/tmp/old" + path[4:]], node)

    def test_to_a_longer_name_and_a_shorter_path(self):
        house = filled()
        house.shift("/lab", "/labx")
        self.assertEqual(house.paths(), ["/labs", "/labx", "/labx/box", "/labx/box/a", "/labx/plan"])
        house.shift(path="/labx/box", to="/b")
        self.assertEqual(house.paths(), ["/b", "/b/a", "/labs", "/labx", "/labx/plan"])
        house.shift("/labx/plan", "/b/z")
        self.assertEqual(house["/b/z"].content, "north")

    def test_marks_and_lists_move_along(self):
        house = filled()
        house.mark("/lab/box", sticky=True, passes=True)
        house.set_default("/lab/box", ACCESS)
        node = house["/lab/box"]
        house.shift("/lab/box", "/box")
        self.assertTrue(house["/box"] == node and house["/box"].number == node.number)

    def test_paths(self):
        for value in any_values():
            if not is_path(value):
                self.refused(lambda house: house.shift("/lab", value), InvalidPath, value)
                self.refused(lambda house: house.shift("/new", value), InvalidPath, value)
                self.refused(lambda house: house.shift("/tmp", value), InvalidPath, value)
                self.refused(lambda house: house.shift(value, []), InvalidPath, value)

    def test_inside(self):
        for text in ("/lab/new", "/lab/box", "/lab/box/a", "/lab/no/where", "/lab/plan/x"):
            to = copied_text(text)
            self.refused(lambda house: house.shift("/lab", to), Inside, to)
        house = filled()
        house.shift("/labs", "/lab/s")
        self.assertIn("/lab/s", house)

    def test_taken(self):
        for text in ("/", "/tmp", "/lab", "/lab/plan", "/lab/box"):
            to = copied_text(text)
            self.refused(lambda house: house.shift("/lab/box", to), Taken, to)

    def test_the_folder_above(self):
        self.refused(lambda house: house.shift("/labs", "/new/a"), Absent, "/new", same=False)
        self.refused(lambda house: house.shift("/labs", "/lab/plan/x/y"), Absent, "/lab/plan/x", same=False)
        self.refused(lambda house: house.shift("/labs", "/lab/plan/x"), NotFolder, "/lab/plan", same=False)
        self.refused(lambda house: house.shift("/lab/plan", "/labs/x"), NotFolder, "/labs", same=False)


class GiveTest(ChangesTest):
    def owners(self, **given):
        house = filled()
        house.give("/lab", **given)
        others = [house[path] == filled()[path] for path in house.paths() if path != "/lab"]
        self.assertEqual([all(others), house["/lab"].access], [True, AccessList.plain("750")])
        return [house["/lab"].owner, house["/lab"].group]

    def test_owners_and_groups(self):
        self.assertEqual(self.owners(owner="bob", group="guests"), ["bob", "guests"])
        self.assertEqual(self.owners(owner="bob"), ["bob", "staff"])
        self.assertEqual(self.owners(group="guests"), ["ann", "guests"])
        self.assertEqual(self.owners(owner="root", group="root"), ["root", "root"])
        self.assertEqual(self.owners(), ["ann", "staff"])
        self.assertEqual(self.owners(owner=None, group=None), ["ann", "staff"])

    def test_a_file(self):
        house = filled()
        house.give("/lab/plan", owner="ann")
        self.assertEqual([house["/lab/plan"].owner, house["/lab/plan"].content], ["ann", "north"])

    def test_unknown(self):
        for value in any_values() + ["staff", "cal"]:
            if value not in (None, "ann", "root"):
                self.refused(lambda house: house.give("/lab", owner=value), UnknownUser, value)
                self.refused(lambda house: house.give("/lab", owner=value, group="ants"), UnknownUser, value)
            if value not in (None, "root", "staff"):
                self.refused(lambda house: house.give("/lab", group=value), UnknownGroup, value)
                self.refused(lambda house: house.give("/lab", owner="bob", group=value), UnknownGroup, value)
                self.refused(lambda house: house.give("/lab", owner="ann", group="bob"), UnknownGroup, "bob")


class MarkTest(ChangesTest):
    def test_marks(self):
        for sticky in (None, True, False):
            for passes in (None, True, False):
                house = filled()
                house.mark("/lab", sticky=True)
                house.mark("/lab", sticky=sticky, passes=passes)
                self.assertIs(house["/lab"].sticky, sticky is not False)
                self.assertIs(house["/lab"].passes, passes is True)
                house.mark("/lab", passes=True)
                house.mark("/lab", sticky=sticky, passes=passes)
                self.assertIs(house["/lab"].passes, passes is not False)
                self.assertEqual(house["/lab/box"], filled()["/lab/box"])
        house.mark("/lab")
        self.assertFalse(house["/lab"].sticky or house["/lab"].passes)

    def test_no_marks(self):
        for value in any_values() + [1, 0, "True", [True]]:
            if value is None or isinstance(value, bool):
                continue
            self.refused(lambda house: house.mark("/lab", sticky=value), InvalidNode, value)
            self.refused(lambda house: house.mark("/lab", passes=value), InvalidNode, value)
            self.refused(lambda house: house.mark("/lab", sticky=True, passes=value), InvalidNode, value)
            self.refused(lambda house: house.mark("/lab", sticky=value, passes=[]), InvalidNode, value)


class DefaultTest(ChangesTest):
    def test_default_lists(self):
        house = filled()
        house.set_default("/lab", ACCESS)
        self.assertEqual([house["/lab"].default, house["/lab"].access], [ACCESS, AccessList.plain("750")])
        house.set_default(path="/lab", access=None)
        self.assertEqual([house["/lab"].default, house == filled()], [None, True])

    def test_no_list(self):
        for value in any_values() + ["755"]:
            if value is not None and not isinstance(value, AccessList):
                self.refused(lambda house: house.set_default("/lab", value), InvalidList, value)


class ContentTest(ChangesTest):
    def test_contents(self):
        house = filled()
        for content in ("x\ny", ""):
            house.set_content("/lab/plan", content)
            self.assertEqual([house["/lab/plan"].content, house["/lab/box/a"].content], [content, "south"])
        house.set_content(path="/lab/plan", content="north")
        self.assertEqual(house, filled())

    def test_no_content(self):
        for value in any_values() + [b"x"]:
            if not isinstance(value, str):
                self.refused(lambda house: house.set_content("/lab/plan", value), InvalidContent, value)


class UmaskTest(ChangesTest):
    def test_umasks(self):
        house = filled()
        self.assertEqual([house.umask_of("ann"), house.umask_of("bob")], ["022", "022"])
        house.set_umask("bob", "077")
        self.assertEqual([house.umask_of("ann"), house.umask_of("bob")], ["022", "077"])
        house.set_umask(user="ann", digits="000")
        self.assertEqual([house.umask_of("ann"), house.umask_of(user="bob")], ["000", "077"])

    def test_users(self):
        for value in any_values() + ["root", "staff", ["ann"]]:
            if value != "ann":
                self.refused(lambda house: house.umask_of(value), UnknownUser, value)
                self.refused(lambda house: house.set_umask(value, "022"), UnknownUser, value)
                self.refused(lambda house: house.set_umask(value, "888"), UnknownUser, value)

    def test_digits(self):
        for value in any_values() + ["888", "0222", 22, ["0", "2", "2"]]:
            if not is_digits(value):
                self.refused(lambda house: house.set_umask("ann", value), InvalidDigits, value)


if __name__ == "__main__":
    unittest.main()
