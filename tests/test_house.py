"""Houses: nodes and their numbers, what a house tells, walks, copies and kept states."""

import unittest

from filerights.errors import Absent, InvalidPath, InvalidPeople, NotFolder
from filerights.house import House, Node
from filerights.lists import AccessList
from filerights.people import People
from filerights.words import is_path
from helpers import any_values, raised

PEOPLE = People({"ann": ["staff"], "bob": ["guests", "staff"]})
FACTS = ["kind", "owner", "group", "access", "sticky", "passes", "default", "content"]


def filled():
    """Return a house with folders and files, made anew."""
    house = House(PEOPLE)
    house.add("/lab", "folder", owner="ann", group="staff", access=AccessList.plain("750"))
    house.add("/lab/plan", "file", owner="bob", group="guests", content="north")
    house.add("/lab/box", "folder", owner="bob")
    house.add("/lab/box/a", "file")
    house.add("/laba", "file")
    house.add("/tmp/lab", "folder")
    return house


def facts(node):
    return [getattr(node, word) for word in FACTS]


class NodeTest(unittest.TestCase):
    def test_a_new_folder(self):
        house = House(PEOPLE)
        house.add("/lab", "folder")
        self.assertEqual(facts(house["/lab"]),
                         ["folder", "root", "root", AccessList.plain("755"), False, False, None, ""])

    def test_a_new_file(self):
        house = House(PEOPLE)
        house.add("/plan", "file")
        self.assertEqual(facts(house["/plan"]),
                         ["file", "root", "root", AccessList.plain("644"), False, False, None, ""])
        self.assertIs(house["/plan"].sticky, False)
        self.assertIs(house["/plan"].passes, False)

    def test_told_facts(self):
        house = House(PEOPLE)
        access, default = AccessList("rwx", "r", "", users={"bob": "x"}), AccessList("rw", "", "", mask="r")
        house.add("/lab", "folder", owner="ann", group="staff", access=access)
        house.mark("/lab", sticky=True, passes=True)
        house.set_default("/lab", default)
        self.assertEqual(facts(house["/lab"]), ["folder", "ann", "staff", access, True, True, default, ""])
        house.add("/lab/a", "file", owner="bob", group="guests", access=access, content="a\n b")
        self.assertEqual(facts(house["/lab/a"]), ["file", "bob", "guests", access, False, False, None, "a\n b"])
        self.assertEqual([type(house["/lab"].sticky), type(house["/lab"].number)], [bool, int])

    def test_the_ground(self):
        house = House(PEOPLE)
        self.assertEqual(facts(house["/"]), ["folder", "root", "root", AccessList.plain("555"), False, False, None, ""])
        self.assertEqual(facts(house["/tmp"]),
                         ["folder", "root", "root", AccessList.plain("777"), True, False, None, ""])
        self.assertNotEqual(house["/"].number, house["/tmp"].number)

    def test_a_node_shows_what_was_when_it_was_asked_for(self):
        house = filled()
        node, told = house["/lab"], facts(house["/lab"])
        house["/lab"] = AccessList.plain("000")
        house.give("/lab", owner="bob", group="guests")
        house.mark("/lab", sticky=True, passes=True)
        house.set_default("/lab", AccessList.plain("777"))
        self.assertEqual(facts(node), told)
        self.assertEqual(node.number, house["/lab"].number)
        house.cut("/lab")
        self.assertEqual(facts(node), told)

    def test_equal(self):
        house = House(PEOPLE)
        for path in ("/a", "/b"):
            house.add(path, "folder", owner="ann", group="staff", access=AccessList.plain("750"))
        for path in ("/c", "/d"):
            house.add(path, "file", owner="ann", group="staff", access=AccessList.plain("750"))
        self.assertTrue(house["/a"] == house["/b"] and house["/c"] == house["/d"])
        self.assertFalse(house["/a"] != house["/b"])
        self.assertNotEqual(house["/a"].number, house["/b"].number)
        kept = house.state
        changes = [
            lambda: house.give("/a", owner="bob"), lambda: house.give("/a", group="guests"),
            lambda: house.mark("/a", sticky=True), lambda: house.mark("/a", passes=True),
            lambda: house.set_default("/a", AccessList.plain("750")),
            lambda: house.__setitem__("/a", AccessList.plain("751")),
        ]
        for change in changes:
            house.state = kept
            change()
            self.assertFalse(house["/a"] == house["/b"])
            self.assertTrue(house["/a"] != house["/b"])
        self.assertFalse(house["/a"] == house["/c"])
        house.set_content("/c", "x")
        self.assertFalse(house["/c"] == house["/d"])
        for value in any_values() + [house, house["/a"].access]:
            self.assertFalse(house["/a"] == value)
        self.assertIsInstance(repr(house["/a"]), str)

    def test_nodes_of_two_houses_can_be_equal(self):
        self.assertTrue(filled()["/lab"] == filled()["/lab"])
        self.assertIsInstance(filled()["/lab"], Node)


class StateTest(unittest.TestCase):
    def test_equal(self):
        house, other = filled(), filled()
        self.assertTrue(house.state == other.state and not house.state != other.state)
        kept = other.state
        changes = [
            lambda: other.set_umask("bob", "777"), lambda: other.add("/new", "file"), lambda: other.cut("/laba"),
            lambda: other.mark("/lab", sticky=not other["/lab"].sticky), lambda: other.shift("/laba", "/labb"),
        ]
        for change in changes:
            other.state = kept
            change()
            self.assertFalse(house.state == other.state)
        other.state = kept
        other.add("/new", "file")
        other.cut("/new")
        # The houses are equal, but the next number is another one.
        self.assertTrue(house == other and house.state != other.state)
        for value in any_values():
            self.assertFalse(house.state == value)


class HouseTest(unittest.TestCase):
    def test_people(self):
        house = House(people=PEOPLE)
        self.assertEqual(house.people, PEOPLE)
        for value in any_values() + [{"ann": ["staff"]}, house]:
            if not isinstance(value, People):
                error = raised(House, value)
                self.assertIs(type(error), InvalidPeople)
                self.assertIs(error.value, value)

    def test_a_new_house(self):
        house = House(PEOPLE)
        self.assertEqual([len(house), house.paths(), house.names_in("/"), house.names_in("/tmp")], [0, [], ["tmp"], []])
        self.assertEqual([house.umask_of("ann"), house.umask_of("bob")], ["022", "022"])
        self.assertEqual([path for path, _ in house.walk()], ["/", "/tmp"])

    def test_paths_and_names(self):
        house = filled()
        self.assertEqual(house.paths(), ["/lab", "/lab/box", "/lab/box/a", "/lab/plan", "/laba", "/tmp/lab"])
        self.assertEqual(len(house), 6)
        self.assertEqual([house.names_in(path) for path in ("/", "/lab", "/lab/box", "/tmp", "/tmp/lab")],
                         [["lab", "laba", "tmp"], ["box", "plan"], ["a"], ["lab"], []])

    def test_in(self):
        house = filled()
        for value in any_values() + ["/lab/", "lab", "/lab/box/b", "/la", "//lab", b"/lab"]:
            self.assertIs(value in house, value == "/")
        for path in ["/", "/tmp", *house.paths()]:
            self.assertIs(path in house, True)

    def test_what_is_returned_is_new(self):
        house = filled()
        for call in (house.paths, lambda: house.names_in("/lab")):
            first, told = call(), list(call())
            self.assertIs(type(first), list)
            first.append("x")
            self.assertEqual(call(), told)

    def test_wrong_paths(self):
        house = filled()
        for value in any_values() + [b"/lab", "/lab/", ["/lab"]]:
            for call in (house.__getitem__, house.names_in, lambda path: list(house.walk(path))):
                if value == "/":
                    continue
                error = raised(call, value)
                if is_path(value):
                    self.assertIs(type(error), Absent)
                    self.assertIs(error.path, value)
                else:
                    self.assertIs(type(error), InvalidPath)
                    self.assertIs(error.value, value)

    def test_names_in_a_file(self):
        path = "".join(["/lab", "/plan"])
        error = raised(filled().names_in, path)
        self.assertIs(type(error), NotFolder)
        self.assertIs(error.path, path)

    def test_equal(self):
        house = filled()
        self.assertTrue(house == filled() and not house != filled())
        changes = [
            lambda: house.give("/lab", owner="bob"), lambda: house.give("/lab", group="guests"),
            lambda: house.mark("/lab", sticky=True), lambda: house.mark("/lab", passes=True),
            lambda: house.set_default("/lab", AccessList.plain("750")),
            lambda: house.__setitem__("/lab", AccessList.plain("751")),
            lambda: house.set_content("/lab/plan", "south"), lambda: house.set_umask("bob", "000"),
            lambda: house.cut("/lab/plan"), lambda: house.cut("/lab"), lambda: house.add("/lab/new", "file"),
            lambda: house.shift("/lab/plan", "/lab/plans"),
        ]
        kept = house.state
        for change in changes:
            change()
            self.assertFalse(house == filled())
            self.assertTrue(house != filled())
            house.state = kept
            self.assertTrue(house == filled())
        for value in any_values() + [PEOPLE, house.state, house["/"]]:
            self.assertFalse(house == value)
        self.assertIsInstance(repr(house), str)

    def test_equal_people(self):
        members = {"bob": ["guests", "staff"], "ann": ["staff"]}
        self.assertTrue(House(People(members)) == House(PEOPLE))
        self.assertFalse(House(People({**members, "bob": ["staff", "guests"]})) == House(PEOPLE))
        self.assertFalse(House(People({**members, "cal": ["staff"]})) == House(PEOPLE))

    def test_equal_whatever_the_numbers_and_the_order_of_changes(self):
        one, other = House(PEOPLE), House(PEOPLE)
        one.add("/a", "file")
        one.add("/b", "folder")
        one.set_umask("ann", "077")
        one.set_umask("bob", "027")
        other.add("/c", "file")
        other.cut("/c")
        other.add("/b", "folder")
        other.set_umask("bob", "027")
        other.set_umask("ann", "077")
        other.add("/a", "file", content="x")
        self.assertFalse(one == other)
        other.set_content("/a", "")
        self.assertTrue(one == other)
        self.assertNotEqual(one["/a"].number, other["/a"].number)


class WalkTest(unittest.TestCase):
    def test_the_whole_house(self):
        house = filled()
        rows = list(house.walk())
        self.assertEqual([path for path, _ in rows],
                         ["/", "/lab", "/lab/box", "/lab/box/a", "/lab/plan", "/laba", "/tmp", "/tmp/lab"])
        for row in rows:
            self.assertIs(type(row), tuple)
            self.assertTrue(row[1] == house[row[0]] and row[1].number == house[row[0]].number)

    def test_a_part(self):
        house = filled()
        self.assertEqual([path for path, _ in house.walk("/lab")], ["/lab", "/lab/box", "/lab/box/a", "/lab/plan"])
        self.assertEqual([path for path, _ in house.walk(path="/laba")], ["/laba"])
        self.assertEqual([path for path, _ in house.walk("/tmp")], ["/tmp", "/tmp/lab"])

    def test_it_raises_when_the_first_one_is_asked_for(self):
        house = filled()
        steps = house.walk("/new")
        self.assertIs(type(raised(next, steps)), Absent)
        steps = house.walk("/new")
        house.add("/new", "file")
        self.assertEqual([path for path, _ in steps], ["/new"])
        self.assertIs(type(raised(next, house.walk("new"))), InvalidPath)

    def test_changes_before_the_first_step_count(self):
        house = filled()
        steps = house.walk("/lab")
        house.cut("/lab/box")
        self.assertEqual([path for path, _ in steps], ["/lab", "/lab/plan"])

    def test_later_changes_have_no_effect(self):
        house = filled()
        wanted = list(house.walk("/lab"))
        steps = house.walk("/lab")
        found = [next(steps)]
        house.set_content("/lab/plan", "south")
        house["/lab/box"] = AccessList.plain("000")
        house.shift("/lab/box", "/box")
        house.add("/lab/zoo", "file")
        found.append(next(steps))
        house.cut("/lab")
        found.extend(steps)
        self.assertEqual(found, wanted)
        self.assertEqual([node.content for _, node in found], ["", "", "", "north"])

    def test_two_walks_at_a_time(self):
        house = filled()
        one, other = house.walk(), house.walk()
        self.assertEqual([(left[0], right[0]) for left, right in zip(one, other)],
                         [(path, path) for path, _ in house.walk()])


class NumbersTest(unittest.TestCase):
    def numbers(self, house):
        return {path: node.number for path, node in house.walk()}

    def test_no_number_twice(self):
        house = filled()
        seen = list(self.numbers(house).values())
        self.assertEqual(len(seen), len(set(seen)))
        for path in ("/lab/plan", "/laba"):
            house.cut(path)
            house.add(path, "file")
            self.assertNotIn(house[path].number, seen)
            seen.append(house[path].number)
        house.cut("/tmp/lab")
        house.cut("/lab")
        house.add("/lab", "folder")
        self.assertNotIn(house["/lab"].number, seen)

    def test_numbers_stay_with_the_nodes(self):
        house = filled()
        before = self.numbers(house)
        house["/lab"] = AccessList.plain("700")
        house.give("/lab", owner="bob", group="guests")
        house.mark("/lab", sticky=True, passes=True)
        house.set_default("/lab", AccessList.plain("700"))
        house.set_content("/lab/plan", "x")
        house.set_umask("ann", "000")
        self.assertEqual(self.numbers(house), before)
        house.shift("/lab", "/tmp/lab/old")
        after = self.numbers(house)
        for path in ("/lab", "/lab/box", "/lab/box/a", "/lab/plan"):
            self.assertEqual(after["/tmp/lab/old" + path[4:]], before[path])
        self.assertEqual([after["/"], after["/laba"]], [before["/"], before["/laba"]])

    def test_what_is_refused_uses_no_number_twice(self):
        house = filled()
        raised(house.add, "/lab", "file")
        raised(house.add, "/x/y", "file")
        house.add("/a", "file")
        house.add("/b", "file")
        self.assertEqual(len(set(self.numbers(house).values())), 10)

    def test_a_copy_has_the_same_numbers(self):
        house = filled()
        house.cut("/laba")
        other = house.copied()
        self.assertEqual(self.numbers(other), self.numbers(house))
        other.add("/new", "file")
        house.add("/new", "file")
        for each in (house, other):
            self.assertEqual(len(set(self.numbers(each).values())), 8)

    def test_numbers_come_back_with_a_kept_state(self):
        house = filled()
        kept, before = house.state, self.numbers(house)
        house.cut("/lab")
        house.add("/lab", "folder")
        house.shift("/laba", "/lab/a")
        house.state = kept
        self.assertEqual(self.numbers(house), before)
        house.add("/new", "file")
        self.assertNotIn(house["/new"].number, before.values())


class StateTest(unittest.TestCase):
    def change(self, house):
        house.cut("/lab/box")
        house.add("/new", "folder", owner="ann")
        house.shift("/laba", "/new/laba")
        house.set_content("/lab/plan", "south")
        house.set_umask("ann", "077")
        house.mark("/lab", sticky=True)

    def test_assigned_and_restored(self):
        for give_back in (lambda house, kept: setattr(house, "state", kept), lambda house, kept: house.restore(kept)):
            house = filled()
            kept = house.state
            self.change(house)
            later = house.state
            changed = house.copied()
            self.assertIsNone(give_back(house, kept))
            self.assertEqual(house, filled())
            give_back(house, later)
            self.assertEqual(house, changed)
            give_back(house, kept)
            self.assertEqual(house, filled())

    def test_a_kept_state_never_changes(self):
        house = filled()
        kept = house.state
        told = repr(kept)
        self.change(house)
        house.restore(kept)
        self.change(house)
        self.assertEqual(repr(kept), told)
        house.restore(kept=kept)
        self.assertEqual([house == filled(), house.umask_of("ann")], [True, "022"])

    def test_states_go_between_a_house_and_its_copies(self):
        house = filled()
        first = house.state
        self.change(house)
        other = house.copied()
        other.set_umask("bob", "000")
        later = other.state
        other.restore(first)
        self.assertEqual(other, filled())
        house.restore(later)
        self.assertEqual([house.umask_of("bob"), house == other], ["000", False])
        other.state = later
        self.assertEqual(house, other)
        self.assertEqual({path: node.number for path, node in house.walk()},
                         {path: node.number for path, node in other.walk()})

    def test_copies_go_their_own_ways(self):
        house = filled()
        other = house.copied()
        self.assertEqual([house == other, type(other), other.people == house.people], [True, House, True])
        self.assertIsNot(house, other)
        self.change(house)
        self.assertEqual(other, filled())
        house = filled()
        self.change(other)
        self.assertEqual(house, filled())

    def test_what_only_asks_leaves_the_state(self):
        house = filled()
        kept = house.state
        told = repr(kept)
        house.paths(), house.names_in("/lab"), list(house.walk()), house.copied(), house["/lab"], "/lab" in house
        len(house), house == filled(), house.umask_of("ann"), repr(house), house.people
        self.assertIs(house.state, kept)
        self.assertEqual(repr(kept), told)


if __name__ == "__main__":
    unittest.main()
