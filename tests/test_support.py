"""Support: the letters and marks on which a row of deeds leans."""

import unittest

from filerights.deeds import do, run
from filerights.errors import DeedFailed, Denied, InvalidDeeds, InvalidHouse, NotOwner, UnknownUser
from filerights.futures import Future
from filerights.goals import decide, support
from filerights.house import House
from filerights.judge import Judge
from filerights.lists import AccessList
from filerights.people import People
from filerights.words import above, is_list
from helpers import any_values, raised
from houses import drawn_free, drawn_house, seed_of

PEOPLE = People({"ann": ["staff", "chess"], "bob": ["staff"], "cal": ["guests"]})
WIDE = AccessList("rwx", "x", "", users={"cal": "rwx"}, groups={"chess": "rwx", "staff": "r"}, mask="rwx")


def filled():
    house = House(PEOPLE)
    house.add("/lab", "folder", owner="bob", group="staff", access=WIDE)
    house.add("/lab/note", "file", owner="bob", group="staff", access=AccessList("rw", "r", "r"))
    house.add("/lab/box", "folder", owner="bob", group="guests", access=AccessList("rwx", "rwx", "rwx"))
    house.add("/lab/box/plan", "file", owner="cal", group="guests", access=AccessList("rw", "r", "rw", mask="r"))
    house.add("/hall", "folder", owner="ann", group="chess", access=AccessList.plain("711"))
    house.add("/hall/shelf", "folder", owner="ann", group="guests", access=AccessList.plain("773"))
    return house


def takes(path, kind, name, letters):
    return [("take", path, kind, name, letter) for letter in letters]


# The way of ann through /lab by the group's entry, and both letters there by that of a named group.
WALK = takes("/lab", "group", "", "x")
BOTH = takes("/lab", "group", "", "x") + takes("/lab", "named", "chess", "wx")
MASK = takes("/lab", "mask", "", "wx")


def possible_changes(house):
    """Return all letters that can be taken away and all folders that can be made sticky."""
    found = []
    for path in house.paths():
        for kind, name, rights in house[path].access.entries():
            found += takes(path, kind, name, rights.listed())
        if house[path].kind == "folder" and not house[path].sticky:
            found.append(("sticky", path))
    return found


def after(house, changes):
    """Return a copy of a house without some letters and with some marks."""
    other = house.copied()
    for word, path, *rest in changes:
        if word == "sticky":
            other.mark(path, sticky=True)
        else:
            kind, name, letter = rest
            entries = {(one, told): rights for one, told, rights in other[path].access.entries()}
            left = "".join([sign for sign in entries[(kind, name)].listed() if sign != letter])
            other[path] = other[path].access.with_entry(kind, left, name=name)
    return other


def place_in_order(house, change):
    """Return what the order of a list of letters and marks goes by."""
    if change[0] == "sticky":
        return (change[1], 1)
    _, path, kind, name, letter = change
    entries = [(one, told) for one, told, _ in house[path].access.entries()]
    return (path, 0, entries.index((kind, name)), "rwx".index(letter))


class Reader:
    """Reads off the document what each deed of a row asks."""

    def __init__(self, house, deeds):
        self.house, self.now, self.found = house, house.copied(), []
        for deed in deeds:
            for user, path, letters in self.asked(deed):
                self.ask(user, path, letters)
            if deed[1] in ("move", "remove"):
                self.mark(deed[0], deed[2])
            do(self.now, deed)

    def present(self, path):
        number = self.now[path].number
        found = [place for place, node in self.house.walk() if node.number == number and place not in ("/", "/tmp")]
        return found[0] if found else None

    def way(self, user, path):
        folder, found = above(path), []
        while folder is not None:
            found.append((user, folder, "x"))
            folder = above(folder)
        return found

    def asked(self, deed):
        user, word, *rest = deed
        path = rest[0]
        if word == "umask":
            return []
        if word in ("file", "folder"):
            return self.way(user, above(path)) + [(user, above(path), "wx")]
        found = self.way(user, path)
        if word in ("read", "write"):
            found.append((user, path, word[0]))
        if word in ("move", "remove"):
            found.append((user, above(path), "wx"))
        if word == "move":
            found += self.way(user, above(rest[1])) + [(user, above(rest[1]), "wx")]
            if self.now[path].kind == "folder" and above(path) != above(rest[1]):
                found.append((user, path, "w"))
        return found

    def ask(self, user, path, letters):
        place, node = self.present(path), self.now[path]
        if place is None or node.access != self.house[place].access:
            return
        judge = Judge(self.now.people)
        granted, entries = judge.deciding(user, node.owner, node.group, node.access, letters)
        assert granted
        self.found += takes(place, *entries[0], letters)
        if entries[0][0] in ("user", "group", "named") and node.access.mask is not None:
            self.found += takes(place, "mask", "", letters)

    def mark(self, user, path):
        folder, node = self.now[above(path)], self.now[path]
        place = self.present(above(path))
        if place is not None and user not in (folder.owner, node.owner) and folder.sticky == self.house[place].sticky:
            self.found.append(("sticky", place))

    def listed(self):
        return sorted(set(self.found), key=lambda change: place_in_order(self.house, change))


def drawn_rows(text, count):
    """Yield (source, house, row) for goals that are met in houses that are drawn by a seed."""
    source = seed_of(text)
    for at in range(count):
        house = drawn_house(source, 6, deep=at % 4 > 0)
        free = drawn_free(source, house)
        goals = list(Future(house, free).each_goal())
        for goal in source.sample(goals, min(6, len(goals))):
            yield source, house, decide(house, free, goal)[1]


class SupportTest(unittest.TestCase):
    def check(self, deeds, wanted):
        house = filled()
        self.assertEqual(support(house, deeds), wanted)
        self.assertEqual(house, filled())

    def test_rows_of_each_word(self):
        note, owned = "/lab/note", takes("/lab", "owner", "", "x")
        self.check([], [])
        self.check([("ann", "umask", "000")], [])
        self.check([("ann", "read", note)], WALK + takes("/lab", "mask", "", "x") + takes(note, "group", "", "r"))
        self.check([("bob", "write", note, "")], owned + takes(note, "owner", "", "w"))
        self.check([("cal", "read", note)],
                   takes("/lab", "user", "cal", "x") + takes("/lab", "mask", "", "x") + takes(note, "other", "", "r"))
        self.check([("ann", "file", "/lab/a", "666")], BOTH[1:] + MASK)
        self.check([("ann", "folder", "/lab/a", "666")], BOTH[1:] + MASK)
        self.check([("bob", "folder", "/lab/a", "666")], takes("/lab", "owner", "", "wx"))
        self.check([("ann", "remove", note)], BOTH + MASK + [("sticky", "/lab")])
        self.check([("bob", "remove", note)], takes("/lab", "owner", "", "wx"))
        self.check([("ann", "move", note, "/lab/a")], BOTH + MASK + [("sticky", "/lab")])
        for deed in (("bob", "allow", note, WIDE), ("bob", "give", note, "staff"), ("bob", "mark", "/lab/box", True, True),
                     ("bob", "default", "/lab/box", None)):
            self.check([deed], owned)
        self.check([("bob", "mark", "/lab", True, True), ("ann", "give", "/hall", "chess")], [])

    def test_the_mask_counts_for_named_users_and_groups_alone(self):
        plan = "/lab/box/plan"
        way = takes("/lab", "user", "cal", "x") + takes("/lab", "mask", "", "x")
        self.check([("cal", "write", plan, "")], way + takes("/lab/box", "group", "", "x") + takes(plan, "owner", "", "w"))
        self.check([("bob", "write", plan, "")],
                   takes("/lab", "owner", "", "x") + takes("/lab/box", "owner", "", "x") + takes(plan, "other", "", "w"))
        house = filled()
        house.give(plan, group="staff", owner="root")
        self.assertEqual(support(house, [("ann", "read", plan)])[-2:],
                         takes(plan, "group", "", "r") + takes(plan, "mask", "", "r"))

    def test_moves_into_another_folder(self):
        self.check([("ann", "move", "/lab/box", "/hall/a")],
                   takes("/hall", "owner", "", "wx") + BOTH + MASK + [("sticky", "/lab")] + takes("/lab/box", "other", "", "w"))
        self.check([("ann", "move", "/lab/box", "/lab/a")], BOTH + MASK + [("sticky", "/lab")])
        self.check([("ann", "move", "/lab/note", "/hall/a")], takes("/hall", "owner", "", "wx") + BOTH + MASK
                   + [("sticky", "/lab")])
        self.check([("cal", "move", "/lab/box/plan", "/hall/shelf/a")],
                   takes("/hall", "other", "", "x") + takes("/hall/shelf", "group", "", "wx")
                   + takes("/lab", "user", "cal", "x") + takes("/lab", "mask", "", "x") + takes("/lab/box", "group", "", "wx"))

    def test_present_paths_and_present_lists(self):
        moved = [("ann", "move", "/lab/box", "/hall/a")]
        box = ("ann", "file", "/hall/a/b", "666")
        self.check(moved + [box], support(filled(), moved)[:-1] + takes("/lab/box", "other", "", "wx"))
        other = AccessList("rwx", "rwx", "rw")
        self.check([("bob", "allow", "/lab/note", other), ("ann", "read", "/lab/note")],
                   takes("/lab", "owner", "", "x") + WALK + takes("/lab", "mask", "", "x"))
        again = [("bob", "allow", "/lab/note", other), ("bob", "allow", "/lab/note", AccessList("rw", "r", "r"))]
        self.assertEqual(support(filled(), again + [("ann", "read", "/lab/note")])[-1:], takes("/lab/note", "group", "", "r"))
        self.check([("ann", "folder", "/hall/a", "777"), ("ann", "file", "/hall/a/b", "666"), ("ann", "read", "/hall/a/b")],
                   takes("/hall", "owner", "", "wx"))
        self.check([("ann", "folder", "/tmp/a", "777"), ("ann", "remove", "/tmp/a")], [])
        new = [("ann", "folder", "/tmp/a", "777"), ("ann", "allow", "/tmp/a", AccessList.everything())]
        self.check(new + [("bob", "file", "/tmp/a/b", "666"), ("cal", "remove", "/tmp/a/b")], [])

    def test_marks(self):
        house, row = filled(), [("ann", "remove", "/lab/note")]
        self.assertIn(("sticky", "/lab"), support(house, row))
        house.mark("/lab", sticky=True)
        unmarked = [("bob", "mark", "/lab", False, False)]
        self.assertNotIn(("sticky", "/lab"), support(house, unmarked + row))
        house.mark("/lab", sticky=False)
        twice = [("bob", "mark", "/lab", True, False), ("bob", "mark", "/lab", False, False)]
        self.assertIn(("sticky", "/lab"), support(house, twice + row))
        house.give("/lab/note", owner="ann")
        self.assertNotIn(("sticky", "/lab"), support(house, row))
        house.give("/lab/note", owner="root")
        house.give("/lab", owner="ann")
        self.assertEqual(support(house, row), takes("/lab", "owner", "", "wx"))

    def test_the_first_entry_that_grants(self):
        house = filled()
        house["/lab"] = AccessList("", "rwx", "", groups={"chess": "rwx"}, mask="rwx")
        self.assertEqual(support(house, [("ann", "file", "/lab/a", "666")]), takes("/lab", "group", "", "wx") + MASK)
        house["/lab"] = AccessList("", "w", "", groups={"chess": "x", "staff": "wx"}, mask="rwx")
        self.assertEqual(support(house, [("ann", "read", "/lab/note")])[:2],
                         takes("/lab", "named", "chess", "x") + takes("/lab", "mask", "", "x"))
        self.assertEqual(support(house, [("ann", "file", "/lab/a", "666")]), takes("/lab", "named", "staff", "wx") + MASK)

    def test_the_order_and_nothing_twice(self):
        count = 0
        for _, house, row in drawn_rows("order", 60):
            found = support(house, row)
            self.assertEqual(found, sorted(set(found), key=lambda change: place_in_order(house, change)))
            self.assertTrue(set(found) <= set(possible_changes(house)))
            count += len(found)
        self.assertGreater(count, 200)

    def test_against_the_sentences(self):
        for _, house, row in drawn_rows("sentences", 80):
            self.assertEqual(support(house, row), Reader(house, row).listed())
            self.assertEqual(support(house=house, deeds=tuple(row)), support(house, row))

    def test_other_changes_do_not_matter(self):
        count = 0
        for source, house, row in drawn_rows("other", 50):
            leaning = support(house, row)
            others = [change for change in possible_changes(house) if change not in leaning]
            for changes in (others, source.sample(others, len(others) // 2), others[:1]):
                other = after(house, changes)
                self.assertEqual(run(other, row), run(house.copied(), row))
                count += len(changes)
        self.assertGreater(count, 500)

    def test_taking_what_it_leans_on_often_refuses_it(self):
        refused = 0
        for _, house, row in drawn_rows("taken", 20):
            for change in support(house, row):
                try:
                    run(after(house, [change]), row)
                except DeedFailed:
                    refused += 1
        self.assertGreater(refused, 50)


class RefusedTest(unittest.TestCase):
    def test_houses_and_rows(self):
        good = ("ann", "read", "/lab/note")
        for value in any_values():
            if not isinstance(value, House):
                error = raised(support, value, None)
                self.assertEqual([type(error), error.value is value], [InvalidHouse, True])
            for deeds in ([] if is_list(value) else [value]) + [[value], [good, value], (value, good)]:
                error = raised(support, filled(), deeds)
                self.assertEqual([type(error), error.value is deeds], [InvalidDeeds, True])

    def test_rows_that_fail(self):
        good = ("ann", "read", "/lab/note")
        for deeds, index, cause in (
            ([("cal", "write", "/lab/note", "")], 0, Denied), ([good, ("dan", "umask", "000"), good], 1, UnknownUser),
            ([good, good, ("ann", "allow", "/lab/note", WIDE)], 2, NotOwner),
        ):
            house = filled()
            error = raised(support, house, deeds)
            self.assertEqual([type(error), error.index, type(error.__cause__)], [DeedFailed, index, cause])
            self.assertEqual(house, filled())


if __name__ == "__main__":
    unittest.main()
