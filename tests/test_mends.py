"""Mends: changes of a house, the fewest that keep goals from being met, and trees of cases that show it."""

import itertools
import unittest

from filerights.errors import InvalidDeeds, InvalidEntry, InvalidGoals, InvalidHouse, InvalidInteger, InvalidKeeps, Kept
from filerights.futures import Future
from filerights.goals import decide, is_met, support
from filerights.house import House, may
from filerights.lists import AccessList
from filerights.mends import changed, check_mend, fewest_mend, is_change
from filerights.people import People
from filerights.rights import Rights, is_rights
from filerights.words import is_list, is_path
from helpers import any_values, raised
from houses import drawn_free, drawn_house, goals_of, numbers_of, seed_of

PEOPLE = People({"ann": ["staff"], "bob": ["staff"], "cal": ["guests"]})


def filled():
    house = House(PEOPLE)
    house.add("/lab", "folder", group="staff", access=AccessList.plain("770"))
    house.add("/lab/note", "file", owner="bob", group="staff",
              access=AccessList("rw", "r", "", users={"cal": "rw"}, groups={"guests": "r"}))
    house.add("/lab/box", "folder", owner="bob", group="guests", access=AccessList.plain("705"))
    house.mark("/lab/box", sticky=True)
    return house


def all_changes(house):
    found = []
    for path in house.paths():
        for kind, name, rights in house[path].access.entries():
            found += [("take", path, kind, name, letter) for letter in rights.listed()]
        if house[path].kind == "folder" and not house[path].sticky:
            found.append(("sticky", path))
    return found


def after(house, changes):
    """Return a copy of a house behind changes, made by the methods of the administrator."""
    other = house.copied()
    for change in changes:
        if change[0] == "sticky":
            other.mark(change[1], sticky=True)
        else:
            _, path, kind, name, letter = change
            held = [rights for one, told, rights in other[path].access.entries() if (one, told) == (kind, name)][0]
            other[path] = other[path].access.with_entry(kind, held - Rights(letter), name=name)
    return other


def is_mend(house, never, keeps, changes):
    behind = after(house, changes)
    if any([Future(behind, free).is_so(goal) for free, goal in never]):
        return False
    return all([may(behind, *keep) for keep in keeps])


def drawn_case(source):
    """Return a small house, goals that can be met, at times by other free users, and what is to be kept."""
    found = []
    while not found:
        house = drawn_house(source, 3, users=3)
        free = drawn_free(source, house)
        found = [goal for goal in goals_of(house, free, house.paths()) if Future(house, free).is_so(goal)]
    never = [(free, goal) for goal in source.sample(found, min(source.randint(1, 2), len(found)))]
    other = drawn_free(source, house)
    never += [(other, goal) for goal in goals_of(house, other, house.paths()[-1:]) if source.random() < 0.2]
    keeps = [(user, path, letters) for user in house.people.users() for path in house.paths() for letters in ("r", "wx", "x")
             if may(house, user, path, letters)]
    return house, never[:6], source.sample(keeps, source.choice([0, 0, min(2, len(keeps))]))


class ChangeTest(unittest.TestCase):
    def test_changes(self):
        house = filled()
        for change in all_changes(house):
            self.assertIs(is_change(house, change), True)
        self.assertEqual(len(all_changes(house)), 20)
        for change in (("take", "/lab/note", "user", "cal", "w"), ("take", "/lab/note", "mask", "", "r"),
                       ("take", "/lab/note", "named", "guests", "r"), ("sticky", "/lab")):
            self.assertIs(is_change(value=change, house=house), True)

    def test_what_is_no_change(self):
        house = filled()
        wrong = [
            ("take", "/lab", "other", "", "r"), ("take", "/lab", "mask", "", "r"), ("take", "/lab/note", "other", "", "r"),
            ("take", "/lab/note", "user", "ann", "r"), ("take", "/lab/note", "user", "cal", "x"),
            ("take", "/lab/note", "named", "staff", "r"), ("take", "/lab/note", "group", "guests", "r"),
            ("take", "/lab", "owner", "", "rw"), ("take", "/lab", "owner", "", ""), ("take", "/lab", "owner", "", None),
            ("take", "/lab", "owner", "", Rights("r")), ("take", "/lab", "owner", "r"), ("take", "/lab", "owner", "", "r", ""),
            ("take", "/no", "owner", "", "r"), ("take", "/", "owner", "", "r"), ("take", "/tmp", "other", "", "w"),
            ("take", "lab", "owner", "", "r"), ("Take", "/lab", "owner", "", "r"), ["take", "/lab", "owner", "", "r"],
            ("sticky", "/lab/box"), ("sticky", "/lab/note"), ("sticky", "/tmp"), ("sticky", "/"), ("sticky", "/no"),
            ("sticky", "/lab", True), ("sticky",), ["sticky", "/lab"], ("passes", "/lab"), "sticky /lab",
            ("sticky", "/lab", "owner", "", "r"), ("take", "/lab"), (("sticky", "/lab"),),
        ]
        for value in any_values() + wrong:
            self.assertIs(is_change(house, value), False, value)
        good = ("take", "/lab", "owner", "", "r")
        for at, value in itertools.product(range(5), any_values()):
            self.assertIs(is_change(house, (*good[:at], value, *good[at + 1:])), (at, value) in (
                (2, "owner"), (3, ""), (4, "r")) and isinstance(value, str))
            self.assertIs(is_change(house, ("sticky", value)), False)

    def test_changed(self):
        house = filled()
        for change in all_changes(house):
            other = changed(house, [change])
            self.assertEqual(other, after(house, [change]))
            self.assertEqual(numbers_of(other), numbers_of(house))
            self.assertIs(is_change(other, change), False)
            self.assertEqual(changed(house, (change, change)), other)
        source = seed_of("changed")
        for count in (0, 2, 5, 15):
            changes = source.sample(all_changes(house), count)
            self.assertEqual(changed(house, changes), after(house, changes))
            self.assertEqual(changed(changes=changes[::-1] + changes, house=house), after(house, changes))
        self.assertEqual(house, filled())
        access = AccessList("rwx", "r", "", users={"ann": "rwx", "bob": "rw"}, groups={"guests": "rwx", "staff": "rx"})
        house["/lab"] = access
        changes = [("take", "/lab", "user", "bob", "w"), ("take", "/lab", "named", "staff", "x")]
        self.assertEqual(str(changed(house, changes)["/lab"].access),
                         "u::rwx,u:ann:rwx,u:bob:r--,g::r--,g:guests:rwx,g:staff:r--,m::rwx,o::---")
        self.assertEqual(str(changed(house, [("take", "/lab", "mask", "", "r")])["/lab"].access),
                         "u::rwx,u:ann:rwx,u:bob:rw-,g::r--,g:guests:rwx,g:staff:r-x,m::-wx,o::---")
        house = filled()
        other = changed(house, [])
        other.cut("/lab")
        self.assertEqual(house, filled())
        self.assertEqual(str(changed(house, [("take", "/lab/note", "user", "cal", "w")])["/lab/note"].access),
                         "u::rw-,u:cal:r--,g::r--,g:guests:r--,m::rw-,o::---")

    def test_wrong_arguments(self):
        house, good = filled(), ("sticky", "/lab")
        for value in any_values():
            if not isinstance(value, House):
                for call in (is_change, changed):
                    error = raised(call, value, None)
                    self.assertEqual([type(error), error.value is value], [InvalidHouse, True])
            if not is_list(value):
                error = raised(changed, house, value)
                self.assertEqual([type(error), error.value is value], [InvalidDeeds, True])
            for changes in ([value], [good, value, None], (good, good, value)):
                error = raised(changed, house, changes)
                self.assertEqual([type(error), error.value is value], [InvalidEntry, True])
        gone = ("sticky", "/lab/box")
        self.assertIs(raised(changed, house, [good, gone, ("sticky", "/no")]).value, gone)
        self.assertEqual(house, filled())


class FewestMendTest(unittest.TestCase):
    def test_against_all_single_changes_and_all_pairs(self):
        source, seen = seed_of("two"), {("mend", 0): True}
        for _ in range(50):
            house, never, keeps = drawn_case(source)
            changes = all_changes(house)
            fewest = [count for count in (0, 1, 2) if any(
                [is_mend(house, never, keeps, some) for some in itertools.combinations(changes, count)])]
            for most in (0, 1, 2):
                word, told, tree = fewest_mend(house, never, keeps, most=most)
                if fewest and fewest[0] <= most:
                    self.assertEqual([word, len(told), type(told)], ["mend", fewest[0], list])
                    self.assertTrue(is_mend(house, never, keeps, told))
                    self.assertEqual(tree is None, told == [])
                else:
                    self.assertEqual([word, told], ["none", most])
                seen[(word, len(told) if word == "mend" else told)] = True
                self.assertIs(check_mend(house, never, keeps, (word, told, tree), most=most), True)
                self.check_tree(house, never, keeps, len(told) - 1 if word == "mend" else most, tree)
        self.assertEqual(len(seen), 6)

    def check_tree(self, house, never, keeps, count, tree):
        if count < 0:
            self.assertIsNone(tree)
            return
        index, deeds, cases = tree
        free, goal = never[index]
        self.assertTrue(is_met(house, free, goal, deeds))
        self.assertEqual(type(cases), list)
        if count == 0:
            self.assertEqual(cases, [])
            return
        told = [change for change, _ in cases]
        self.assertEqual(len(told), len(set(told)))
        self.assertTrue(set(support(house, deeds)) <= set(told))
        if goal[0] not in ("led", "shut"):
            self.assertEqual(set(support(house, deeds)), set(told))
        for change, rest in cases:
            behind = after(house, [change])
            if isinstance(rest, int):
                self.assertFalse(may(behind, *keeps[rest]))
            else:
                self.check_tree(behind, never, keeps, count - 1, rest)

    def test_nothing_is_met_behind_a_mend(self):
        source, count = seed_of("behind"), 0
        for _ in range(40):
            house, never, keeps = drawn_case(source)
            word, told, _ = fewest_mend(house, never, keeps)
            if word == "mend":
                behind = changed(house, told)
                count += len(never)
                for free, goal in never:
                    self.assertEqual(decide(behind, free, goal)[0], "never")
                    before, row = decide(house, free, goal)
                    if before == "row":
                        self.assertFalse(is_met(behind, free, goal, row))
        self.assertGreater(count, 15)

    def test_reading_that_a_goal_leans_on(self):
        house = House(PEOPLE)
        house.add("/lab", "folder", access=AccessList("", "", "", users={"ann": "rwx", "bob": "x"}))
        house.add("/lab/note", "file", owner="ann", access=AccessList.plain("604"))
        for word in ("led", "shut"):
            never = [(["ann"], (word, "bob", "/lab/note"))]
            keeps = [("ann", "/lab", "rwx")]
            answer = fewest_mend(house, never, keeps)
            self.assertEqual(answer[:2], ("mend", [("take", "/lab", "user", "bob", "x")]))
            self.assertIs(check_mend(house, never, keeps, answer), True)
        never = [(["ann"], ("shut", "bob", "/lab/note"))]
        keeps = [("ann", "/lab", "rwx"), ("bob", "/lab", "x")]
        answer = fewest_mend(house, never, keeps)
        self.assertEqual(answer[:2], ("mend", [("take", "/lab/note", "other", "", "r")]))
        self.assertIs(check_mend(house, never, keeps, answer), True)
        never = [(["ann"], ("led", "bob", "/lab/note"))]
        self.assertEqual(fewest_mend(house, never, keeps)[:2], ("none", 2))

    def test_what_is_to_be_kept(self):
        house = House(PEOPLE)
        house.add("/lab", "folder", group="staff", access=AccessList.plain("770"))
        house.add("/lab/note", "file", owner="cal", group="staff", access=AccessList.plain("640"))
        never = [(["ann"], ("read", "/lab/note"))]
        word, told, tree = fewest_mend(house, never, [("ann", "/lab", "rwx")])
        self.assertEqual([word, told], ["mend", [("take", "/lab/note", "group", "", "r")]])
        word, told, tree = fewest_mend(house, never, [("ann", "/lab", "x"), ("bob", "/lab/note", "r")])
        self.assertEqual([word, told], ["none", 2])
        self.assertEqual(sorted([rest for _, rest in tree[2]]), [0, 1])
        self.assertEqual(fewest_mend(house, never, [("bob", "/lab/note", "r")], most=1)[:2], ("none", 1))
        self.assertEqual(fewest_mend(house, [], [("ann", "/lab", Rights("rw"))]), ("mend", [], None))

    def test_names_of_arguments_and_tuples(self):
        house = filled()
        never, keeps = ((("ann",), ("led", "bob", "/lab/new")),), (("bob", "/lab", "rwx"),)
        answer = fewest_mend(keeps=keeps, never=never, house=house, most=1)
        self.assertEqual(answer[0], "none")
        self.assertIs(check_mend(answer=answer, most=1, keeps=keeps, never=never, house=house), True)
        self.assertEqual(house, filled())


class CheckMendTest(unittest.TestCase):
    def setUp(self):
        self.house = House(PEOPLE)
        self.house.add("/lab", "folder", group="staff", access=AccessList.plain("770"))
        self.house.add("/lab/note", "file", owner="cal", group="staff", access=AccessList.plain("640"))
        self.never = [(["ann"], ("read", "/lab/note")), (["ann"], ("gone", "/lab/note"))]
        self.keeps = [("ann", "/lab", "x")]

    def check(self, answer, wanted, most=2):
        self.assertIs(check_mend(self.house, self.never, self.keeps, answer, most=most), wanted, answer)

    def test_a_mend_of_two_changes(self):
        answer = fewest_mend(self.house, self.never, self.keeps)
        word, told, tree = answer
        self.assertEqual([word, len(told)], ["mend", 2])
        self.check(answer, True)
        self.check(answer, False, most=1)
        self.check((word, told[::-1], tree), True)
        self.check((word, tuple(told), tree), True)
        self.check((word, [("sticky", "/lab"), ("take", "/lab/note", "group", "", "r")], tree), True)
        for other in ([], told[:1], told + told[:1], [told[0]] * 2, [("sticky", "/lab"), ("take", "/lab", "owner", "", "r")],
                      [list(change) for change in told], [told[0], ("take", "/lab/note", "other", "", "r")],
                      [("take", "/lab", "group", "", "x"), told[1]], None, told[0]):
            self.check((word, other, tree), False)
        for other in (None, tree[2][0][1], (1 - tree[0], *tree[1:]), (tree[0], [], tree[2]), tree[:2], list(tree), 0):
            self.check((word, told, other), False)
        for other in ([word, told, tree], (word, told), (word, told, tree, None), ("none", told, tree), ("none", 2, tree),
                      ("none", 1, tree), (None, told, tree), ("Mend", told, tree)):
            self.check(other, False)

    def test_a_tree_for_the_right_most_and_no_other_one(self):
        self.never = [(["ann"], ("read", "/lab/note"))]
        self.keeps = [("ann", "/lab", "rwx"), ("bob", "/lab/note", "r")]
        answers = {most: fewest_mend(self.house, self.never, self.keeps, most=most) for most in (0, 1, 2)}
        for most, other in itertools.product(answers, answers):
            _, told, tree = answers[other]
            self.assertEqual(told, other)
            # Each single change loses what is to be kept, so the same tree shows it for one change and for two.
            same = most == other or 0 not in (most, other)
            self.check(("none", most, tree), same, most=most)
            self.check(("none", other, tree), most == other, most=most)
        self.check(("none", True, answers[1][2]), False, most=1)
        self.check(("none", False, answers[0][2]), False, most=0)

    def test_a_tree_that_is_deeper(self):
        self.never = [(["ann"], ("gone", "/lab/note")), (["bob"], ("made", "/lab/a"))]
        self.keeps = [("bob", "/lab", "rwx")]
        answer = fewest_mend(self.house, self.never, self.keeps)
        self.assertEqual(answer[:2], ("none", 2))
        self.check(answer, True)
        index, deeds, cases = answer[2]
        self.check(("none", 2, (index, tuple(deeds), tuple(cases))), True)
        self.check(("none", 2, (index, deeds, cases[::-1])), True)
        for spoilt in (cases[1:], cases + cases[:1], cases[:1] * len(cases), [], {}, [list(case) for case in cases],
                       [(change, 0) for change, _ in cases], [(change, None) for change, _ in cases],
                       [(change, True) for change, _ in cases], [(change, 1) for change, _ in cases],
                       [(("sticky", "/lab/note"), rest) for _, rest in cases], [(*case, None) for case in cases],
                       [case[:1] for case in cases], [() for _ in cases]):
            self.check(("none", 2, (index, deeds, spoilt)), False)
        for at, (change, rest) in enumerate(cases):
            if not isinstance(rest, int):
                for spoilt in ((rest[0], rest[1][:-1], rest[2]), (rest[0], rest[1], rest[2][1:]), (5, *rest[1:]), (True, *rest[1:])):
                    self.check(("none", 2, (index, deeds, [*cases[:at], (change, spoilt), *cases[at + 1:]])), False)

    def test_no_changes(self):
        self.never = []
        self.check(("mend", [], None), True)
        self.check(("mend", (), None), True, most=0)
        self.check(("mend", [], (0, [], [])), False)
        self.check(("mend", [("sticky", "/lab")], None), False)
        self.check(("none", 0, None), False, most=0)
        self.assertEqual(fewest_mend(self.house, self.never, self.keeps), ("mend", [], None))

    def test_any_values(self):
        good = fewest_mend(self.house, self.never, self.keeps)
        for value in any_values():
            self.check(value, False)
            for at in range(3):
                self.check((*good[:at], value, *good[at + 1:]), False)
                self.check(("none", 2, (*good[2][:at], value, *good[2][at + 1:])), False)
            self.check(("mend", [value], good[2]), False)


class RefusedTest(unittest.TestCase):
    def wrong(self, error_class, value, house, never, keeps, most=2):
        for call in (lambda: fewest_mend(house, never, keeps, most=most),
                     lambda: check_mend(house, never, keeps, None, most=most)):
            error = raised(call)
            self.assertIs(type(error), error_class)
            self.assertIs(error.value, value)

    def test_houses_goals_and_keeps(self):
        house, case, keep = filled(), (["ann"], ("read", "/lab/note")), ("ann", "/lab", "r")
        for value in any_values():
            if not isinstance(value, House):
                self.wrong(InvalidHouse, value, value, None, None, None)
            for never in ([] if is_list(value) else [value]) + [[value], [case, value], [case, (value, case[1])],
                                                                [(["ann"], value)], [(["bob", value], case[1])]]:
                if value != "ann":
                    self.wrong(InvalidGoals, never, house, never, None, None)
            for keeps in ([] if is_list(value) else [value]) + [[value], [keep, value], [("no", *keep[1:]), keep], [list(keep)]]:
                self.wrong(InvalidKeeps, keeps, house, [case], keeps, None)
            if value != "ann":
                keeps = [keep, (value, "/lab", "r")]
                self.wrong(InvalidKeeps, keeps, house, [case], keeps, None)
            if not is_path(value):
                keeps = [keep, ("ann", value, "r")]
                self.wrong(InvalidKeeps, keeps, house, [case], keeps, None)
            if not is_rights(value):
                keeps = [keep, ("ann", "/lab", value)]
                self.wrong(InvalidKeeps, keeps, house, [case], keeps, None)
            if not (isinstance(value, int) and not isinstance(value, bool) and 0 <= value <= 2):
                self.wrong(InvalidInteger, value, house, [case], [keep], value)

    def test_free_users_and_goals(self):
        house, goal = filled(), ("read", "/lab/note")
        for free, told in (([], goal), (["ann", "ann"], goal), (["dan"], goal), (["root"], goal), ("ann", goal), (["ann"], None),
                           (["ann"], ("led", "ann", "/lab")), (["ann"], ("led", "dan", "/lab")), (["ann"], list(goal))):
            never = [(free, told)]
            self.wrong(InvalidGoals, never, house, never, [], 2)
        for never in ([(["ann"], goal)] * 7, [[["ann"], goal]], [(["ann"], goal, None)], [(["ann"],)], (["ann"], goal)):
            self.wrong(InvalidGoals, never, house, never, [], 2)

    def test_sizes(self):
        house, goal = filled(), ("read", "/lab")
        keep = ("ann", "/lab", "r")
        self.assertEqual(fewest_mend(house, [(["ann"], goal)] * 6, [keep] * 10), ("mend", [], None))
        keeps = [keep] * 11
        self.wrong(InvalidKeeps, keeps, house, [], keeps, 2)

    def test_rights_that_are_not_there_at_present(self):
        house = filled()
        good = ("ann", "/lab", "rwx")
        for item in (("cal", "/lab", "r"), ("ann", "/lab/note", "w"), ("ann", "/no", ""), ("cal", "/lab/note", "r")):
            keeps = [good, item, ("cal", "/lab", "w")]
            self.wrong(Kept, item, house, [], keeps, 2)
            self.wrong(Kept, item, house, [], tuple(keeps), 9)
        keeps = [("cal", "/lab", "r"), ("dan", "/lab", "r")]
        self.wrong(InvalidKeeps, keeps, house, [], keeps, 2)
        self.wrong(InvalidInteger, 3, house, [], [good], 3)
        self.wrong(InvalidInteger, -1, house, [], [good], -1)


if __name__ == "__main__":
    unittest.main()
