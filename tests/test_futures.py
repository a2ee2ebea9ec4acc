"""What free users can bring about: the least table of a house, and tables that are closed."""

import itertools
import unittest

from filerights.deeds import do
from filerights.errors import InvalidFree, InvalidGoal, InvalidHouse, InvalidPath, InvalidRights, MissingError
from filerights.errors import RefusedError, RightsError, UnknownUser
from filerights.futures import Future, is_closed
from filerights.house import House, lacking
from filerights.judge import Judge
from filerights.lists import AccessList
from filerights.people import People
from filerights.rights import Rights, is_rights
from filerights.words import above, is_path
from helpers import any_values, raised
from houses import drawn_free, drawn_house, goals_of, numbers_of, paths_about, seed_of

PEOPLE = People({"ann": ["staff"], "bob": ["staff"], "cal": ["guests"]})
ALL = AccessList.everything()
REFUGE = "/tmp/refuge"
LETTERS = ["", "r", "w", "x", "rw", "rx", "wx", "rwx"]


def filled():
    house = House(PEOPLE)
    house.add("/lab", "folder", group="staff", access=AccessList.plain("770"))
    house.add("/lab/box", "folder", owner="bob", group="guests", access=AccessList.plain("700"))
    house.add("/lab/box/note", "file", owner="bob", group="guests", access=AccessList.plain("640"))
    house.add("/tmp/plan", "file", owner="cal", access=AccessList.plain("600"))
    return house


class Rules:
    """The three rules of a closed table, read off the document one by one, over sets."""

    def __init__(self, house, free, reach=(), opened=(), away=()):
        self.house, self.free = house, free
        self.reach, self.opened, self.away = set(reach), set(opened), set(away)

    def granted(self, user, path, letters):
        node = self.house[path]
        return Judge(self.house.people)(user, node.owner, node.group, node.access, letters)

    def can(self, user, path, letters):
        return path in self.opened or self.granted(user, path, letters)

    def takes(self, user, path):
        folder = above(path)
        if path in ("/", "/tmp") or folder == "/" or (user, folder) not in self.reach:
            return False
        if not self.can(user, folder, "wx"):
            return False
        owners = (self.house[folder].owner, self.house[path].owner)
        return not self.house[folder].sticky or folder in self.opened or user in owners

    def asked(self):
        """Yield what has to be in the three sets, beside the set."""
        for (path, node), user in itertools.product(self.house.walk(), self.free):
            folder = above(path)
            if folder is None or folder in ("/", "/tmp") or path in self.away:
                yield self.reach, (user, path)
            elif (user, folder) in self.reach and self.can(user, folder, "x"):
                yield self.reach, (user, path)
            if node.owner == user and (user, path) in self.reach and path not in ("/", "/tmp"):
                yield self.opened, path
            if self.takes(user, path) and (node.kind == "file" or self.can(user, path, "w")):
                yield self.away, path

    def is_closed(self):
        return all([fact in facts for facts, fact in self.asked()])

    def least(self):
        """Grow until nothing is missing, in no order that helps."""
        while not self.is_closed():
            for facts, fact in list(self.asked())[::-1]:
                facts.add(fact)
        return self

    def table(self):
        return {"reach": sorted(self.reach), "opened": sorted(self.opened), "away": sorted(self.away)}


def drawn_cases(text, count, most=7, users=4):
    """Yield (source, house, free) that are drawn by a seed."""
    source = seed_of(text)
    for at in range(count):
        house = drawn_house(source, most, users, deep=at % 3 > 0)
        yield source, house, drawn_free(source, house)


def done(house, deed):
    """Carry out a deed, and return whether it was not refused."""
    try:
        do(house, deed)
    except (RightsError, MissingError, RefusedError):
        return False
    return True


def filled_up(house, free):
    """Let free users open all that they own, and move all that they can into a refuge, until nothing more can be done."""
    behind, moved, count = house.copied(), [], -1
    do(behind, (free[0], "folder", REFUGE, "777"))
    do(behind, (free[0], "allow", REFUGE, ALL))
    while count < len(moved):
        count = len(moved)
        for path, node in list(behind.walk()):
            if node.owner in free and (node.access != ALL or node.sticky):
                opened = done(behind, (node.owner, "allow", path, ALL))
                if opened and node.kind == "folder":
                    do(behind, (node.owner, "mark", path, False, node.passes))
        for number in [node.number for path, node in behind.walk() if path != REFUGE]:
            to = f"{REFUGE}/x{'abcdefghijklmnopqrstuvwxyz'[number]}"
            if number not in moved and any([done(behind, (user, "move", at(behind, number), to)) for user in free]):
                moved.append(number)
        # What was moved may be opened now, and what was opened may let more be moved.
        if count == len(moved) and any([can_open(behind, free, path) for path, _ in behind.walk()]):
            count = -1
    return behind


def at(house, number):
    """Return the path of a node."""
    return [path for path, node in house.walk() if node.number == number][0]


def can_open(house, free, path):
    node = house[path]
    return node.owner in free and node.access != ALL and lacking(house, node.owner, path) is None


class FutureTest(unittest.TestCase):
    def test_the_least_table(self):
        seen = {"reach": 0, "opened": 0, "away": 0}
        for _, house, free in drawn_cases("least", 150):
            rules = Rules(house, free).least()
            future = Future(house, free)
            self.assertEqual(future.table(), rules.table())
            self.assertEqual([future.opened(), future.away()], [rules.table()["opened"], rules.table()["away"]])
            self.assertEqual(future.free, sorted(free))
            for kind, facts in future.table().items():
                seen[kind] += len(facts)
        self.assertGreater(min(seen.values()), 40)

    def test_all_at_one_and_the_same_time(self):
        for _, house, free in drawn_cases("together", 60):
            behind, table = filled_up(house, free), Future(house, free).table()
            self.assertTrue(house.paths() or table["reach"])
            for path, node in house.walk():
                now = at(behind, node.number)
                open_now = behind[now].access == ALL and not behind[now].sticky
                self.assertEqual(path in table["away"], above(now) == REFUGE)
                if path in table["opened"]:
                    self.assertTrue(open_now)
                else:
                    self.assertEqual([behind[now].access, behind[now].sticky], [node.access, node.sticky])
                for user in free:
                    self.assertEqual((user, path) in table["reach"], lacking(behind, user, now) is None)

    def test_reaches_can_and_takes(self):
        for source, house, free in drawn_cases("answers", 40):
            rules = Rules(house, free).least()
            future = Future(house, tuple(free))
            for user, path in itertools.product(free, paths_about(source, house)):
                there = path in house
                self.assertIs(future.reaches(user, path), (user, path) in rules.reach)
                self.assertIs(future.takes(user, path), there and rules.takes(user, path))
                for letters in LETTERS:
                    wanted = (user, path) in rules.reach and rules.can(user, path, letters)
                    self.assertIs(future.can(user, path, letters), wanted)
                    self.assertIs(future.can(user, path, Rights(letters)), wanted)

    def test_the_example_in_other_words(self):
        future = Future(filled(), ["bob"])
        self.assertEqual(future.table(), {
            "reach": [("bob", path) for path in ("/", "/lab", "/lab/box", "/lab/box/note", "/tmp", "/tmp/plan")],
            "opened": ["/lab/box", "/lab/box/note"], "away": ["/lab/box", "/lab/box/note"],
        })
        self.assertEqual(Future(filled(), ["cal"]).table(), {
            "reach": [("cal", path) for path in ("/", "/lab", "/tmp", "/tmp/plan")],
            "opened": ["/tmp/plan"], "away": ["/tmp/plan"],
        })

    def test_sticky_folders(self):
        house = filled()
        house.mark("/lab", sticky=True)
        future = Future(house, ["ann"])
        self.assertEqual([future.takes("ann", "/lab/box"), future.can("ann", "/lab", "wx"), future.away()],
                         [False, True, []])
        house.give("/lab", owner="ann")
        self.assertEqual(Future(house, ["ann"]).takes("ann", "/lab/box"), True)
        house.give("/lab", owner="root")
        self.assertEqual([Future(house, ["bob"]).takes("bob", "/lab/box"), Future(house, ["ann"]).takes("ann", "/tmp/plan"),
                          Future(house, ["cal"]).takes("cal", "/tmp/plan")], [True, False, True])

    def test_a_folder_that_is_taken_needs_w_to_go_away(self):
        house = filled()
        self.assertEqual([Future(house, ["ann"]).takes("ann", "/lab/box"), Future(house, ["ann"]).away()], [True, []])
        house["/lab/box"] = AccessList.plain("720")
        self.assertEqual(Future(house, ["ann"]).away(), [])
        house["/lab/box"] = AccessList("", "w", "", users={"ann": "w"})
        self.assertEqual(Future(house, ["ann"]).away(), ["/lab/box"])
        self.assertFalse(Future(house, ["ann"]).can("ann", "/lab/box", "x"))
        house.add("/lab/a", "file")
        self.assertEqual(Future(house, ["ann"]).away(), ["/lab/a", "/lab/box"])

    def test_the_ground_and_what_is_directly_in_it(self):
        house = House(PEOPLE)
        for path in ("/shut", "/own"):
            house.add(path, "folder", owner="ann" if path == "/own" else "root", access=AccessList.plain("000"))
        house.add("/tmp/shut", "folder", owner="ann", access=AccessList.plain("000"))
        future = Future(house, ["ann", "cal"])
        self.assertEqual([future.opened(), future.away()], [["/own", "/tmp/shut"], ["/tmp/shut"]])
        self.assertEqual([future.reaches("cal", path) for path in ("/", "/tmp", "/shut", "/own", "/tmp/shut")], [True] * 5)
        self.assertEqual([future.takes("ann", path) for path in ("/", "/tmp", "/own", "/tmp/shut")],
                         [False, False, False, True])
        self.assertEqual([future.can("cal", "/own", "rwx"), future.can("cal", "/shut", "r"), future.can("ann", "/", "w")],
                         [True, False, False])

    def test_later_changes_have_no_effect(self):
        house = filled()
        future = Future(house, ["ann"])
        told, goals = future.table(), list(future.each_goal())
        house.cut("/lab")
        house.add("/new", "file", owner="ann", access=AccessList.plain("777"))
        house.add("/lab", "file", owner="ann")
        self.assertEqual([future.table(), list(future.each_goal())], [told, goals])
        self.assertEqual([future.reaches("ann", "/new"), future.is_so(("read", "/new"))], [False, False])

    def test_new_lists(self):
        house = filled()
        free = ["bob", "ann"]
        future = Future(house=house, free=free)
        free.append("cal")
        told = future.table()
        self.assertEqual([type(told), [type(facts) for facts in told.values()]], [dict, [list] * 3])
        for facts in (future.table()["reach"], future.opened(), future.away(), future.free, future.table()["opened"]):
            facts.append("x")
        future.table()["more"] = 1
        self.assertEqual([future.table(), future.opened(), future.away(), future.free],
                         [told, told["opened"], told["away"], ["ann", "bob"]])
        self.assertEqual([future == Future(house, ["bob", "ann"]), future == future], [False, True])
        self.assertIsInstance(repr(future), str)

    def test_more_free_users_bring_about_no_less(self):
        for _, house, free in drawn_cases("more", 25):
            users = house.people.users()
            less = Future(house, free)
            for user in users:
                more = Future(house, sorted({*free, user}))
                for kind in ("opened", "away", "reach"):
                    self.assertLessEqual(set(less.table()[kind]), set(more.table()[kind]))


class ClosedTest(unittest.TestCase):
    def check(self, house, free, table):
        """Hold what is told of a table against the rules, and return it."""
        wanted = Rules(house, free, table["reach"], table["opened"], table["away"]).is_closed()
        self.assertIs(is_closed(house, free, table), wanted)
        return wanted

    def test_tables_with_one_thing_less(self):
        count = 0
        for source, house, free in drawn_cases("less", 30):
            table = Future(house, free).table()
            self.assertTrue(self.check(house, free, table))
            for kind in table:
                for at in range(len(table[kind])):
                    self.check(house, free, {**table, kind: table[kind][:at] + table[kind][at + 1:]})
                    count += 1
        self.assertGreater(count, 200)

    def test_tables_with_one_thing_more(self):
        seen = {True: 0, False: 0}
        for source, house, free in drawn_cases("greater", 30):
            table = Future(house, free).table()
            for path in house.paths():
                more = [("reach", (source.choice(free), path)), ("opened", path), ("away", path)]
                for kind, fact in more:
                    if fact not in table[kind]:
                        seen[self.check(house, free, {**table, kind: [fact, *table[kind]]})] += 1
        self.assertGreater(min(seen.values()), 10)

    def test_the_greatest_table(self):
        for _, house, free in drawn_cases("greatest", 10):
            table = {"reach": list(itertools.product(free, ["/", "/tmp", *house.paths()])), "opened": house.paths(),
                     "away": house.paths()}
            self.assertTrue(self.check(house, free, table))

    def test_any_order_and_repetitions(self):
        house, free = filled(), ["ann", "bob"]
        table = Future(house, free).table()
        for kind in table:
            self.assertIs(is_closed(house, free, {**table, kind: table[kind][::-1] + table[kind]}), True)
            self.assertIs(is_closed(house, free, {**table, kind: tuple(table[kind])}), True)
        self.assertIs(is_closed(house, tuple(free), {kind: table[kind] for kind in sorted(table)}), True)
        self.assertIs(is_closed(table=table, free=free[::-1], house=house), True)

    def test_strangers_and_other_kinds(self):
        house, free = filled(), ["ann", "bob"]
        table = Future(house, free).table()
        wrong = {
            "reach": [("cal", "/lab"), ("dan", "/lab"), ("root", "/"), ("ann", "/no"), ["ann", "/lab"], ("ann",), "ann /",
                      ("ann", "/lab", "/lab"), ("/lab", "ann"), ("ann", None), (None, "/lab"), ("ann", ["/lab"])],
            "opened": ["/", "/tmp", "/no", "lab", None, ("/lab",), ["/lab"]],
            "away": ["/", "/tmp", "/no", "/lab/", 1, ("/lab",), {}],
        }
        for kind, facts in wrong.items():
            for fact in facts + any_values():
                self.assertIs(is_closed(house, free, {**table, kind: table[kind] + [fact]}), False, fact)
            for value in any_values():
                if not isinstance(value, (list, tuple)):
                    self.assertIs(is_closed(house, free, {**table, kind: value}), False)
            self.assertIs(is_closed(house, free, {word: table[word] for word in table if word != kind}), False)
            self.assertIs(is_closed(house, free, {**table, "more": []}), False)
            self.assertIs(is_closed(house, free, {(1 if word == kind else word): table[word] for word in table}), False)
        for value in any_values() + [list(table), [table], tuple(table.items())]:
            self.assertIs(is_closed(house, free, value), False)


class RefusedTest(unittest.TestCase):
    def check(self, error_class, value, call):
        error = raised(call)
        self.assertIs(type(error), error_class)
        self.assertIs(list(vars(error).values())[0], value)

    def test_houses_and_free_users(self):
        house = filled()
        for value in any_values():
            if not isinstance(value, House):
                self.check(InvalidHouse, value, lambda: Future(value, None))
                self.check(InvalidHouse, value, lambda: is_closed(value, None, None))
            if not isinstance(value, (list, tuple)) or not value:
                self.check(InvalidFree, value, lambda: Future(house, value))
                self.check(InvalidFree, value, lambda: is_closed(house, value, None))
            if value != "ann":
                for free in ([value], ["ann", value, "zed"], ("bob", value)):
                    self.check(UnknownUser, value, lambda: Future(house, free))
                    self.check(UnknownUser, value, lambda: is_closed(house, free, None))

    def test_the_first_of_several(self):
        house = filled()
        again = "".join(["an", "n"])
        for free in (["ann", again], ["ann", "bob", again, "zed"], ["bob", "ann", again, again]):
            self.check(UnknownUser, again, lambda: Future(house, free))
        for name in ("root", "staff", "zed"):
            self.check(UnknownUser, name, lambda: Future(house, ["ann", name, "ann"]))

    def test_the_methods(self):
        future = Future(filled(), ["ann", "cal"])
        for value in any_values() + ["bob", "root", ["ann"]]:
            if value != "ann":
                self.check(UnknownUser, value, lambda: future.reaches(value, None))
                self.check(UnknownUser, value, lambda: future.can(value, None, None))
                self.check(UnknownUser, value, lambda: future.takes(value, None))
            if not is_path(value):
                self.check(InvalidPath, value, lambda: future.reaches("ann", value))
                self.check(InvalidPath, value, lambda: future.can("ann", value, "z"))
                self.check(InvalidPath, value, lambda: future.takes("ann", value))
            if not is_rights(value):
                self.check(InvalidRights, value, lambda: future.can("ann", "/lab", value))
                self.check(InvalidRights, value, lambda: future.can("ann", "/no", value))
            self.check(InvalidGoal, value, lambda: future.is_so(value))
        self.assertEqual([future.reaches(path="/lab", user="ann"), future.takes(path="/lab", user="ann")], [True, False])
        self.assertEqual(future.can(letters="x", path="/lab", user="ann"), True)

    def test_goals_of_strangers(self):
        future = Future(filled(), ["ann", "cal"])
        for goal in (("led", "ann", "/lab"), ("shut", "cal", "/lab"), ("led", "zed", "/lab"), ("shut", "root", "/lab"),
                     ["read", "/lab"], ("read", "lab"), ("read",), ("led", "/lab"), ("read", "bob", "/lab")):
            self.check(InvalidGoal, goal, lambda: future.is_so(goal))
        self.assertIs(future.is_so(goal=("led", "bob", "/lab/new")), True)


class EachGoalTest(unittest.TestCase):
    def test_against_is_so(self):
        for _, house, free in drawn_cases("each", 40):
            future = Future(house, free)
            wanted = []
            for path in house.paths():
                wanted += [goal for goal in goals_of(house, free, [path]) if future.is_so(goal)]
            found = list(future.each_goal())
            self.assertEqual(found, wanted)
            self.assertEqual(len(found), len(set(found)))

    def test_it_is_a_generator_and_the_house_stays(self):
        house = filled()
        numbers = numbers_of(house)
        goals = Future(house, ["bob"]).each_goal()
        self.assertEqual([next(goals), next(goals)], [("gone", "/lab/box"), ("lost", "/lab/box")])
        house.cut("/lab/box")
        self.assertEqual(next(goals), ("made", "/lab/box"))
        self.assertEqual(list(Future(House(PEOPLE), ["bob"]).each_goal()), [])
        self.assertNotEqual(numbers_of(house), numbers)


if __name__ == "__main__":
    unittest.main()
