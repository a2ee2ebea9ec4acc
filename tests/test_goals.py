"""Goals: which values are goals, which rows meet them, and what is decided of them."""

import unittest

from filerights.deeds import do
from filerights.errors import InvalidDeeds, InvalidFree, InvalidGoal, InvalidHouse, MissingError, RefusedError
from filerights.errors import RightsError, UnknownUser
from filerights.futures import Future, is_closed
from filerights.goals import check, decide, is_goal, is_met
from filerights.house import House, may
from filerights.judge import Judge
from filerights.lists import AccessList
from filerights.people import People
from filerights.words import above, is_path, parts_of
from helpers import any_values, raised
from houses import PATH_WORDS, USER_WORDS, drawn_deeds, drawn_free, drawn_house, goals_of, numbers_of, paths_about
from houses import seed_of

PEOPLE = People({"ann": ["staff"], "bob": ["staff"], "cal": ["guests"]})
ALL, NONE = AccessList.everything(), AccessList("", "", "")


def filled():
    house = House(PEOPLE)
    house.add("/lab", "folder", group="staff", access=AccessList.plain("770"))
    house.add("/lab/note", "file", owner="bob", group="staff", access=AccessList.plain("640"), content="north")
    house.add("/lab/box", "folder", owner="bob", group="staff", access=AccessList.plain("775"))
    house.add("/lab/box/plan", "file", owner="ann", group="staff", access=AccessList.plain("666"))
    house.add("/open", "folder", group="guests", access=AccessList.plain("777"))
    house.add("/open/a", "file", owner="cal", access=AccessList.plain("644"))
    return house


def met(house, goal, deeds):
    """Return whether a row meets a goal, by the sentences of the document."""
    behind, touched = house.copied(), []
    for deed in deeds:
        if deed[1] in ("read", "write") and deed[2] in behind:
            touched.append((deed[1], behind[deed[2]].number))
        try:
            do(behind, deed)
        except (RightsError, MissingError, RefusedError):
            return False
    word, path = goal[0], goal[-1]
    old, new = numbers_of(house), numbers_of(behind)
    if word in ("read", "write"):
        return path in old and (word, old[path]) in touched
    if word == "gone":
        return path in old and new.get(path) != old[path]
    if word == "lost":
        return path in old and old[path] not in new.values()
    if word == "made":
        return path in new and new[path] not in old.values()
    if word == "led":
        if not may(behind, goal[1], path, "r") or behind[path].kind == "folder":
            return False
        return new[path] not in old.values() or ("write", new[path]) in touched
    readable = path in old and house[path].kind == "file" and may(house, goal[1], path, "r")
    return readable and not may(behind, goal[1], path, "r")


class Words:
    """What the document says of goals, by the answers of a Future."""

    def __init__(self, house, free):
        self.house, self.free = house, free
        self.future = Future(house, free)
        self.opened, self.away = self.future.opened(), self.future.away()

    def loose(self, path):
        return any([self.future.takes(user, path) for user in self.free])

    def gets(self, user, path, letters):
        node = self.house[path]
        return path in self.opened or Judge(self.house.people)(user, node.owner, node.group, node.access, letters)

    def can(self, path, letters):
        return any([self.future.can(user, path, letters) for user in self.free])

    def way(self, path):
        parts = parts_of(path)
        return ["/" + "/".join(parts[:count + 1]) for count in range(len(parts))]

    def lost(self, path):
        entries = [place for place in self.house.paths() if above(place) == path]
        return self.loose(path) and all([entry in self.away or self.lost(entry) for entry in entries])

    def place(self, path):
        for place in self.way(path):
            if place not in self.house:
                return place, self.can(above(place), "wx")
            if self.loose(place):
                return place, True
            if self.house[place].kind == "file" and place != path:
                return place, False
        return None, False

    def says(self, goal):
        word, path = goal[0], goal[-1]
        there = path in self.house
        is_file = there and self.house[path].kind == "file"
        if word in ("read", "write"):
            return is_file and self.can(path, word[0])
        if word == "gone":
            return there and any([self.loose(place) for place in self.way(path)])
        if word == "lost":
            return there and self.lost(path)
        place, can_be = self.place(path)
        if word == "made":
            return can_be
        if word == "led":
            if place is not None:
                return can_be and all([self.gets(goal[1], folder, "x") for folder in ["/", *self.way(place)[:-1]]])
            walks = all([self.gets(goal[1], folder, "x") for folder in ["/", *self.way(path)[:-1]]])
            return is_file and walks and self.gets(goal[1], path, "r") and self.can(path, "w")
        now = is_file and may(self.house, goal[1], path, "r")
        return now and any([self.loose(place) or place in self.opened for place in self.way(path)])


def drawn_cases(text, count, most=7, users=4):
    """Yield (source, house, free, goals) that are drawn by a seed."""
    source = seed_of(text)
    for at in range(count):
        house = drawn_house(source, most, users, deep=at % 4 > 0)
        free = drawn_free(source, house)
        yield source, house, free, goals_of(house, free, paths_about(source, house))


class IsGoalTest(unittest.TestCase):
    def test_goals(self):
        house = filled()
        for path in ("/", "/lab", "/lab/note", "/no/where", "/lab/note/x", "/a" * 20):
            for word in PATH_WORDS:
                self.assertIs(is_goal(house, ["ann"], (word, path)), True)
                self.assertIs(is_goal(house, ["ann"], (word, "bob", path)), False)
            for word in USER_WORDS:
                self.assertIs(is_goal(house, ("ann", "cal"), (word, "bob", path)), True)
                self.assertIs(is_goal(goal=(word, "bob", path), free=["ann"], house=house), True)
                for user in ("ann", "cal", "dan", "root", "", "staff", None, ["bob"]):
                    self.assertIs(is_goal(house, ["ann", "cal"], (word, user, path)), False)
                self.assertIs(is_goal(house, ["ann"], (word, path)), False)

    def test_other_values(self):
        house = filled()
        others = [["read", "/lab"], ("read", "lab"), ("read", "/lab/"), ("read", ["/lab"]), ("Read", "/lab"), ("read",),
                  ("read", "/lab", "x"), ("led", "bob", "/lab", "x"), ("led", "/lab", "bob"), (["read"], "/lab"),
                  ("move", "/lab"), "read /lab", (None, "/lab"), ("read", None), ("led", "bob", None)]
        for value in any_values() + others:
            self.assertIs(is_goal(house, ["ann"], value), False, value)
            self.assertIs(is_goal(house, ["ann"], ("read", value)), is_path(value))
            self.assertIs(is_goal(house, ["ann"], (value, "/lab")), False)


class IsMetTest(unittest.TestCase):
    def test_drawn_rows(self):
        seen = {}
        for source, house, free, goals in drawn_cases("rows", 60):
            for _ in range(3):
                row = drawn_deeds(source, house, free, 12)
                for goal in goals:
                    wanted = met(house, goal, row)
                    self.assertIs(is_met(house, free, goal, row), wanted)
                    seen[(goal[0], wanted)] = seen.get((goal[0], wanted), 0) + 1
        self.assertEqual({word for word, wanted in seen if wanted}, {*PATH_WORDS, *USER_WORDS})

    def check(self, goal, deeds, wanted, free=("ann",)):
        house = filled()
        self.assertIs(is_met(house, list(free), goal, deeds), wanted)
        self.assertEqual([house, numbers_of(house)], [filled(), numbers_of(filled())])

    def test_read_and_write(self):
        note = "/lab/note"
        self.check(("read", note), [("ann", "read", note)], True)
        self.check(("read", note), [], False)
        self.check(("write", note), [("ann", "read", note)], False)
        self.check(("write", note), [("ann", "write", note, "x")], False)
        self.check(("write", "/lab/box/plan"), (("ann", "write", "/lab/box/plan", ""),), True)
        self.check(("read", "/lab"), [("ann", "read", note)], False)
        self.check(("read", "/lab/no"), [("ann", "read", note)], False)
        # It is the node that counts, wherever it is when it is read.
        self.check(("read", note), [("ann", "move", note, "/lab/a"), ("ann", "read", "/lab/a")], True)
        anew = [("ann", "move", note, "/lab/a"), ("ann", "file", note, "666"), ("ann", "read", note)]
        self.check(("read", note), anew, False)
        self.check(("read", note), anew + [("ann", "read", "/lab/a")], True)
        self.check(("read", note), [("ann", "read", note), ("ann", "remove", note)], True)
        self.check(("read", note), [("ann", "read", note), ("ann", "remove", "/lab")], False)

    def test_gone_lost_and_made(self):
        note = "/lab/note"
        moved, removed = [("ann", "move", note, "/lab/a")], [("ann", "remove", note)]
        back = [("ann", "move", "/lab/a", note)]
        for row, wanted in ((moved, [True, False, False]), (removed, [True, True, False]), (moved + back, [False] * 3),
                            (removed + [("ann", "file", note, "666")], [True, True, True]),
                            (moved + [("ann", "folder", note, "777")], [True, False, True]),
                            (moved + [("ann", "move", "/lab/box", note)], [True, False, False])):
            for word, told in zip(("gone", "lost", "made"), wanted):
                self.check((word, note), row, told)
        box = [("ann", "move", "/lab/box", "/lab/bag")]
        self.check(("gone", "/lab/box/plan"), box, True)
        self.check(("lost", "/lab/box/plan"), box, False)
        self.check(("gone", "/lab/no"), [], False)
        self.check(("lost", "/lab/no"), removed, False)
        self.check(("made", "/lab/a"), moved, False)
        self.check(("made", "/lab/a"), [("ann", "folder", "/lab/a", "000")], True)
        self.check(("made", "/lab/a/b"), [("ann", "folder", "/lab/a", "777"), ("ann", "file", "/lab/a/b", "000")], True)

    def test_led(self):
        goal, note = ("led", "bob", "/lab/box/plan"), "/lab/box/plan"
        self.check(goal, [("ann", "write", note, "x")], True)
        self.check(goal, [("ann", "read", note)], False)
        self.check(goal, [("ann", "write", note, "x"), ("ann", "allow", note, NONE)], False)
        anew = [("ann", "remove", note), ("ann", "file", note, "666")]
        self.check(goal, anew, True)
        self.check(goal, anew + [("ann", "allow", note, NONE)], False)
        self.check(goal, [("ann", "remove", note), ("ann", "folder", note, "777")], False)
        # A file that was there at present is none that is new, unless it is written.
        old = [("ann", "remove", note), ("ann", "move", "/lab/note", note)]
        self.check(goal, old, False)
        self.check(goal, [("ann", "allow", "/lab/box/plan", ALL)], False)
        self.check(("led", "bob", "/lab/a"), [("ann", "write", note, ""), ("ann", "move", note, "/lab/a")], True)
        self.check(("led", "cal", note), anew, False)

    def test_shut(self):
        goal, plan = ("shut", "bob", "/lab/box/plan"), "/lab/box/plan"
        self.check(goal, [("ann", "allow", plan, NONE)], True)
        self.check(goal, [("ann", "move", "/lab/box", "/lab/bag")], True)
        self.check(goal, [("ann", "move", plan, "/lab/a"), ("ann", "file", plan, "666")], False)
        self.check(goal, [], False)
        self.check(("shut", "cal", plan), [("ann", "allow", plan, NONE)], False)
        self.check(("shut", "bob", "/lab/box"), [("ann", "move", "/lab/box", "/lab/bag")], False)
        self.check(("shut", "bob", "/lab/no"), [], False)

    def test_wrong_rows(self):
        house, goal = filled(), ("read", "/lab/note")
        good = ("ann", "read", "/lab/note")
        wrong = [("bob", "read", "/lab/note"), ("root", "read", "/lab/note"), ("dan", "read", "/lab/note"), list(good),
                 ("ann", "read"), ("ann", "look", "/lab/note")]
        for value in any_values() + wrong:
            rows = [[value], [good, value], (good, value)] + ([] if isinstance(value, (list, tuple)) else [value])
            for row in rows:
                error = raised(is_met, house, ["ann"], goal, row)
                self.assertIs(type(error), InvalidDeeds)
                self.assertIs(error.value, row)
                for word in ("row", "never"):
                    self.assertIs(check(house, ["ann"], goal, (word, row)), False)


class DecideTest(unittest.TestCase):
    def test_drawn_houses(self):
        seen = {}
        for _, house, free, goals in drawn_cases("decide", 50):
            words, kept = Words(house, free), house.copied()
            for goal in goals:
                wanted = words.says(goal)
                self.assertIs(words.future.is_so(goal), wanted, goal)
                word, told = decide(house, free, goal)
                self.assertEqual(word, "row" if wanted else "never")
                self.assertIs(check(house, free, goal, (word, told)), True)
                seen[(goal[0], word)] = seen.get((goal[0], word), 0) + 1
                if wanted:
                    self.check_row(house, free, goal, told)
                else:
                    self.assertIs(is_closed(house, free, told), True)
            self.assertEqual([house, numbers_of(house)], [kept, numbers_of(kept)])
        self.assertEqual(set(seen), {(goal, word) for goal in PATH_WORDS + USER_WORDS for word in ("row", "never")})

    def check_row(self, house, free, goal, row):
        self.assertIs(type(row), list)
        self.assertTrue(met(house, goal, row))
        self.assertTrue({deed[0] for deed in row} <= set(free))
        for at in range(len(row)):
            self.assertFalse(met(house, goal, row[:at] + row[at + 1:]))

    def test_houses_of_twenty_four_nodes_twelve_deep(self):
        house = House(PEOPLE)
        for count in range(1, 13):
            path = "/a" * count
            house.add(path, "folder", owner=("bob", "ann", "root")[count % 3], group="staff", access=AccessList.plain("770"))
            house.mark(path, sticky=count % 2 == 0)
            if count < 12:
                house.add(path + "/b", "file", owner=("ann", "cal", "bob")[count % 3], access=AccessList.plain("600"))
        for free in (["ann"], ["ann", "bob"], ["cal"]):
            future = Future(house, free)
            for goal in goals_of(house, free, [house.paths()[at] for at in (3, 11, 22)]):
                word, told = decide(house, free, goal)
                self.assertEqual(word == "row", future.is_so(goal))
                self.assertTrue(check(house, free, goal, (word, told)))
                if word == "row":
                    self.check_row(house, free, goal, told)

    def test_nothing_else_is_ever_met(self):
        count = 0
        for source, house, free, goals in drawn_cases("never", 30):
            never = [goal for goal in goals if decide(house, free, goal)[0] == "never"]
            for _ in range(5):
                row = drawn_deeds(source, house, free, 25)
                count += len(row)
                for goal in never:
                    self.assertFalse(met(house, goal, row), (goal, row))
        self.assertGreater(count, 500)

    def test_in_tmp_and_on_the_ground(self):
        house = House(PEOPLE)
        self.assertEqual(decide(house, ["ann"], ("made", "/tmp/a"))[0], "row")
        self.assertEqual([word for word, _ in [decide(house, ["ann"], (word, path)) for word in PATH_WORDS
                                               for path in ("/", "/tmp", "/a")]], ["never"] * 15)
        word, row = decide(house, ["ann"], ("led", "cal", "/tmp/a/b"))
        self.assertEqual([word, met(house, ("led", "cal", "/tmp/a/b"), row)], ["row", True])
        house.set_umask("ann", "777")
        self.check_row(house, ["ann"], ("led", "cal", "/tmp/a/b"), decide(house, ["ann"], ("led", "cal", "/tmp/a/b"))[1])

    def check_word(self, house, free, goal, wanted):
        word, told = decide(house, free, goal)
        self.assertEqual([word, Future(house, free).is_so(goal)], [wanted, wanted == "row"])
        self.assertTrue(check(house, free, goal, (word, told)))
        if word == "row":
            self.check_row(house, free, goal, told)

    def test_led_to_a_file_that_is_written(self):
        house = House(PEOPLE)
        house.add("/lab", "folder", access=AccessList("", "", "", users={"ann": "x"}))
        house.add("/lab/note", "file", access=AccessList("", "", "", users={"ann": "w", "bob": "r"}))
        goal = ("led", "bob", "/lab/note")
        self.check_word(house, ["ann"], goal, "never")
        house["/lab"] = house["/lab"].access.with_entry("user", "x", name="bob")
        self.check_word(house, ["ann"], goal, "row")
        house["/lab/note"] = house["/lab/note"].access.with_entry("user", "w", name="bob")
        self.check_word(house, ["ann"], goal, "never")
        # The owner of the file, who is free, lets them read it, and the owner of the folder lets them in.
        house.give("/lab/note", owner="cal")
        self.check_word(house, ["ann", "cal"], goal, "never")
        house["/lab"] = AccessList("", "", "", users={"ann": "x", "cal": "x", "bob": "x"})
        self.check_word(house, ["ann", "cal"], goal, "row")
        self.check_word(house, ["cal"], goal, "row")
        house["/lab"] = AccessList("", "", "", users={"ann": "x", "cal": "x"})
        self.check_word(house, ["ann", "cal"], goal, "never")
        house.give("/lab", owner="ann")
        self.check_word(house, ["ann", "cal"], goal, "row")

    def test_shut_by_the_owner_of_a_file_that_stays(self):
        house = House(PEOPLE)
        house.add("/plan", "file", owner="ann", access=AccessList.plain("644"))
        house.add("/lab", "folder", access=AccessList.plain("755"))
        house.add("/lab/note", "file", owner="ann", access=AccessList.plain("604"))
        for path in ("/plan", "/lab/note"):
            self.check_word(house, ["ann"], ("shut", "cal", path), "row")
            self.check_word(house, ["bob"], ("shut", "cal", path), "never")
            self.check_word(house, ["ann"], ("gone", path), "never")
        house["/plan"] = AccessList.plain("640")
        self.check_word(house, ["ann"], ("shut", "cal", "/plan"), "never")

    def test_new_values(self):
        house, goal = filled(), ("read", "/lab/note")
        first = decide(house=house, free=("ann",), goal=goal)
        first[1].append("x")
        self.assertEqual(len(decide(house, ["ann"], goal)[1]), 1)
        never = decide(house, ["cal"], goal)
        self.assertEqual([type(never), never[0], never[1]], [tuple, "never", Future(house, ["cal"]).table()])
        never[1]["reach"].clear()
        self.assertEqual(decide(house, ["cal"], goal)[1], Future(house, ["cal"]).table())


class CheckTest(unittest.TestCase):
    def test_spoilt_answers(self):
        for _, house, free, goals in drawn_cases("spoilt", 12, most=5):
            for goal in goals[::3]:
                word, told = decide(house, free, goal)
                if word == "row":
                    spoilt = [told[:at] + told[at + 1:] for at in range(len(told))]
                    spoilt += [told + [("root", "umask", "000")], told + [(free[0], "remove", "/")], {}, None]
                else:
                    spoilt = [{**told, "reach": told["reach"][1:]}, {**told, "opened": ["/"]}, {**told, "more": []}, []]
                for value in spoilt:
                    self.assertIs(check(house, free, goal, (word, value)), False)
                for answer in ([word, told], (word,), (word, told, None), (told, word), told, (None, told), ([word], told),
                               ("row" if word == "never" else "never", told), (word.upper(), told)):
                    self.assertIs(check(house, free, goal, answer), False)

    def test_a_row_and_a_table_never_both_pass(self):
        for _, house, free, goals in drawn_cases("both", 15, most=5):
            future = Future(house, free)
            least = future.table()
            users, paths = house.people.users(), house.paths()
            full = {"reach": [(user, path) for user in users for path in ["/", "/tmp", *paths] if user in free],
                    "opened": paths, "away": paths}
            for goal in goals:
                self.assertIs(check(house, free, goal, ("never", least)), not future.is_so(goal))
                if check(house, free, goal, ("never", full)):
                    self.assertFalse(future.is_so(goal))

    def test_a_closed_table_that_is_not_the_least_one(self):
        house, free = filled(), ["cal"]
        more = Future(house, free).table()
        more["reach"] = more["reach"] + [("cal", "/lab/note")]
        self.assertIs(is_closed(house, free, more), True)
        self.assertIs(check(house, free, ("read", "/lab/note"), ("never", more)), True)
        more["opened"] = more["opened"] + ["/lab/note"]
        self.assertIs(is_closed(house, free, more), True)
        self.assertIs(check(house, free, ("read", "/lab/note"), ("never", more)), False)
        self.assertIs(check(house, free, ("read", "/lab/box/plan"), ("never", more)), True)

    def test_lists_and_tuples(self):
        house, goal = filled(), ("read", "/lab/note")
        word, row = decide(house, ["ann"], goal)
        self.assertIs(check(house, ["ann"], goal, (word, tuple(row))), True)
        self.assertIs(check(answer=(word, row + row), goal=goal, free=("ann",), house=house), True)
        self.assertIs(check(house, ["ann"], goal, (word, [list(deed) for deed in row])), False)
        word, table = decide(house, ["cal"], goal)
        self.assertIs(check(house, ["cal"], goal, (word, {kind: tuple(table[kind]) for kind in table})), True)
        self.assertIs(check(house, ["cal"], goal, (word, {**table, "reach": [list(pair) for pair in table["reach"]]})), False)

    def test_any_values(self):
        house = filled()
        for value in any_values():
            for goal in (("read", "/lab/note"), ("made", "/a")):
                self.assertIs(check(house, ["ann"], goal, value), False)
                self.assertIs(check(house, ["ann"], goal, ("row", value)), False)
                self.assertIs(check(house, ["ann"], goal, ("never", value)), False)
                self.assertIs(check(house, ["ann"], goal, (value, [])), False)


class RefusedTest(unittest.TestCase):
    def calls(self, house, free, goal):
        return [lambda: is_met(house, free, goal, None), lambda: decide(house, free, goal),
                lambda: check(house, free, goal, None)]

    def wrong(self, error_class, value, calls):
        for call in calls:
            error = raised(call)
            self.assertIs(type(error), error_class)
            self.assertIs(list(vars(error).values())[0], value)

    def test_the_order_of_the_checks(self):
        house = filled()
        for value in any_values():
            if not isinstance(value, House):
                self.wrong(InvalidHouse, value, [*self.calls(value, None, None), lambda: is_goal(value, None, None)])
            if not isinstance(value, (list, tuple)) or not value:
                self.wrong(InvalidFree, value, [*self.calls(house, value, None), lambda: is_goal(house, value, None)])
            if value != "ann":
                self.wrong(UnknownUser, value, [*self.calls(house, ["bob", value], None),
                                                lambda: is_goal(house, [value], None)])
            self.wrong(InvalidGoal, value, self.calls(house, ["ann"], value))
        again = "".join(["bo", "b"])
        self.wrong(UnknownUser, again, self.calls(house, ["bob", again], None))
        for goal in (("led", "ann", "/lab"), ("shut", "dan", "/lab"), ["read", "/lab"], ("read", "lab")):
            self.wrong(InvalidGoal, goal, self.calls(house, ["ann"], goal))


if __name__ == "__main__":
    unittest.main()
