"""Teams of users: the smallest that can meet a goal, the greatest that cannot, and what one user more brings about."""

import itertools
import unittest

from filerights.errors import InvalidFree, InvalidGoal, InvalidHouse, UnknownUser
from filerights.futures import Future
from filerights.house import House
from filerights.lists import AccessList
from filerights.people import People
from filerights.teams import check_teams, greatest_harmless, more_by, smallest_teams
from filerights.words import is_list
from helpers import any_values, raised
from houses import drawn_free, drawn_house, goals_of, paths_about, seed_of


def filled():
    house = House(People({"ann": ["staff"], "bob": ["guests"], "cal": ["guests"]}))
    house.add("/lab", "folder", group="staff", access=AccessList.plain("770"))
    house.add("/lab/box", "folder", group="staff", access=AccessList.plain("727"))
    house.add("/lab/box/note", "file", group="guests", access=AccessList.plain("640"))
    house.add("/lab/list", "file", owner="cal", group="guests", access=AccessList.plain("664"))
    return house


def of_size(users, count):
    return [list(team) for team in itertools.combinations(users, count)]


def by_all_sets(house, goal):
    """Return the smallest and the greatest teams, found by a future of each set of users."""
    users = [user for user in house.people.users() if user not in goal[1:-1]]
    teams = [team for count in range(len(users) + 1) for team in of_size(users, count)]
    can = {tuple(team): bool(team) and Future(house, team).is_so(goal) for team in teams}
    smallest = [team for team in teams if can[tuple(team)] and not any(
        [can[other] for other in can if set(other) < set(team)])]
    greatest = [team for team in teams if not can[tuple(team)] and all(
        [can[tuple(sorted([*team, user]))] for user in users if user not in team])]
    return smallest, greatest, can


def drawn_cases(text, count):
    """Yield (house, goals) that are drawn by a seed."""
    source = seed_of(text)
    for at in range(count):
        house = drawn_house(source, 6, deep=at % 4 > 0)
        goals = goals_of(house, [], paths_about(source, house))
        yield house, source.sample(goals, min(25, len(goals)))


class TeamsTest(unittest.TestCase):
    def test_against_all_sets(self):
        seen = {}
        for house, goals in drawn_cases("teams", 35):
            for goal in goals:
                smallest, greatest, can = by_all_sets(house, goal)
                self.assertEqual(smallest_teams(house, goal), smallest)
                self.assertEqual(greatest_harmless(house, goal), greatest)
                self.assertIs(check_teams(house, goal, smallest, greatest), True)
                for team in can:
                    self.assertEqual(can[team], any([set(part) <= set(team) for part in smallest]))
                    self.assertEqual(not can[team], any([set(team) <= set(whole) for whole in greatest]))
                key = (len(smallest), max([len(team) for team in smallest], default=0))
                seen[key] = True
        self.assertTrue({(0, 0), (1, 1), (2, 1)} <= set(seen))

    def test_teams_of_two(self):
        house = filled()
        self.assertEqual(smallest_teams(house, ("read", "/lab/box/note")), [["ann", "bob"], ["ann", "cal"]])
        self.assertEqual(greatest_harmless(house, ("read", "/lab/box/note")), [["ann"], ["bob", "cal"]])
        self.assertEqual(smallest_teams(house=house, goal=("write", "/lab/list")), [["ann", "bob"], ["ann", "cal"]])
        self.assertEqual(greatest_harmless(goal=("gone", "/lab/list"), house=house), [["bob", "cal"]])
        self.assertEqual(smallest_teams(house, ("made", "/tmp/a")), [["ann"], ["bob"], ["cal"]])
        self.assertEqual(greatest_harmless(house, ("made", "/tmp/a")), [[]])

    def test_the_order_of_the_teams(self):
        house = House(People({user: [user] for user in ["ann", "bob", "cal", "dan"]}))
        house.add("/a", "folder", access=AccessList("", "", "", users={"cal": "wx", "bob": "wx"}))
        house.add("/a/b", "file", access=AccessList("", "", "", users={"ann": "r", "dan": "r", "cal": "r"}))
        self.assertEqual(smallest_teams(house, ("read", "/a/b")), [["cal"], ["ann", "bob"], ["bob", "dan"]])
        self.assertEqual(greatest_harmless(house, ("read", "/a/b")), [["bob"], ["ann", "dan"]])

    def test_the_user_of_a_goal_is_in_no_team(self):
        house = filled()
        for word in ("led", "shut"):
            for path in ("/lab/box/note", "/lab/list", "/tmp/a"):
                for user in ("ann", "bob", "cal"):
                    goal = (word, user, path)
                    for team in smallest_teams(house, goal) + greatest_harmless(house, goal):
                        self.assertNotIn(user, team)
        self.assertEqual(greatest_harmless(house, ("led", "ann", "/lab/list")), [["bob", "cal"]])
        self.assertEqual(smallest_teams(house, ("shut", "bob", "/lab/list")), [])
        house["/lab"] = AccessList.plain("771")
        self.assertEqual(smallest_teams(house, ("shut", "bob", "/lab/list")), [["ann"], ["cal"]])

    def test_goals_that_nobody_can_meet(self):
        house = filled()
        for goal in (("read", "/lab"), ("gone", "/lab"), ("made", "/"), ("write", "/no")):
            self.assertEqual([smallest_teams(house, goal), greatest_harmless(house, goal)], [[], [["ann", "bob", "cal"]]])
        alone = House(People({"ann": ["staff"]}))
        self.assertEqual([smallest_teams(alone, ("led", "ann", "/tmp/a")), greatest_harmless(alone, ("led", "ann", "/tmp/a"))],
                         [[], [[]]])
        self.assertEqual([smallest_teams(alone, ("made", "/tmp/a")), greatest_harmless(alone, ("made", "/tmp/a"))],
                         [[["ann"]], [[]]])

    def test_new_lists(self):
        house, goal = filled(), ("read", "/lab/box/note")
        smallest_teams(house, goal)[0].append("x")
        smallest_teams(house, goal).clear()
        self.assertEqual(len(smallest_teams(house, goal)[0]), 2)
        self.assertEqual(house, filled())

    def test_six_users(self):
        house = House(People({user: ["staff"] for user in "abcdef"}))
        house.add("/lab", "folder", group="staff", access=AccessList.plain("770"))
        house.add("/lab/a", "file", owner="a", access=AccessList.plain("600"))
        self.assertEqual(smallest_teams(house, ("read", "/lab/a")), [["a"]])
        self.assertEqual(greatest_harmless(house, ("read", "/lab/a")), [["b", "c", "d", "e", "f"]])
        self.assertEqual(smallest_teams(house, ("gone", "/lab/a")), [[user] for user in "abcdef"])


class CheckTeamsTest(unittest.TestCase):
    def setUp(self):
        self.house, self.goal = filled(), ("read", "/lab/box/note")
        self.smallest, self.greatest = [["ann", "bob"], ["ann", "cal"]], [["ann"], ["bob", "cal"]]

    def check(self, smallest, greatest, wanted):
        self.assertIs(check_teams(self.house, self.goal, smallest, greatest), wanted)

    def test_any_order_and_tuples(self):
        self.check(self.smallest, self.greatest, True)
        self.check(self.smallest[::-1], self.greatest[::-1], True)
        self.check(tuple([tuple(team) for team in self.smallest]), tuple(self.greatest), True)
        self.assertIs(check_teams(greatest=self.greatest, smallest=self.smallest, goal=self.goal, house=self.house), True)

    def test_spoilt_lists(self):
        for good, spoil in ((self.smallest, lambda teams: self.check(teams, self.greatest, False)),
                            (self.greatest, lambda teams: self.check(self.smallest, teams, False))):
            spoil(good[:1])
            spoil(good[1:])
            spoil([])
            spoil(good + good[:1])
            spoil([good[0], good[0]])
            spoil(good + [["cal"]])
            spoil(good + [[]])
            spoil([good[0], ["bob"]])
            spoil([good[0], good[1] + ["dan"]])
            spoil([good[0], good[1] + good[1][:1]])
            spoil([good[0], "bob cal"])
            spoil(good[0])
            spoil({"ann": "bob", "cal": "bob"})
        self.check([["bob", "ann"], ["ann", "cal"]], self.greatest, False)
        self.check(self.smallest, [["ann"], ["cal", "bob"]], False)
        self.check(self.greatest, self.smallest, False)

    def test_any_values(self):
        for value in any_values():
            self.check(value, self.greatest, False)
            self.check(self.smallest, value, False)
            self.check([self.smallest[0], value], self.greatest, False)
            self.check(self.smallest, [["ann"], ["bob", value]], False)

    def test_no_teams(self):
        self.goal = ("read", "/lab")
        self.check([], [["ann", "bob", "cal"]], True)
        self.check((), (("ann", "bob", "cal"),), True)
        self.check([[]], [["ann", "bob", "cal"]], False)
        self.check([], [], False)


class MoreByTest(unittest.TestCase):
    def test_against_futures(self):
        source, count = seed_of("more"), 0
        for _ in range(40):
            house = drawn_house(source, 6)
            free = drawn_free(source, house)
            for user in house.people.users():
                found = more_by(house, free, user)
                less, more = Future(house, free), Future(house, sorted({*free, user}))
                wanted = [goal for goal in more.each_goal() if goal not in list(less.each_goal())]
                self.assertEqual(found, [] if user in free else wanted)
                self.assertEqual(more_by(user=user, free=tuple(free), house=house), found)
                count += len(found)
        self.assertGreater(count, 50)

    def test_a_user_who_is_free_already(self):
        self.assertEqual(more_by(filled(), ["ann", "bob"], "bob"), [])
        self.assertEqual(more_by(filled(), ["bob"], "ann")[:3],
                         [("gone", "/lab/box"), ("lost", "/lab/box"), ("made", "/lab/box")])

    def test_wrong_arguments(self):
        house = filled()
        for value in any_values():
            if not isinstance(value, House):
                for call in (lambda: more_by(value, None, None), lambda: smallest_teams(value, None),
                             lambda: greatest_harmless(value, None), lambda: check_teams(value, None, None, None)):
                    error = raised(call)
                    self.assertEqual([type(error), error.value is value], [InvalidHouse, True])
            if not is_list(value) or not value:
                error = raised(more_by, house, value, None)
                self.assertEqual([type(error), error.value is value], [InvalidFree, True])
            if value != "ann":
                for free, user in (([value], None), (["ann"], value)):
                    error = raised(more_by, house, free, user)
                    self.assertEqual([type(error), error.name is value], [UnknownUser, True])
            for call in (lambda: smallest_teams(house, value), lambda: greatest_harmless(house, value),
                         lambda: check_teams(house, value, None, None)):
                error = raised(call)
                self.assertEqual([type(error), error.value is value], [InvalidGoal, True])
        for goal in (("led", "dan", "/lab"), ("shut", "root", "/lab"), ["read", "/lab"], ("led", "/lab")):
            self.assertIs(raised(smallest_teams, house, goal).value, goal)


if __name__ == "__main__":
    unittest.main()
