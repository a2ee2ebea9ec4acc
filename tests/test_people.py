"""People: users, groups, what is refused, and what does not reach into an object."""

import unittest

from filerights.errors import InvalidPeople, TooMany, UnknownGroup, UnknownUser
from filerights.people import People
from helpers import any_values, raised

SIX = ["a", "b", "c", "d", "e", "f"]


class PeopleTest(unittest.TestCase):
    def test_users_and_groups_are_ascending(self):
        people = People({"cal": ["staff"], "ann": ["staff", "chess"], "bob": ["guests", "chess"]})
        self.assertEqual(people.users(), ["ann", "bob", "cal"])
        self.assertEqual(people.groups(), ["chess", "guests", "staff"])
        self.assertEqual([people.members(group) for group in people.groups()], [["ann", "bob"], ["bob"], ["ann", "cal"]])

    def test_groups_of_a_user_keep_their_order(self):
        people = People({"ann": ["staff", "chess", "ants"], "bob": ("ants",)})
        self.assertEqual(people.groups_of("ann"), ["staff", "chess", "ants"])
        self.assertEqual(people.groups_of("bob"), ["ants"])
        self.assertEqual([people.first_group("ann"), people.first_group("bob")], ["staff", "ants"])

    def test_sizes_from_one_to_six(self):
        for count in range(1, 7):
            people = People({user: SIX[:count] for user in SIX[:count]})
            self.assertEqual([len(people), people.users(), people.groups()], [count, SIX[:count], SIX[:count]])
        people = People({user: [user] for user in SIX})
        self.assertEqual([people.groups_of(user) for user in SIX], [[user] for user in SIX])

    def test_a_user_may_have_the_name_of_a_group(self):
        people = People({"ann": ["bob"], "bob": ["ann", "bob"]})
        self.assertEqual([people.users(), people.groups(), people.members("bob")], [["ann", "bob"]] * 3)
        self.assertEqual(people.members("ann"), ["bob"])

    def test_in(self):
        people = People({"ann": ["staff"], "bob": ["staff"]})
        self.assertEqual([name in people for name in ("ann", "bob", "cal", "staff", "root")], [True, True] + [False] * 3)
        for value in any_values():
            self.assertIs(value in people, isinstance(value, str) and value == "ann")

    def test_equal(self):
        people = People({"ann": ["staff", "chess"], "bob": ["staff"]})
        self.assertEqual(people, People({"bob": ("staff",), "ann": ["staff", "chess"]}))
        others = [
            {"ann": ["chess", "staff"], "bob": ["staff"]}, {"ann": ["staff"], "bob": ["staff"]},
            {"ann": ["staff", "chess"]}, {"ann": ["staff", "chess"], "bob": ["chess"]},
            {"ann": ["staff", "chess"], "cal": ["staff"]},
            {"ann": ["staff", "chess"], "bob": ["staff"], "cal": ["staff"]},
        ]
        for members in others:
            self.assertFalse(people == People(members))
            self.assertTrue(people != People(members))
        for value in any_values():
            self.assertFalse(people == value)
        self.assertFalse(people == {"ann": ["staff", "chess"], "bob": ["staff"]})
        self.assertIsInstance(repr(people), str)


class CopiesTest(unittest.TestCase):
    def test_what_was_passed_changes_behind(self):
        members = {"ann": ["staff", "chess"], "bob": ["staff"]}
        people = People(members)
        members["ann"].append("guests")
        members["bob"] = ["chess"]
        members["cal"] = ["staff"]
        self.assertEqual(people, People({"ann": ["staff", "chess"], "bob": ["staff"]}))
        self.assertEqual([people.users(), people.groups()], [["ann", "bob"], ["chess", "staff"]])

    def test_what_is_passed_is_not_changed(self):
        members = {"bob": ["staff", "ants"], "ann": ("staff",)}
        People(members)
        self.assertEqual(list(members.items()), [("bob", ["staff", "ants"]), ("ann", ("staff",))])

    def test_what_is_returned_is_new(self):
        people = People({"ann": ["staff", "chess"], "bob": ["staff"]})
        calls = [people.users, people.groups, lambda: people.groups_of("ann"), lambda: people.members("staff")]
        for call in calls:
            first, told = call(), list(call())
            self.assertIs(type(first), list)
            first.append("x")
            first[0] = "y"
            self.assertEqual(call(), told)
            self.assertIsNot(call(), call())
        self.assertEqual(people, People({"ann": ["staff", "chess"], "bob": ["staff"]}))


class RefusedPeopleTest(unittest.TestCase):
    def check(self, members, value):
        error = raised(People, members)
        self.assertIs(type(error), InvalidPeople)
        self.assertIs(error.value, value)

    def test_no_dict_of_users(self):
        for value in any_values():
            if isinstance(value, dict) and list(value) in (["ann"], ["users"]):
                self.check(value, list(value.values())[0])
            else:
                self.check(value, value)
        seven = {user: ["staff"] for user in SIX + ["g"]}
        wrong = [
            {}, [], [("ann", ["staff"])], {"root": ["staff"]}, {"Ann": ["staff"]}, {"": ["staff"]}, {1: ["staff"]},
            {"ann": ["staff"], 1: ["staff"]}, {"abcdefghi": ["staff"]}, {"ann": ["staff"], "root": ["staff"]}, seven,
            {True: ["staff"]}, {("ann",): ["staff"]},
        ]
        for members in wrong:
            self.check(members, members)

    def test_no_list_of_groups(self):
        wrong = [
            [], (), "staff", None, {"staff": 1}, {"staff"}, ["root"], ["staff", "root"], ["staff", "staff"], [1],
            ["Staff"], ["staff", ["chess"]], SIX + ["g"], ["staff", ""], ["abcdefghi"], [True], [None],
            ["a", "b", "a"],
        ]
        for value in wrong:
            self.check({"ann": value}, value)
            self.check({"ann": ["staff"], "bob": value}, value)
        for value in any_values():
            if value not in (["a"], ("a",), ("r", "w")):
                self.check({"ann": value}, value)

    def test_the_first_user_with_wrong_groups(self):
        first, second = [1], [2]
        self.check({"bob": second, "ann": first}, first)
        self.check({"ann": first, "bob": second}, first)

    def test_the_keys_are_checked_before_the_values(self):
        members = {"ann": [1], "root": ["staff"]}
        self.check(members, members)

    def test_the_values_are_checked_before_the_number_of_groups(self):
        value = ["staff", "staff"]
        self.check({"a": SIX, "b": ["g"], "z": value}, value)

    def test_too_many_groups(self):
        for members, count in (
            ({"ann": SIX, "bob": ["g"]}, 7), ({"ann": SIX, "bob": ["a", "g", "h"]}, 8),
            ({user: [user + name for name in SIX] for user in SIX}, 36),
        ):
            error = raised(People, members)
            self.assertIs(type(error), TooMany)
            self.assertEqual(error.count, count)
        self.assertEqual(len(People({user: SIX for user in SIX}).groups()), 6)


class UnknownTest(unittest.TestCase):
    def test_unknown_users(self):
        people = People({"ann": ["staff"]})
        for value in any_values() + ["bob", "staff", "root", ["ann"], ("ann",), "Ann"]:
            if value == "ann":
                continue
            for call in (people.groups_of, people.first_group):
                error = raised(call, value)
                self.assertIs(type(error), UnknownUser)
                self.assertIs(error.name, value)

    def test_unknown_groups(self):
        people = People({"ann": ["staff"]})
        for value in any_values() + ["chess", "ann", "root", ["staff"], ("staff",)]:
            error = raised(people.members, value)
            self.assertIs(type(error), UnknownGroup)
            self.assertIs(error.name, value)

    def test_arguments_by_name(self):
        people = People(members={"ann": ["staff"]})
        self.assertEqual([people.groups_of(user="ann"), people.first_group(user="ann")], [["staff"], "staff"])
        self.assertEqual(people.members(group="staff"), ["ann"])


if __name__ == "__main__":
    unittest.main()
