"""The judge: the four cases, what decides, and letters that are granted one by one."""

import itertools
import unittest

from filerights.errors import InvalidList, InvalidPeople, InvalidRights, UnknownGroup, UnknownUser
from filerights.judge import Judge
from filerights.lists import AccessList
from filerights.people import People
from filerights.rights import Rights
from helpers import any_values, raised

LETTERS = ["", "r", "w", "x", "rw", "rx", "wx", "rwx"]
PEOPLE = People({"ann": ["staff", "chess", "ants"], "bob": ["staff"], "cal": ["guests"]})
JUDGE = Judge(PEOPLE)


def told(user, owner, group, access, letters):
    """Return what the document says of a call, read sentence by sentence."""
    def has(rights, mask):
        return all([letter in rights and letter in mask for letter in letters])

    mask = "rwx" if access.mask is None else access.mask
    held = PEOPLE.groups_of(user)
    if user == owner:
        case = [("owner", "", has(access.owner, "rwx"))]
    elif user in access.users():
        case = [("user", user, has(access.users()[user], mask))]
    elif group in held or any([name in held for name in access.groups()]):
        case = [("group", "", has(access.group, mask))] if group in held else []
        for name in sorted(access.groups()):
            if name in held:
                case.append(("named", name, has(access.groups()[name], mask)))
    else:
        case = [("other", "", has(access.other, "rwx"))]
    granting = [(kind, name) for kind, name, fits in case if fits]
    return (bool(granting), granting or [(kind, name) for kind, name, _ in case])


def some_lists():
    """Return lists with and without masks and named entries, also of those who are not among the people."""
    users = [{}, {"ann": "rw"}, {"ann": "x", "bob": "rwx"}, {"zoe": "rwx"}, {"cal": ""}]
    groups = [{}, {"chess": "x"}, {"ants": "rw", "staff": "wx"}, {"zoo": "rwx"}, {"guests": "r", "chess": "rwx"}]
    masks = [None, "", "rx", "rwx"]
    return [
        AccessList("wx", group, other, users=user, groups=named, mask=mask)
        for user, named, mask, group, other in itertools.product(users, groups, masks, ["", "rw"], ["x", "rwx"])
    ]


class CasesTest(unittest.TestCase):
    def test_all_cases_against_the_sentences(self):
        lists = some_lists()
        for user, owner, group in itertools.product(PEOPLE.users(), ["root", "ann", "bob"], ["root", "staff", "guests"]):
            for access in lists:
                for letters in LETTERS:
                    wanted = told(user, owner, group, access, letters)
                    self.assertEqual(JUDGE.deciding(user, owner, group, access, letters), wanted)
                    self.assertIs(JUDGE(user, owner, group, access, letters), wanted[0])
                single = [letter for letter in "rwx" if told(user, owner, group, access, letter)[0]]
                self.assertEqual(JUDGE.letters_of(user, owner, group, access), Rights("".join(single)))

    def test_the_owner(self):
        access = AccessList("r", "rwx", "rwx", users={"ann": "rwx"}, groups={"staff": "rwx"}, mask="rwx")
        self.assertEqual(JUDGE.deciding("ann", "ann", "staff", access, "w"), (False, [("owner", "")]))
        self.assertEqual(JUDGE.deciding("ann", "ann", "staff", access, "r"), (True, [("owner", "")]))

    def test_the_mask_does_not_bind_owner_and_others(self):
        access = AccessList("rwx", "rwx", "rwx", mask="")
        self.assertEqual(JUDGE.deciding("ann", "ann", "root", access, "rwx"), (True, [("owner", "")]))
        self.assertEqual(JUDGE.deciding("ann", "root", "root", access, "rwx"), (True, [("other", "")]))
        self.assertEqual(JUDGE.deciding("ann", "root", "staff", access, "r"), (False, [("group", "")]))

    def test_a_named_user(self):
        access = AccessList("", "rwx", "rwx", users={"ann": "rw"}, mask="wx")
        self.assertEqual([JUDGE("ann", "root", "staff", access, letters) for letters in LETTERS],
                         [True, False, True, False, False, False, False, False])
        self.assertEqual(JUDGE.deciding("ann", "root", "staff", access, "w"), (True, [("user", "ann")]))
        self.assertEqual(JUDGE.deciding("ann", "root", "staff", access, "r"), (False, [("user", "ann")]))

    def test_named_ones_who_are_not_among_the_people(self):
        access = AccessList("", "", "r", users={"zoe": "rwx"}, groups={"zoo": "rwx"})
        self.assertEqual(JUDGE.deciding("ann", "root", "root", access, "r"), (True, [("other", "")]))
        self.assertEqual(JUDGE.deciding("ann", "root", "staff", access, "r"), (False, [("group", "")]))

    def test_a_user_with_the_name_of_a_group(self):
        judge = Judge(People({"ann": ["bob"], "bob": ["ann"], "cal": ["cal"]}))
        access = AccessList("", "", "", users={"ann": "r"}, groups={"ann": "w", "cal": "x"})
        self.assertEqual(judge.deciding("ann", "root", "root", access, "r"), (True, [("user", "ann")]))
        self.assertEqual(judge.deciding("bob", "root", "root", access, "w"), (True, [("named", "ann")]))
        self.assertEqual(judge.deciding("cal", "root", "cal", access, "x"), (True, [("named", "cal")]))
        self.assertEqual(judge.deciding("cal", "root", "cal", access, "w"), (False, [("group", ""), ("named", "cal")]))

    def test_a_named_user_with_the_name_of_a_group_is_no_group(self):
        judge = Judge(People({"ann": ["staff"], "bob": ["ann"]}))
        access = AccessList("", "x", "r", users={"ann": "rw", "staff": "rwx"})
        self.assertEqual(judge.deciding("bob", "root", "root", access, "w"), (False, [("other", "")]))
        self.assertEqual(judge.deciding("bob", "root", "ann", access, "w"), (False, [("group", "")]))
        self.assertEqual(judge.letters_of("bob", "root", "root", access), Rights("r"))

    def test_two_groups_that_give_letters_only_together(self):
        access = AccessList("", "r", "", groups={"chess": "w", "ants": "w"})
        self.assertFalse(JUDGE("ann", "root", "staff", access, "rw"))
        self.assertEqual(JUDGE.deciding("ann", "root", "staff", access, "rw"),
                         (False, [("group", ""), ("named", "ants"), ("named", "chess")]))
        self.assertEqual(JUDGE.deciding("ann", "root", "staff", access, "w"),
                         (True, [("named", "ants"), ("named", "chess")]))
        self.assertEqual(JUDGE.letters_of("ann", "root", "staff", access), Rights("rw"))

    def test_the_others_do_not_help_a_member(self):
        access = AccessList("rwx", "", "rwx")
        self.assertEqual([JUDGE(user, "root", "staff", access, "r") for user in PEOPLE.users()], [False, False, True])

    def test_owner_and_group_root(self):
        access = AccessList("rwx", "rwx", "x")
        for user in PEOPLE.users():
            self.assertEqual(JUDGE.deciding(user, "root", "root", access, "x"), (True, [("other", "")]))
            self.assertEqual(JUDGE.deciding(user, "root", "root", access, "rx"), (False, [("other", "")]))

    def test_without_letters_everybody_is_granted_them(self):
        access = AccessList("", "", "", users={"bob": ""}, mask="")
        for user, letters in itertools.product(PEOPLE.users(), ["", Rights()]):
            self.assertIs(JUDGE(user, "ann", "staff", access, letters), True)
        self.assertEqual(JUDGE.deciding("ann", "root", "staff", access, ""), (True, [("group", "")]))
        self.assertEqual(JUDGE.letters_of("bob", "root", "root", access), Rights())


class ValuesTest(unittest.TestCase):
    def test_letters_in_any_order_and_as_rights(self):
        access = AccessList("rwx", "rx", "w")
        for letters in LETTERS:
            for signs in itertools.permutations(letters):
                wanted = "w" not in letters
                self.assertIs(JUDGE("ann", "root", "staff", access, "".join(signs)), wanted)
                self.assertIs(JUDGE("ann", "root", "staff", access, Rights("".join(signs))), wanted)

    def test_what_is_returned_is_new(self):
        access = AccessList("", "r", "", groups={"chess": "r"})
        first = JUDGE.deciding("ann", "root", "staff", access, "r")
        self.assertEqual([type(first), type(first[0]), type(first[1]), type(first[1][0])], [tuple, bool, list, tuple])
        first[1].clear()
        self.assertEqual(JUDGE.deciding("ann", "root", "staff", access, "r")[1], [("group", ""), ("named", "chess")])

    def test_arguments_by_name(self):
        access = AccessList("rwx", "rx", "w")
        named = {"access": access, "group": "staff", "owner": "root", "user": "ann"}
        judge = Judge(people=PEOPLE)
        self.assertIs(judge(letters="r", **named), True)
        self.assertEqual(judge.deciding(letters="r", **named), (True, [("group", "")]))
        self.assertEqual(judge.letters_of(**named), Rights("rx"))

    def test_judges_equal_only_themselves(self):
        judge = Judge(PEOPLE)
        self.assertEqual([judge == judge, judge == Judge(PEOPLE), isinstance(repr(judge), str)], [True, False, True])


class RefusedTest(unittest.TestCase):
    def check(self, parts, error_class, value):
        calls = [JUDGE, JUDGE.deciding]
        if error_class is not InvalidRights:
            calls.append(lambda *told: JUDGE.letters_of(*told[:4]))
        for call in calls:
            error = raised(call, *parts)
            self.assertIs(type(error), error_class)
            self.assertIs(error.value if hasattr(error, "value") else error.name, value)

    def test_people(self):
        for value in any_values() + [{"ann": ["staff"]}, JUDGE]:
            if isinstance(value, People):
                continue
            error = raised(Judge, value)
            self.assertIs(type(error), InvalidPeople)
            self.assertIs(error.value, value)

    def test_each_argument(self):
        access = AccessList("rwx", "rx", "w")
        for value in any_values():
            if value != "ann":
                self.check((value, "root", "staff", access, "r"), UnknownUser, value)
            if value not in ("ann", "root"):
                self.check(("ann", value, "staff", access, "r"), UnknownUser, value)
            if value != "root":
                self.check(("ann", "root", value, access, "r"), UnknownGroup, value)
            if not isinstance(value, AccessList):
                self.check(("ann", "root", "staff", value, "r"), InvalidList, value)
            if not isinstance(value, Rights) and value not in ("", "r", "rw", "xwr"):
                self.check(("ann", "root", "staff", access, value), InvalidRights, value)

    def test_users_are_no_groups(self):
        access = AccessList("rwx", "rx", "w")
        self.check(("root", "root", "staff", access, "r"), UnknownUser, "root")
        self.check(("staff", "root", "staff", access, "r"), UnknownUser, "staff")
        self.check(("ann", "staff", "staff", access, "r"), UnknownUser, "staff")
        self.check(("ann", "root", "ann", access, "r"), UnknownGroup, "ann")

    def test_the_order_of_the_checks(self):
        wrong = ["who", "whose", "them", "list", "letters"]
        right = ["ann", "root", "staff", AccessList("rwx", "rx", "w"), "r"]
        classes = [UnknownUser, UnknownUser, UnknownGroup, InvalidList, InvalidRights]
        for at in range(5):
            self.check(right[:at] + wrong[at:], classes[at], wrong[at])
        self.assertIs(JUDGE(*right), True)

    def test_letters_of_asks_no_letters(self):
        self.assertEqual(JUDGE.letters_of("ann", "root", "staff", AccessList("", "w", "")), Rights("w"))


if __name__ == "__main__":
    unittest.main()
