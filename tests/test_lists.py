"""Access lists: points [31] to [35]."""

import itertools
import re
import unittest

from filerights.errors import InvalidDigits, InvalidEntry, InvalidList, InvalidName, InvalidRights, InvalidText
from filerights.errors import TooMany, UnknownEntry
from filerights.lists import AccessList, is_digits, without_letters
from filerights.rights import Rights, is_rights
from filerights.words import is_name
from helpers import SIGNS, any_values, raised

USERS = {"zoe": "w", "ann": "rw", "cal": "", "bob": "x", "eve": "r", "dan": "rx"}
GROUPS = {"staff": "x", "chess": "rw", "all": "r", "zoo": "", "guests": "w", "ann": "rwx"}
ALL_DIGITS = ["".join(signs) for signs in itertools.product("01234567", repeat=3)]
KINDS = ["owner", "user", "group", "named", "mask", "other"]
ENTRY = "[r-][w-][x-]"
FORM = re.compile(
    f"u::{ENTRY}((?:,u:[a-z]{{1,8}}:{ENTRY})*),g::{ENTRY}((?:,g:[a-z]{{1,8}}:{ENTRY})*)(,m::{ENTRY})?,o::{ENTRY}"
)


def first(count, table):
    """Return the first so many items of a dict."""
    return {name: table[name] for name in list(table)[:count]}


def many_lists():
    """Return lists with none to six named users and groups, with a mask and without one, made anew."""
    lists = []
    for users, groups, mask in itertools.product(range(7), range(7), [None, "", "rx", "rwx"]):
        lists.append(AccessList("rw", "r", "x", users=first(users, USERS), groups=first(groups, GROUPS), mask=mask))
    return lists


def few_lists():
    """Return a few lists of different shape, made anew."""
    return [
        AccessList("rwx", "rx", ""),
        AccessList("", "rwx", "r", mask="w"),
        AccessList("rw", "r", "x", users={"ann": "rw"}),
        AccessList("x", "", "rwx", groups={"staff": "rx", "all": ""}, mask="wx"),
        AccessList("rw", "w", "", users=USERS, groups=GROUPS),
    ]


def texts_of(access):
    """Return the entries with their rights as texts."""
    return [(kind, name, str(rights)) for kind, name, rights in access.entries()]


def is_list_text(text):
    """Return True if a text is one of a list, told apart by its form."""
    found = FORM.fullmatch(text)
    if not found:
        return False
    users, groups, mask = found.groups()
    for names in ([word.split(":")[1] for word in part.split(",")[1:]] for part in (users, groups)):
        if names != sorted(set(names)) or len(names) > 6 or "root" in names:
            return False
    return mask is not None or users + groups == ""


class ListsTest(unittest.TestCase):
    def fails(self, kind, field, call, *parts, **named):
        """Check the class of the error of a call, and that it has the very object."""
        error = raised(call, *parts, **named)
        self.assertIs(error.__class__, kind)
        self.assertIs(error.value, field)


class MakingTest(ListsTest):
    def test_plain_entries(self):
        access = AccessList(owner="xwr", group=Rights("r"), other="")
        self.assertEqual(texts_of(access), [("owner", "", "rwx"), ("group", "", "r--"), ("other", "", "---")])
        for rights, letters in ((access.owner, "rwx"), (access.group, "r"), (access.other, "")):
            self.assertEqual(rights, Rights(letters))
        self.assertIsNone(access.mask)
        self.assertEqual([access.users(), access.groups()], [{}, {}])

    def test_named_entries(self):
        for count in range(7):
            access = AccessList("", "", "", users=first(count, USERS), groups=first(6 - count, GROUPS))
            self.assertEqual(access.users(), {name: Rights(USERS[name]) for name in list(USERS)[:count]})
            self.assertEqual(access.groups(), {name: Rights(GROUPS[name]) for name in list(GROUPS)[:6 - count]})

    def test_rights_or_letters_everywhere(self):
        one = AccessList("rw", "r", "x", users={"ann": "wr"}, groups={"staff": "x"}, mask="w")
        other = AccessList(
            Rights("rw"), Rights("r"), Rights("x"),
            users={"ann": Rights("rw")}, groups={"staff": Rights("x")}, mask=Rights("w"),
        )
        self.assertEqual(one, other)
        self.assertIs(one.mask.__class__, Rights)
        self.assertIs(one.users()["ann"].__class__, Rights)

    def test_the_mask_that_a_list_gets(self):
        for group, user, named in itertools.product(["", "r", "wx"], repeat=3):
            access = AccessList("rwx", group, "rwx", users={"ann": user}, groups={"staff": named})
            self.assertEqual(access.mask, Rights.of(group, user, named))
        self.assertEqual(AccessList("rwx", "r", "w", users={"ann": "x"}).mask, Rights("rx"))
        self.assertEqual(AccessList("rwx", "", "w", groups={"staff": "x"}).mask, Rights("x"))
        self.assertEqual(AccessList("rwx", "", "rwx", groups={"staff": ""}).mask, Rights())
        self.assertEqual(AccessList("rwx", "", "", users=USERS, groups=GROUPS).mask, Rights("rwx"))

    def test_the_mask_that_a_list_is_told(self):
        self.assertEqual(AccessList("rwx", "r", "w", mask="").mask, Rights())
        self.assertEqual(AccessList("rwx", "r", "w", users={"ann": "rwx"}, mask="r").mask, Rights("r"))
        self.assertEqual(AccessList("rwx", "r", "w", users={"ann": "rwx"}, mask=Rights()).mask, Rights())

    def test_none_and_empty_dicts_are_the_same(self):
        self.assertEqual(AccessList("r", "w", "x", users={}, groups={}), AccessList("r", "w", "x"))
        self.assertIsNone(AccessList("r", "w", "x", users={}, groups={}).mask)

    def test_what_is_passed_is_copied_and_not_changed(self):
        users, groups = dict(USERS), dict(GROUPS)
        access = AccessList("rwx", "rx", "", users=users, groups=groups)
        before = str(access)
        self.assertEqual([users, groups], [USERS, GROUPS])
        self.assertEqual([list(users), list(groups)], [list(USERS), list(GROUPS)])
        users["ann"] = ""
        del groups["chess"]
        self.assertEqual(str(access), before)

    def test_wrong_rights(self):
        for value in any_values():
            if is_rights(value):
                continue
            self.fails(InvalidRights, value, AccessList, value, "", "")
            self.fails(InvalidRights, value, AccessList, "", value, "")
            self.fails(InvalidRights, value, AccessList, "", "", value)
            self.fails(InvalidRights, value, AccessList, "", "", "", users={"ann": value})
            self.fails(InvalidRights, value, AccessList, "", "", "", groups={"ann": value})
            if value is not None:
                self.fails(InvalidRights, value, AccessList, "", "", "", mask=value)

    def test_wrong_dicts(self):
        seven = {name: "r" for name in "abcdefg"}
        for value in any_values() + [seven, [("ann", "r")]]:
            if value is not None and (not isinstance(value, dict) or len(value) > 6):
                self.fails(InvalidList, value, AccessList, "", "", "", users=value)
                self.fails(InvalidList, value, AccessList, "", "", "", groups=value)

    def test_wrong_names(self):
        for key in ["root", "", "Ann", "a b", "ann\n", "abcdefghi", 10 ** 20, "/ann"]:
            self.fails(InvalidName, key, AccessList, "", "", "", users={key: "r"})
            self.fails(InvalidName, key, AccessList, "", "", "", groups={"ann": "r", key: "r"})

    def test_the_very_key_is_told(self):
        for key in (10 ** 20, "not a name"):
            self.fails(InvalidName, key, AccessList, "", "", "", users={"bob": "r", key: "r", "zoe": None})

    def test_keys_in_ascending_order_those_that_are_no_strings_first(self):
        for order in itertools.permutations(["", "ann", "bob", 10 ** 20, 10 ** 20 + 1]):
            self.fails(InvalidName, min(key for key in order if isinstance(key, int)), AccessList, "", "", "",
                       users={key: None for key in order})
        for order in itertools.permutations(["Ann", "ann", "bob", "root"]):
            self.fails(InvalidName, "Ann", AccessList, "", "", "", groups={key: None for key in order})
        wrong = ["ann's"]
        for order in itertools.permutations(["ann", "bob", "root"]):
            values = {"ann": wrong, "bob": None, "root": "r"}
            self.fails(InvalidRights, wrong, AccessList, "", "", "", users={key: values[key] for key in order})
            values["ann"] = "r"
            values["bob"] = wrong
            self.fails(InvalidRights, wrong, AccessList, "", "", "", groups={key: values[key] for key in order})
            values["bob"] = "r"
            self.fails(InvalidName, "root", AccessList, "", "", "", groups={key: values[key] for key in order})

    def test_seven_items_before_their_keys(self):
        seven = {1: None, "root": "r", "a": "r", "b": "r", "c": "r", "d": "r", "e": "r"}
        self.fails(InvalidList, seven, AccessList, "", "", "", users=seven)
        self.fails(InvalidList, seven, AccessList, "", "", "", groups=seven)

    def test_the_order_of_the_checks(self):
        wrong = [["owner"], ["group"], ["other"], ["users"], ["groups"], ["mask"]]
        kinds = [InvalidRights, InvalidRights, InvalidRights, InvalidList, InvalidList, InvalidRights]
        right = ["", "", "", None, None, None]
        for at in range(6):
            owner, group, other, users, groups, mask = right[:at] + wrong[at:]
            self.fails(kinds[at], wrong[at], AccessList, owner, group, other, users=users, groups=groups, mask=mask)
        self.fails(InvalidName, "root", AccessList, "", "", "", users={"root": 1}, groups=1, mask=1)
        self.fails(InvalidName, "root", AccessList, "", "", "", groups={"root": 1}, mask=1)

    def test_named_entries_and_mask_by_name_only(self):
        self.assertRaises(TypeError, AccessList, "", "", "", {})
        self.assertRaises(TypeError, AccessList, "", "")


class TellingTest(ListsTest):
    def test_entries(self):
        access = AccessList("rwx", "rx", "", users={"bob": "r", "ann": "w"}, groups={"staff": "x", "chess": ""})
        self.assertEqual(access.entries(), [
            ("owner", "", Rights("rwx")), ("user", "ann", Rights("w")), ("user", "bob", Rights("r")),
            ("group", "", Rights("rx")), ("named", "chess", Rights()), ("named", "staff", Rights("x")),
            ("mask", "", Rights("rwx")), ("other", "", Rights()),
        ])
        self.assertEqual(
            texts_of(AccessList("r", "w", "x", mask="rw")),
            [("owner", "", "r--"), ("group", "", "-w-"), ("mask", "", "rw-"), ("other", "", "--x")],
        )
        for row in access.entries():
            self.assertIs(row.__class__, tuple)
            self.assertIs(row[2].__class__, Rights)

    def test_entries_of_many_lists(self):
        for access in many_lists():
            rows = [("owner", "", access.owner)]
            rows += [("user", name, access.users()[name]) for name in sorted(access.users())]
            rows += [("group", "", access.group)]
            rows += [("named", name, access.groups()[name]) for name in sorted(access.groups())]
            rows += [("mask", "", access.mask)] if access.mask is not None else []
            rows += [("other", "", access.other)]
            self.assertEqual(access.entries(), rows)
            self.assertEqual(len(access), len(rows))

    def test_a_named_entry_goes_with_a_mask(self):
        for access in many_lists():
            if access.users() or access.groups():
                self.assertIsNotNone(access.mask)

    def test_digits(self):
        for digits in ALL_DIGITS:
            owner, group, other = [Rights.from_digit(int(digit)) for digit in digits]
            self.assertEqual(AccessList(owner, group, other).digits, digits)
            self.assertEqual(AccessList(owner, "wx", other, mask=group).digits, digits)
        self.assertEqual(AccessList("rwx", "r", "", users={"ann": "w"}).digits, "760")

    def test_equal_lists(self):
        lists = few_lists() + [
            AccessList("rwx", "rx", "", mask="rx"), AccessList("rw", "r", "x", groups={"ann": "rw"}),
            AccessList("rw", "r", "x", users={"bob": "rw"}), AccessList("rw", "r", "x", users={"ann": "r"}),
            AccessList("rw", "r", "x", users={"ann": "rw"}, mask="r"), AccessList("rx", "rx", ""),
            AccessList("rwx", "x", ""), AccessList("rwx", "rx", "x"),
        ]
        for (at, one), (to, other) in itertools.product(enumerate(lists), repeat=2):
            self.assertIs(one == other, at == to)
            self.assertIs(one != other, at != to)
        for one, other in zip(few_lists(), few_lists()):
            self.assertIs(one == other, True)
        self.assertEqual(
            AccessList("", "r", "", users={"ann": "w", "bob": "x"}),
            AccessList("", "r", "", users={"bob": "x", "ann": "w"}, mask="rwx"),
        )

    def test_lists_equal_only_lists(self):
        for access, value in itertools.product(few_lists(), any_values()):
            if not isinstance(value, AccessList):
                self.assertIs(access == value, False)
                self.assertIs(value == access, False)
            self.assertIs(access == access.entries(), False)
            self.assertIs(access == str(access), False)

    def test_what_is_returned_is_new_each_time(self):
        for access in few_lists():
            before = str(access)
            access.users()["eve"] = Rights("r")
            access.users().clear()
            access.groups()["eve"] = Rights("r")
            access.groups().clear()
            access.entries().clear()
            self.assertEqual(str(access), before)
            self.assertEqual(access.users(), access.users())
            self.assertIsNot(access.users(), access.users())
            self.assertIsNot(access.groups(), access.groups())
            self.assertIsNot(access.entries(), access.entries())

    def test_repr(self):
        for access in few_lists():
            self.assertIs(repr(access).__class__, str)


class EntriesTest(ListsTest):
    def test_an_entry_that_is_there_gets_other_rights(self):
        for access in many_lists():
            before = str(access)
            for kind, name, _ in access.entries():
                for rights in ("", "wr", Rights("x")):
                    changed = access.with_entry(kind, rights, name=name)
                    wanted = [
                        (a, b, Rights.of(rights) if (a, b) == (kind, name) else c) for a, b, c in access.entries()
                    ]
                    self.assertEqual(changed.entries(), wanted)
            self.assertEqual(str(access), before)

    def test_a_mask_is_put_in(self):
        access = AccessList("rwx", "rx", "")
        self.assertEqual(access.with_entry("mask", "w"), AccessList("rwx", "rx", "", mask="w"))
        self.assertEqual(access.with_entry(kind="mask", rights=Rights(), name=""), AccessList("rwx", "rx", "", mask=""))
        self.assertIsNone(access.mask)

    def test_a_named_entry_brings_the_mask(self):
        access = AccessList("rwx", "r", "x")
        self.assertEqual(access.with_entry("user", "w", name="ann").mask, Rights("rw"))
        self.assertEqual(access.with_entry("named", "", name="ann").mask, Rights("r"))
        self.assertEqual(str(access.with_entry("named", "x", name="ann")), "u::rwx,g::r--,g:ann:--x,m::r-x,o::--x")
        self.assertEqual(access.with_entry("user", "w", name="ann"), AccessList("rwx", "r", "x", users={"ann": "w"}))

    def test_a_mask_that_is_there_stays(self):
        for access in (AccessList("rwx", "r", "x", mask=""), AccessList("rwx", "r", "x", users={"bob": "w"}, mask="x")):
            for kind, name in (("user", "ann"), ("user", "bob"), ("named", "ann")):
                changed = access.with_entry(kind, "rwx", name=name)
                self.assertEqual(changed.mask, access.mask)
            for kind in ("owner", "group", "other"):
                self.assertEqual(access.with_entry(kind, "rwx").mask, access.mask)

    def test_no_mask_comes_with_a_plain_entry(self):
        for kind in ("owner", "group", "other"):
            self.assertIsNone(AccessList("rwx", "r", "x").with_entry(kind, "w").mask)

    def test_the_seventh_is_refused(self):
        users = AccessList("", "", "", users=USERS)
        groups = AccessList("", "", "", groups=GROUPS)
        for access, kind in ((users, "user"), (groups, "named")):
            before = str(access)
            error = raised(access.with_entry, kind, "r", name="new")
            self.assertIs(error.__class__, TooMany)
            self.assertEqual(error.count, 7)
            self.assertEqual(str(access), before)
            self.assertIs(raised(access.with_entry, kind, "rr", name="new").__class__, InvalidRights)
            for name in (USERS if kind == "user" else GROUPS):
                self.assertEqual(len(access.with_entry(kind, "r", name=name)), len(access))
        self.assertEqual(len(users.with_entry("named", "r", name="new")), 11)
        self.assertEqual(len(groups.with_entry("user", "r", name="new")), 11)

    def test_names_one_by_one_up_to_six(self):
        access = AccessList("rwx", "", "")
        for count, name in enumerate(sorted(USERS)):
            self.assertEqual(len(access.users()), count)
            access = access.with_entry("user", USERS[name], name=name).with_entry("named", "r", name=name)
        self.assertEqual(access.users(), AccessList("", "", "", users=USERS).users())
        # The mask came with the first one, and stayed.
        self.assertEqual(access.mask, Rights("rw"))

    def test_entries_that_no_list_has(self):
        access = AccessList("rwx", "r", "", users={"ann": "rw"})
        wrong = [(kind, "") for kind in ("user", "named")]
        wrong += [(kind, "ann") for kind in ("owner", "group", "mask", "other")]
        wrong += [(kind, name) for kind in ("user", "named") for name in ("root", "Ann", "ann\n", "abcdefghi")]
        wrong += [(kind, name) for kind in ("users", "Owner", "", "u", "owner\n", " other") for name in ("", "ann")]
        wrong += [(value, "") for value in any_values() if not isinstance(value, str) or value not in KINDS]
        wrong += [("user", value) for value in any_values() if not is_name(value) or value == "root"]
        wrong += [("mask", value) for value in any_values() if not isinstance(value, str) or value != ""]
        for kind, name in wrong:
            for rights in ("r", "rr"):
                self.tells_entry(InvalidEntry, "value", (kind, name), access.with_entry, kind, rights, name=name)
            self.tells_entry(UnknownEntry, "name", (kind, name), access.without, kind, name)

    def tells_entry(self, error_class, field, pair, call, /, *parts, **named):
        """Check that an error tells a new tuple of the very kind and name."""
        error, again = raised(call, *parts, **named), raised(call, *parts, **named)
        self.assertIs(error.__class__, error_class)
        told = getattr(error, field)
        self.assertIs(told.__class__, tuple)
        self.assertEqual(len(told), 2)
        self.assertIs(told[0], pair[0])
        self.assertIs(told[1], pair[1])
        self.assertIsNot(told, getattr(again, field))

    def test_wrong_rights_of_an_entry(self):
        access = AccessList("rwx", "r", "")
        for value in any_values():
            if not is_rights(value):
                self.fails(InvalidRights, value, access.with_entry, "owner", value)
                self.fails(InvalidRights, value, access.with_entry, "user", value, name="ann")

    def test_left_out(self):
        for access in many_lists():
            before = str(access)
            named = [(kind, name) for kind, name, _ in access.entries() if name]
            for kind, name, _ in access.entries():
                if (kind, name) in named or kind == "mask" and not named:
                    wanted = [row for row in access.entries() if row[:2] != (kind, name)]
                    self.assertEqual(access.without(kind, name).entries(), wanted)
                else:
                    self.tells_entry(UnknownEntry, "name", (kind, name), access.without, kind, name)
            self.assertEqual(str(access), before)

    def test_the_mask_stays_behind_the_last_named_entry(self):
        access = AccessList("rwx", "r", "", users={"ann": "w"}).without(kind="user", name="ann")
        self.assertEqual(access, AccessList("rwx", "r", "", mask="rw"))
        self.assertEqual(access.without("mask", ""), AccessList("rwx", "r", ""))

    def test_what_is_not_there_cannot_be_left_out(self):
        access = AccessList("rwx", "r", "", users={"ann": "w"}, groups={"staff": "x"})
        for kind, name in (("user", "staff"), ("named", "ann"), ("user", "bob"), ("mask", ""), ("user", "root")):
            self.tells_entry(UnknownEntry, "name", (kind, name), access.without, kind, name)
        self.tells_entry(UnknownEntry, "name", ("mask", ""), AccessList("rwx", "r", "").without, "mask", "")
        self.assertRaises(TypeError, access.without, "user")


class DigitsTest(ListsTest):
    def test_with_digits(self):
        for access in few_lists():
            before = str(access)
            for digits in ALL_DIGITS[::7]:
                changed = access.with_digits(digits)
                owner, middle, other = [Rights.from_digit(int(digit)) for digit in digits]
                places = {"owner": owner, "other": other, "group" if access.mask is None else "mask": middle}
                rows = [(kind, name, places.get(kind, rights)) for kind, name, rights in access.entries()]
                self.assertEqual(changed.entries(), rows)
                self.assertEqual(changed.digits, digits)
            self.assertEqual(str(access), before)
        self.assertEqual(AccessList.plain("777").with_digits(digits="640"), AccessList.plain("640"))

    def test_narrowed(self):
        for access in few_lists():
            before = str(access)
            for digits in ALL_DIGITS[::7]:
                changed = access.narrowed(digits)
                owner, middle, other = [set(Rights.from_digit(int(digit)).listed()) for digit in digits]
                places = {"owner": owner, "other": other, "group" if access.mask is None else "mask": middle}
                rows = []
                for kind, name, rights in access.entries():
                    kept = [letter for letter in rights.listed() if letter in places.get(kind, "rwx")]
                    rows.append((kind, name, Rights("".join(kept))))
                self.assertEqual(changed.entries(), rows)
            self.assertEqual(str(access), before)
        self.assertEqual(AccessList.plain("640").narrowed(digits="755"), AccessList.plain("640"))

    def test_plain_and_everything(self):
        for digits in ALL_DIGITS:
            access = AccessList.plain(digits)
            self.assertEqual(access.digits, digits)
            self.assertEqual(len(access), 3)
        self.assertEqual(AccessList.plain(digits="750"), AccessList("rwx", "rx", ""))
        self.assertEqual(AccessList.everything(), AccessList("rwx", "rwx", "rwx"))
        self.assertEqual(str(AccessList.everything()), "u::rwx,g::rwx,o::rwx")

    def test_is_digits(self):
        for digits in ALL_DIGITS:
            self.assertIs(is_digits(digits), True)
        for sign in SIGNS:
            for text in (sign + "55", "7" + sign + "5", "75" + sign):
                self.assertIs(is_digits(text), "0" <= sign <= "7", text)
            self.assertIs(is_digits("755" + sign), False)
            self.assertIs(is_digits(sign + "755"), False)
        for value in any_values() + ["75", "7", "", "7777", "855", 755, ["7", "5", "5"], ("7", "5", "5"), "\u0667" * 3]:
            self.assertIs(is_digits(value), isinstance(value, str) and value == "755", value)

    def test_without_letters(self):
        for digits, umask in itertools.product(ALL_DIGITS[::5], ALL_DIGITS[::9]):
            wanted = [str(int(digit) & (7 - int(gone))) for digit, gone in zip(digits, umask)]
            self.assertEqual(without_letters(digits, umask), "".join(wanted))
        for digit, gone in itertools.product("01234567", repeat=2):
            left = without_letters(digits="4" + digit + "1", umask="0" + gone + "1")
            self.assertEqual(left, f"4{int(digit) - (int(digit) & int(gone))}0")

    def test_wrong_digits(self):
        access = AccessList("rwx", "r", "", users={"ann": "rw"})
        for value in any_values() + ["75", "778", "0777", "75\n", "755\n", 755]:
            if isinstance(value, str) and value == "755":
                continue
            for call in (access.with_digits, access.narrowed, AccessList.plain):
                self.fails(InvalidDigits, value, call, value)
            for umask in ("022", "0222", None):
                self.fails(InvalidDigits, value, without_letters, value, umask)
            self.fails(InvalidDigits, value, without_letters, "644", value)
        self.assertEqual(str(access), "u::rwx,u:ann:rw-,g::r--,m::rw-,o::---")


class TextsTest(ListsTest):
    def test_texts(self):
        access = AccessList("rwx", "rx", "x", users={"bob": "r", "ann": "w"}, groups={"staff": "x"}, mask="")
        self.assertEqual(str(access), "u::rwx,u:ann:-w-,u:bob:r--,g::r-x,g:staff:--x,m::---,o::--x")
        self.assertEqual(str(AccessList("", "", "", mask="rwx")), "u::---,g::---,m::rwx,o::---")
        self.assertEqual(AccessList.from_text(text=str(access)), access)

    def test_each_text_is_read(self):
        for access in many_lists():
            text = str(access)
            self.assertTrue(is_list_text(text))
            read = AccessList.from_text(text)
            self.assertEqual(read, access)
            self.assertEqual(read.entries(), access.entries())

    def test_texts_with_one_thing_otherwise(self):
        for access in few_lists()[:4]:
            text = str(access)
            for at in range(len(text) + 1):
                for sign in "ugmorwx-:,az \n=R":
                    self.reads(text[:at] + sign + text[at:])
                    self.reads(text[:at] + sign + text[at + 1:])
                self.reads(text[:at] + text[at + 1:])

    def reads(self, text):
        """Check that just the texts of lists are read, as the lists of which they are the texts."""
        if is_list_text(text):
            self.assertEqual(str(AccessList.from_text(text)), text)
        else:
            self.fails(InvalidText, text, AccessList.from_text, text)

    def test_entries_left_out_repeated_or_moved(self):
        access = AccessList("rwx", "rx", "", users={"ann": "r", "bob": "w"}, groups={"all": "x", "zoo": ""})
        words = str(access).split(",")
        self.assertEqual(len(words), 8)
        for at in range(len(words)):
            self.reads(",".join(words[:at] + words[at + 1:]))
            self.reads(",".join(words[:at] + [words[at]] + words[at:]))
        for order in itertools.permutations(words):
            self.assertIs(is_list_text(",".join(order)), list(order) == words)
            self.reads(",".join(order))

    def test_too_many_names(self):
        for sign in "ug":
            names = ["a", "b", "c", "d", "e", "f"]
            for more in ([], ["g"]):
                row = ",".join([f"{sign}:{name}:r--" for name in names + more])
                text = f"u::rwx,{row},g::rwx,m::rwx,o::rwx" if sign == "u" else f"u::rwx,g::rwx,{row},m::rwx,o::rwx"
                self.assertIs(is_list_text(text), not more)
                self.reads(text)

    def test_texts_that_are_none(self):
        for text in (
            "", "u", ",", "u::rwx", "u::rwx,g::r-x", "u::rwx,g::r-x,o::---,", ",u::rwx,g::r-x,o::---",
            "u::rwx,g::r-x,o::---\n", " u::rwx,g::r-x,o::---", "u::rwx, g::r-x,o::---", "u::rwx,o::---,g::r-x",
            "u::rwx,g::r-x,o::--", "u::rwx,g::r-x,o::----", "u::xwr,g::r-x,o::---", "u::rw,g::r-x,o::---",
            "u::rwx,u:ann:rwx,g::r-x,o::---", "u::rwx,u:root:rwx,g::r-x,m::rwx,o::---", "u::rwx,g::r-x,o:ann:---",
            "u::rwx,u:Ann:rwx,g::r-x,m::rwx,o::---", "u::rwx,u:bob:r--,u:ann:r--,g::r-x,m::rwx,o::---",
            "u::rwx,u:ann:r--,u:ann:r--,g::r-x,m::rwx,o::---", "u::rwx,m::rwx,g::r-x,o::---", "u:rwx,g:r-x,o:---",
            "u::rwx,g::r-x,m:ann:rwx,o::---", "u::rwx,g::r-x,x::rwx,o::---", "u::rwx,g::r-x,o::---,o::---", "755",
            "u::rwx:,g::r-x,o::---", "u:::rwx,g::r-x,o::---", "user::rwx,group::r-x,other::---",
        ):
            self.assertFalse(is_list_text(text))
            self.fails(InvalidText, text, AccessList.from_text, text)

    def test_any_values(self):
        for value in any_values():
            if isinstance(value, str) and is_list_text(value):
                self.assertEqual(str(AccessList.from_text(value)), value)
            else:
                self.fails(InvalidText, value, AccessList.from_text, value)


if __name__ == "__main__":
    unittest.main()
