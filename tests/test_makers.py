"""Scripts of making: which values are scripts, what they make, and which are alike."""

import itertools
import unittest

from filerights.deeds import do
from filerights.errors import InvalidDigits, InvalidList, InvalidName, InvalidNode, InvalidScript, InvalidStart
from filerights.house import House
from filerights.lists import AccessList, is_digits
from filerights.makers import Start, alike, is_script, made, without_effect
from filerights.people import People
from filerights.words import is_below, is_name
from helpers import any_values, raised
from houses import drawn_access, seed_of

ACCESS = AccessList("rwx", "r", "", users={"bob": "x"})
MASKED = AccessList("rwx", "rx", "w", mask="rw")
DIGITS = ["000", "644", "666", "750", "777", "027"]


def drawn_script(source, most=8):
    """Return a script that is drawn step by step."""
    steps = []
    for _ in range(source.randint(0, most)):
        path = "".join(["/" + source.choice("ab") for _ in range(source.randint(1, 3))])
        step = source.choice([
            ("umask", source.choice(DIGITS)), ("file", path, source.choice(DIGITS)), ("folder", path, source.choice(DIGITS)),
            ("folder", path, "777"), ("digits", path, source.choice(DIGITS)), ("list", path, drawn_access(source)),
            ("default", path, source.choice([None, drawn_access(source)])), ("passes", path, source.random() < 0.5),
            ("remove", path),
        ])
        if is_script(steps + [step]):
            steps.append(step)
    return steps


def changed(source, steps):
    """Return a script with one step left out, put in, or otherwise."""
    for _ in range(20):
        rest = list(steps)
        at = source.randint(0, len(rest))
        if source.random() < 0.5:
            rest[at:at + 1] = []
        else:
            rest[at:at] = drawn_script(source, 3)
        if is_script(rest):
            return rest
    return steps


def starts(source, count=6):
    """Return starts of all kinds, with groups that a user may have first."""
    found = [Start(), Start(default=AccessList.plain("777")), Start(default=MASKED, umask="777")]
    for _ in range(count):
        default = source.choice([None, drawn_access(source), AccessList.plain(source.choice(DIGITS))])
        found.append(Start(default=default, group=source.choice(["root", "own", "g"]), passes=source.random() < 0.5,
                           umask=source.choice(DIGITS)))
    return found


def by_deeds(script, start, first):
    """Return what a user makes by deeds in a house, with nothing in the start folder but what the script makes."""
    house = House(People({"ann": [first], "bob": ["zoo" if start.group == "root" else start.group]}))
    house.add("/at", "folder", owner="ann", group=start.group, access=AccessList.everything())
    house.mark("/at", passes=start.passes)
    house.set_default("/at", start.default)
    house.set_umask("ann", start.umask)
    for word, *parts in script:
        rest = parts[1:]
        if word == "umask":
            do(house, ("ann", "umask", parts[0]))
            continue
        path = "/at" + parts[0]
        if word in ("file", "folder"):
            # Rights are not asked of a script, so the folders above give all letters while the deed is done.
            kept = {place: house[place].access for place in house.paths() if is_below(path, place)}
            for place in kept:
                house[place] = AccessList.everything()
            do(house, ("ann", word, path, rest[0]))
            for place, access in kept.items():
                house[place] = access
        elif word == "digits":
            house[path] = house[path].access.with_digits(rest[0])
        elif word == "list":
            house[path] = rest[0]
        elif word == "default":
            house.set_default(path, rest[0])
        elif word == "passes":
            house.mark(path, passes=rest[0])
        else:
            house.cut(path)
    return {
        path[3:]: (node.kind, node.group, node.access, node.default, node.passes)
        for path, node in house.walk("/at") if path != "/at"
    }


class IsScriptTest(unittest.TestCase):
    def test_scripts(self):
        good = [
            [], (), [("umask", "000")], [("file", "/a", "644")], [("folder", "/a", "777"), ("file", "/a/b", "000")],
            [("file", "/tmp", "644")], [("folder", "/tmp", "644"), ("file", "/tmp/tmp", "644")],
            [("file", "/a", "644"), ("digits", "/a", "600"), ("list", "/a", ACCESS), ("remove", "/a"), ("file", "/a", "1" * 3)],
            [("folder", "/a", "644"), ("default", "/a", None), ("default", "/a", ACCESS), ("passes", "/a", True)],
            [("folder", "/a", "644"), ("passes", "/a", False), ("remove", "/a"), ("folder", "/a", "644")],
            [("folder", "/a", "644"), ("file", "/a/b", "644"), ("remove", "/a/b"), ("remove", "/a")],
            [("folder", "/a", "644"), ("file", "/ab", "644"), ("remove", "/a")],
            [("file", "/root", "644")],
        ]
        for script in good:
            self.assertIs(is_script(script), True, script)
            self.assertIs(is_script(value=tuple(script)), True)

    def test_values_that_are_none(self):
        for value in any_values():
            self.assertIs(is_script(value), isinstance(value, (list, tuple)) and not value)
            self.assertIs(is_script([value]), False)
            self.assertIs(is_script([("file", "/a", "644"), value]), False)

    def test_steps_of_a_wrong_form(self):
        makes = [("folder", "/a", "777")]
        steps = [("umask", "008"), ("umask",), ("umask", "000", "000"), ("umask", "/a", "000"), ("file", "/b"),
                 ("file", "/b", 644), ("file", "/b", "64"), ("file", "b", "644"), ("file", "/b/", "644"),
                 ("file", "/", "644"), ("folder", "/", "644"), ("file", "/b", "644", "x"), ("File", "/b", "644"),
                 ("digits", "/a", "9"), ("digits", "/a"), ("digits", "/a", None), ("list", "/a", None),
                 ("list", "/a", "u::rwx,g::r-x,o::---"), ("list", "/a", "755"), ("default", "/a"), ("default", "/a", ""),
                 ("default", "/a", False), ("passes", "/a"), ("passes", "/a", 1), ("passes", "/a", None),
                 ("remove", "/a", "x"), ("remove",), (), ("a",), ("mark", "/a", True), ("allow", "/a", ACCESS),
                 ["umask", "000"], "umask 000", (["umask"], "000"), (None, "/a"), ("give", "/a", "g"), ("read", "/a")]
        for step in steps:
            self.assertIs(is_script(makes + [step]), False, step)
            self.assertIs(is_script([step]), False, step)

    def test_one_part_of_each_step_is_any_value(self):
        makes = [("folder", "/a", "777")]
        steps = [("umask", "000"), ("file", "/b", "000"), ("folder", "/b", "000"), ("digits", "/a", "000"),
                 ("list", "/a", ACCESS), ("default", "/a", ACCESS), ("passes", "/a", True), ("remove", "/a")]
        for step in steps:
            self.assertIs(is_script(makes + [step]), True)
            for at, value in itertools.product(range(len(step)), any_values()):
                other = (*step[:at], value, *step[at + 1:])
                wanted = at == len(step) - 1 and (
                    (is_digits(step[at]) and is_digits(value))
                    or (step[0] in ("list", "default") and isinstance(value, AccessList))
                    or (step[0] == "default" and value is None)
                    or (step[0] == "passes" and isinstance(value, bool))
                )
                if at == 1 and step[0] in ("file", "folder"):
                    wanted = value == "/home"
                self.assertIs(is_script(makes + [other]), wanted, other)

    def test_steps_that_cannot_be_carried_out(self):
        bad = [
            [("file", "/a/b", "644")], [("file", "/a", "644"), ("file", "/a/b", "644")],
            [("file", "/a", "644"), ("file", "/a", "644")], [("folder", "/a", "644"), ("file", "/a", "644")],
            [("digits", "/a", "644")], [("list", "/", ACCESS)], [("default", "/", None)], [("passes", "/", True)],
            [("remove", "/")], [("remove", "/a")], [("file", "/a", "644"), ("default", "/a", None)],
            [("file", "/a", "644"), ("passes", "/a", False)],
            [("folder", "/a", "644"), ("file", "/a/b", "644"), ("remove", "/a")],
            [("folder", "/a", "644"), ("remove", "/a"), ("file", "/a/b", "644")],
            [("folder", "/a", "644"), ("remove", "/a"), ("digits", "/a", "644")],
            [("folder", "/a", "644"), ("remove", "/a"), ("remove", "/a")],
            [("file", "/tmp/a", "644")], [("digits", "/tmp", "644")],
        ]
        for script in bad:
            self.assertIs(is_script(script), False, script)

    def test_twenty_and_twenty_one_steps(self):
        steps = [("folder", "/a", "777")] + [("umask", "022")] * 19
        self.assertIs(is_script(steps), True)
        self.assertIs(is_script(steps + [("umask", "022")]), False)
        deep = [("folder", "/a" * count, "777") for count in range(1, 21)]
        self.assertIs(is_script(deep), True)
        self.assertEqual(len(made(deep, Start())), 20)
        error = raised(made, deep + [("umask", "000")], Start())
        self.assertIs(type(error), InvalidScript)


class StartTest(unittest.TestCase):
    def test_properties(self):
        start = Start()
        self.assertEqual([start.default, start.group, start.passes, start.umask], [None, "root", False, "000"])
        start = Start(umask="027", passes=True, group="staff", default=ACCESS)
        self.assertEqual([start.default, start.group, start.passes, start.umask], [ACCESS, "staff", True, "027"])
        self.assertIs(start.passes, True)

    def test_equal(self):
        parts = {"default": ACCESS, "group": "staff", "passes": True, "umask": "027"}
        same = Start(**{**parts, "default": AccessList.from_text(str(ACCESS))})
        self.assertTrue(Start(**parts) == same)
        self.assertFalse(Start(**parts) != same)
        for word, value in (("default", None), ("default", MASKED), ("group", "g"), ("passes", False), ("umask", "022")):
            self.assertFalse(Start(**parts) == Start(**{**parts, word: value}))
        for value in any_values():
            self.assertFalse(Start(**parts) == value)
        self.assertIsInstance(repr(same), str)

    def test_wrong_parts(self):
        for value in any_values():
            if value is not None and not isinstance(value, AccessList):
                error = raised(Start, default=value, group=1, passes=1, umask=1)
                self.assertEqual([type(error), error.value is value], [InvalidList, True])
            if not is_name(value):
                error = raised(Start, group=value, passes=1, umask=1)
                self.assertEqual([type(error), error.value is value], [InvalidName, True])
            if not isinstance(value, bool):
                error = raised(Start, group="staff", passes=value, umask=1)
                self.assertEqual([type(error), error.value is value], [InvalidNode, True])
            if not is_digits(value):
                error = raised(Start, passes=True, umask=value)
                self.assertEqual([type(error), error.value is value], [InvalidDigits, True])


class MadeTest(unittest.TestCase):
    def test_against_deeds(self):
        source = seed_of("made")
        for _ in range(120):
            script = drawn_script(source)
            for start in starts(source, 3):
                for first in ("own", "g"):
                    self.assertEqual(made(script, start, first=first), by_deeds(script, start, first), script)

    def test_known_results(self):
        script = [("folder", "/d", "775"), ("umask", "077"), ("file", "/d/a", "666"), ("passes", "/d", True),
                  ("default", "/d", MASKED), ("file", "/d/b", "666"), ("folder", "/d/e", "710"), ("list", "/d", ACCESS)]
        found = made(script, Start(group="staff", umask="002"), first="guests")
        plain, default = AccessList.plain, MASKED
        self.assertEqual(found, {
            "/d": ("folder", "guests", ACCESS, default, True), "/d/a": ("file", "guests", plain("600"), None, False),
            "/d/b": ("file", "guests", default.narrowed("666"), None, False),
            "/d/e": ("folder", "guests", default.narrowed("710"), default, True),
        })
        passed = made(script, Start(group="staff", passes=True, default=ACCESS), first="guests")
        self.assertEqual(passed["/d"], ("folder", "staff", ACCESS, default, True))
        self.assertEqual(passed["/d/a"], ("file", "staff", ACCESS.narrowed("666"), None, False))
        self.assertEqual(made([], Start()), {})
        self.assertEqual(made(script=script[:1], start=Start(), first="root")["/d"][1], "root")
        self.assertEqual(made(script[:1], Start(group="staff"))["/d"][1], "own")

    def test_what_is_passed_stays_and_what_is_returned_is_new(self):
        script = [("folder", "/d", "775"), ("remove", "/d"), ("file", "/d", "600")]
        kept, start = list(script), Start()
        first = made(script, start)
        first["/x"] = 1
        self.assertEqual([made(tuple(script), start), script], [{"/d": ("file", "own", AccessList.plain("600"), None, False)},
                                                               kept])

    def test_wrong_arguments(self):
        for value in any_values():
            if not (isinstance(value, (list, tuple)) and not value):
                error = raised(made, value, None, first=None)
                self.assertEqual([type(error), error.value is value], [InvalidScript, True])
            error = raised(made, [], value, first=None)
            self.assertEqual([type(error), error.value is value], [InvalidStart, True])
            if not is_name(value):
                error = raised(made, [], Start(), first=value)
                self.assertEqual([type(error), error.value is value], [InvalidName, True])


class AlikeTest(unittest.TestCase):
    def check(self, one, other, source):
        """Compare what is told with what the two scripts make for starts of all kinds."""
        found = alike(one, other)
        if found is not None:
            self.assertIsInstance(found, Start)
            self.assertNotEqual(made(one, found), made(other, found))
            return False
        for start, first in itertools.product(starts(source), ("own", "root", "g")):
            self.assertEqual(made(one, start, first=first), made(other, start, first=first), (one, other))
        return True

    def test_drawn_pairs(self):
        source, count = seed_of("alike"), {True: 0, False: 0}
        for _ in range(250):
            one = drawn_script(source)
            count[self.check(one, changed(source, one), source)] += 1
        self.assertGreater(min(count.values()), 20)

    def test_pairs_that_are_alike(self):
        source = seed_of("same")
        make = [("folder", "/d", "770")]
        pairs = [
            ([], []), ([], [("umask", "022")]), ([], [("file", "/a", "644"), ("remove", "/a")]),
            ([("file", "/a", "000")], [("umask", "777"), ("file", "/a", "000")]),
            ([("file", "/a", "644"), ("list", "/a", ACCESS)], [("file", "/a", "777"), ("list", "/a", ACCESS)]),
            ([("file", "/a", "644"), ("digits", "/a", "600")], [("file", "/a", "000"), ("digits", "/a", "600")]),
            (make + [("file", "/a", "644")], [("file", "/a", "644")] + make),
            (make + [("default", "/d", ACCESS), ("file", "/d/a", "660")],
             make + [("default", "/d", ACCESS), ("umask", "777"), ("file", "/d/a", "660")]),
            (make + [("passes", "/d", True), ("passes", "/d", False)], make + [("passes", "/d", False)]),
        ]
        for one, other in pairs:
            self.assertTrue(self.check(one, other, source), (one, other))
            self.assertIsNone(alike(other=one, one=other))

    def test_pairs_that_differ_for_one_kind_of_start(self):
        source = seed_of("differ")
        make = [("folder", "/d", "777")]
        none = make + [("default", "/d", None)]
        empty = AccessList("", "", "")
        pairs = [
            # A umask alone: one file is made with letters that it can lack.
            (none + [("file", "/d/a", "640")], none + [("file", "/d/a", "640"), ("digits", "/d/a", "640")]),
            (none + [("file", "/d/a", "001")], none + [("umask", "000"), ("file", "/d/a", "001")]),
            # A default list with a mask keeps its group when digits are set.
            ([("file", "/a", "777"), ("digits", "/a", "000")], [("file", "/a", "777"), ("list", "/a", empty)]),
            # A default list alone: with none, the folder has none.
            (make, none),
            # A default list alone: it is not the umask that takes the letters.
            ([("umask", "000"), ("file", "/a", "777")], [("umask", "000"), ("file", "/a", "777"), ("digits", "/a", "777")]),
            # A group that is passed on, or not.
            (make, make + [("passes", "/d", False)]), (make, make + [("passes", "/d", True)]),
            (make + [("file", "/d/a", "000")], make + [("passes", "/d", True), ("file", "/d/a", "000"), ("passes", "/d", False)]),
            # Something else is there at the end.
            ([], [("file", "/a", "000")]), ([("file", "/a", "000")], [("file", "/b", "000")]),
            ([("folder", "/a", "000")], [("file", "/a", "000")]),
        ]
        for one, other in pairs:
            self.assertFalse(self.check(one, other, source), (one, other))
            self.assertFalse(self.check(other, one, source), (one, other))

    def test_a_first_group_that_is_the_group_of_the_start(self):
        one = [("folder", "/d", "777"), ("passes", "/d", True), ("file", "/d/a", "000"), ("passes", "/d", False)]
        other = [("folder", "/d", "777"), ("passes", "/d", False), ("file", "/d/a", "000")]
        start = Start(group="own", passes=True, default=MASKED)
        self.assertEqual(made(one, start), made(other, start))
        self.assertNotEqual(made(one, Start(passes=True)), made(other, Start(passes=True)))
        self.assertIsNotNone(alike(one, other))

    def test_wrong_arguments(self):
        for value in any_values():
            if not (isinstance(value, (list, tuple)) and not value):
                error = raised(alike, value, None)
                self.assertEqual([type(error), error.value is value], [InvalidScript, True])
                error = raised(alike, [], value)
                self.assertEqual([type(error), error.value is value], [InvalidScript, True])
                error = raised(without_effect, value)
                self.assertEqual([type(error), error.value is value], [InvalidScript, True])


class WithoutEffectTest(unittest.TestCase):
    def test_against_alike(self):
        source, count = seed_of("effect"), 0
        for _ in range(60):
            script = drawn_script(source, 12)
            wanted = []
            for index in range(len(script)):
                rest = script[:index] + script[index + 1:]
                if is_script(rest) and alike(script, rest) is None:
                    wanted.append(index)
            self.assertEqual(without_effect(script), wanted)
            count += len(wanted)
        self.assertGreater(count, 20)

    def test_steps_that_can_be_left_out(self):
        self.assertEqual(without_effect([]), [])
        self.assertEqual(without_effect(script=[("umask", "022"), ("umask", "022")]), [0, 1])
        self.assertEqual(without_effect((("umask", "022"), ("file", "/a", "666"), ("digits", "/a", "600"))), [0])
        self.assertEqual(without_effect([("file", "/a", "666"), ("list", "/a", ACCESS), ("list", "/a", ACCESS)]), [1, 2])

    def test_steps_that_cannot_although_they_change_nothing_at_the_end_of_some_start(self):
        self.assertEqual(without_effect([("umask", "000"), ("file", "/a", "666")]), [])
        self.assertEqual(made([("umask", "000"), ("file", "/a", "666")], Start()), made([("file", "/a", "666")], Start()))
        self.assertEqual(without_effect([("folder", "/d", "777"), ("passes", "/d", False)]), [])
        self.assertEqual(without_effect([("file", "/a", "666"), ("digits", "/a", "666")]), [])
        # The node is gone at the end, but without it the other steps are no script.
        self.assertEqual(without_effect([("folder", "/d", "777"), ("file", "/d/a", "666"), ("remove", "/d/a")]), [])


if __name__ == "__main__":
    unittest.main()
