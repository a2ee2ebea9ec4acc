"""Seats of users, trials, and histories."""

import unittest

from filerights.deeds import do, run
from filerights.errors import Absent, DeedFailed, Denied, Ground, Held, InvalidContent, InvalidDeed, InvalidDeeds
from filerights.errors import InvalidDigits, InvalidHouse, InvalidList, InvalidName, InvalidNode, InvalidPath
from filerights.errors import NothingToUndo, NotMember, NotOwner, Taken, UnknownUser
from filerights.house import House
from filerights.lists import AccessList, is_digits
from filerights.people import People
from filerights.seats import History, Seat, Trial, tried
from filerights.words import is_name, is_path
from helpers import any_values, raised
from houses import numbers_of

PEOPLE = People({"ann": ["staff", "chess"], "bob": ["guests", "staff"]})
ACCESS = AccessList("rwx", "rx", "", users={"bob": "rwx"})


def filled():
    house = House(PEOPLE)
    house.add("/lab", "folder", owner="ann", group="staff", access=AccessList.plain("770"))
    house.add("/lab/plan", "file", owner="ann", group="staff", access=AccessList.plain("640"), content="north")
    house.add("/lab/box", "folder", owner="bob", group="staff", access=AccessList.plain("700"))
    house.add("/tmp/bag", "folder", owner="ann", access=AccessList.plain("777"))
    return house


def fields(error):
    return (type(error), *vars(error).values())


class Deed:
    """A call of a method of a seat, beside the deed of the same word."""

    def __init__(self, call, *deed):
        self.call, self.deed = call, deed


CALLS = [
    Deed(lambda seat, path: seat.read(path), "read"),
    Deed(lambda seat, path: seat.write(path, "new\n"), "write", "new\n"),
    Deed(lambda seat, path: seat.file(path), "file", "666"),
    Deed(lambda seat, path: seat.file(path, mode="751"), "file", "751"),
    Deed(lambda seat, path: seat.folder(path), "folder", "777"),
    Deed(lambda seat, path: seat.folder(path, mode="700"), "folder", "700"),
    Deed(lambda seat, path: seat.move(path, "/tmp/new"), "move", "/tmp/new"),
    Deed(lambda seat, path: seat.move(path, "/lab/plan"), "move", "/lab/plan"),
    Deed(lambda seat, path: seat.remove(path), "remove"),
    Deed(lambda seat, path: seat.allow(path, ACCESS), "allow", ACCESS),
    Deed(lambda seat, path: seat.set_default(path, ACCESS), "default", ACCESS),
    Deed(lambda seat, path: seat.set_default(path, None), "default", None),
    Deed(lambda seat, path: seat.mark(path, sticky=True, passes=False), "mark", True, False),
    Deed(lambda seat, path: seat.mark(path, passes=True, sticky=False), "mark", False, True),
    Deed(lambda seat, path: seat.give(path, "chess"), "give", "chess"),
    Deed(lambda seat, path: seat.give(path, "root"), "give", "root"),
    Deed(lambda seat, path: seat.give(path, group="zoo"), "give", "zoo"),
]
PATHS = ["/", "/tmp", "/lab", "/lab/plan", "/lab/box", "/lab/box/a", "/lab/new", "/lab/plan/a", "/tmp/bag", "/tmp/bag/a",
         "/new"]


class SeatTest(unittest.TestCase):
    def test_each_method_against_the_deed(self):
        met = {}
        for user in PEOPLE.users():
            for told in CALLS:
                for path in PATHS:
                    met[self.compare(user, told, path)] = True
        self.assertTrue({None, Absent, Denied, Ground, Held, NotOwner, NotMember, Taken} <= set(met))

    def compare(self, user, told, path):
        house, other = filled(), filled()
        house.mark("/lab", sticky=True)
        other.mark("/lab", sticky=True)
        word, *rest = told.deed
        try:
            wanted = do(other, (user, word, path, *rest))
        except Exception as error:
            found = raised(told.call, Seat(house, user), path)
            self.assertEqual(fields(found), fields(error))
            self.assertEqual(house, other)
            return type(error)
        self.assertEqual(told.call(Seat(house, user), path), wanted)
        self.assertEqual([house, numbers_of(house)], [other, numbers_of(other)])
        return None

    def test_properties(self):
        house = filled()
        seat = Seat(house=house, user="ann")
        self.assertEqual([seat.user, seat.umask], ["ann", "022"])
        house.set_umask("ann", "077")
        self.assertEqual(seat.umask, "077")
        self.assertIsNone(seat.set_umask("027"))
        self.assertEqual([seat.umask, house.umask_of("ann"), house.umask_of("bob")], ["027", "027", "022"])
        self.assertIsNone(seat.set_umask(digits="000"))
        self.assertEqual([seat.user, seat.umask], ["ann", "000"])

    def test_modes_that_are_left_out(self):
        house = filled()
        seat = Seat(house, "ann")
        seat.set_umask("000")
        seat.file("/tmp/a")
        seat.folder("/tmp/b")
        seat.file(mode="640", path="/tmp/c")
        seat.folder("/tmp/d", mode="750")
        self.assertEqual([house[path].access.digits for path in ("/tmp/a", "/tmp/b", "/tmp/c", "/tmp/d")],
                         ["666", "777", "640", "750"])

    def test_arguments_by_name(self):
        house = filled()
        seat = Seat(house, "ann")
        self.assertEqual(seat.read(path="/lab/plan"), "north")
        seat.write(content="south", path="/lab/plan")
        seat.move(to="/lab/a", path="/lab/plan")
        seat.allow(access=ACCESS, path="/lab/a")
        seat.set_default(access=ACCESS, path="/lab")
        seat.mark(sticky=True, passes=True, path="/lab")
        seat.give(group="chess", path="/lab/a")
        node = house["/lab/a"]
        self.assertEqual([node.content, node.access, node.group], ["south", ACCESS, "chess"])
        self.assertEqual([house["/lab"].default, house["/lab"].sticky, house["/lab"].passes], [ACCESS, True, True])
        seat.remove(path="/lab/a")
        self.assertNotIn("/lab/a", house)

    def test_two_seats_at_one_house(self):
        house = filled()
        ann, bob = Seat(house, "ann"), Seat(house, "bob")
        self.assertEqual(fields(raised(bob.write, "/lab/plan", "x")), (Denied, "/lab/plan", "w"))
        ann.allow("/lab/plan", AccessList.plain("660"))
        self.assertIsNone(bob.write("/lab/plan", "x"))
        self.assertEqual(ann.read("/lab/plan"), "x")
        bob.set_umask("077")
        self.assertEqual([ann.umask, bob.umask], ["022", "077"])
        self.assertFalse(Seat(house, "ann") == ann)
        self.assertIsInstance(repr(ann), str)

    def test_houses_and_users(self):
        house = filled()
        for value in any_values():
            if not isinstance(value, House):
                error = raised(Seat, value, None)
                self.assertEqual(type(error), InvalidHouse)
                self.assertIs(error.value, value)
            if value != "ann":
                error = raised(Seat, house, value)
                self.assertEqual(type(error), UnknownUser)
                self.assertIs(error.name, value)
        self.assertEqual(type(raised(Seat, house, "root")), UnknownUser)


class WrongArgumentsTest(unittest.TestCase):
    def setUp(self):
        self.house = filled()
        self.seat = Seat(self.house, "ann")
        self.kept = self.house.copied()

    def wrong(self, error_class, value, call):
        error = raised(call)
        self.assertIs(type(error), error_class)
        self.assertIs(list(vars(error).values())[0], value)
        self.assertEqual(self.house, self.kept)

    def test_paths(self):
        seat = self.seat
        for value in any_values() + ["/lab/", "lab"]:
            if is_path(value):
                continue
            calls = [
                lambda: seat.read(value), lambda: seat.write(value, None), lambda: seat.file(value, mode="8"),
                lambda: seat.folder(value, mode=None), lambda: seat.move(value, None), lambda: seat.remove(value),
                lambda: seat.allow(value, None), lambda: seat.set_default(value, 1),
                lambda: seat.mark(value, sticky=None, passes=None), lambda: seat.give(value, None),
                lambda: seat.move("/no", value), lambda: seat.move("/", value),
            ]
            for call in calls:
                self.wrong(InvalidPath, value, call)

    def test_what_else_is_passed(self):
        seat = self.seat
        for path in ("/no", "/", "/lab/plan"):
            for value in any_values():
                if not isinstance(value, str):
                    self.wrong(InvalidContent, value, lambda: seat.write(path, value))
                if not is_digits(value):
                    self.wrong(InvalidDigits, value, lambda: seat.file(path, mode=value))
                    self.wrong(InvalidDigits, value, lambda: seat.folder(path, mode=value))
                    self.wrong(InvalidDigits, value, lambda: seat.set_umask(value))
                if not isinstance(value, AccessList):
                    self.wrong(InvalidList, value, lambda: seat.allow(path, value))
                    if value is not None:
                        self.wrong(InvalidList, value, lambda: seat.set_default(path, value))
                if not isinstance(value, bool):
                    self.wrong(InvalidNode, value, lambda: seat.mark(path, sticky=value, passes=None))
                    self.wrong(InvalidNode, value, lambda: seat.mark(path, sticky=True, passes=value))
                if not is_name(value):
                    self.wrong(InvalidName, value, lambda: seat.give(path, value))

    def test_the_order_when_two_things_are_wrong(self):
        self.wrong(InvalidPath, "b", lambda: self.seat.move("b", "c"))
        self.assertEqual(fields(raised(self.seat.move, "/tmp", "/tmp/a")), (Ground, "/tmp"))
        self.assertEqual(fields(raised(self.seat.move, "/no", "/lab")), (Absent, "/no"))
        self.assertEqual(fields(raised(self.seat.give, "/lab/box", "zoo")), (NotOwner, "/lab/box"))


class TrialTest(unittest.TestCase):
    def setUp(self):
        self.house = filled()
        self.before = self.house.copied()

    def unchanged(self):
        self.assertEqual([self.house, numbers_of(self.house)], [self.before, numbers_of(self.before)])

    def change(self):
        do(self.house, ("ann", "file", "/tmp/a", "666"))
        self.house.cut("/lab/plan")
        self.house.set_umask("bob", "777")
        self.house.shift("/lab/box", "/lab/bag")

    def test_a_block(self):
        with Trial(self.house) as same:
            self.assertIs(same, self.house)
            self.change()
            self.assertFalse(self.house == self.before)
        self.unchanged()
        with Trial(house=self.house):
            pass
        self.unchanged()

    def test_an_exception_goes_on(self):
        error = KeyError("x")
        with self.assertRaises(KeyError) as caught:
            with Trial(self.house):
                self.change()
                raise error
        self.assertIs(caught.exception, error)
        self.unchanged()
        with self.assertRaises(Denied):
            with Trial(self.house):
                self.change()
                do(self.house, ("bob", "file", "/a", "666"))
        self.unchanged()

    def test_within_each_other(self):
        with Trial(self.house):
            do(self.house, ("ann", "file", "/tmp/a", "666"))
            middle = self.house.copied()
            with Trial(self.house) as same:
                self.change_more(same)
                with Trial(self.house):
                    self.house.cut("/lab")
            self.assertEqual([self.house, numbers_of(self.house)], [middle, numbers_of(middle)])
        self.unchanged()

    def change_more(self, house):
        house.add("/new", "folder")
        house.give("/lab", owner="bob")

    def test_used_again(self):
        trial = Trial(self.house)
        for _ in range(3):
            with trial:
                self.change()
            self.unchanged()
        self.house.add("/new", "file")
        self.before = self.house.copied()
        with trial:
            self.house.cut("/new")
        self.unchanged()

    def test_a_return_out_of_the_block(self):
        def made():
            with Trial(self.house) as same:
                self.change()
                return len(same)
        self.assertEqual(made(), len(self.before))
        self.unchanged()

    def test_numbers_can_be_given_again_but_are_no_others(self):
        with Trial(self.house):
            do(self.house, ("ann", "file", "/tmp/a", "666"))
        do(self.house, ("ann", "file", "/tmp/b", "666"))
        numbers = [node.number for _, node in self.house.walk()]
        self.assertEqual(len(numbers), len(set(numbers)))

    def test_houses(self):
        for value in any_values():
            if not isinstance(value, House):
                for call in (Trial, History, lambda value: tried(value, None)):
                    error = raised(call, value)
                    self.assertIs(type(error), InvalidHouse)
                    self.assertIs(error.value, value)


class TriedTest(unittest.TestCase):
    def check(self, deeds):
        house, other, before = filled(), filled(), filled()
        try:
            wanted = run(other, deeds)
        except Exception as error:
            found = raised(tried, house, deeds)
            self.assertEqual(fields(found), fields(error))
            if error.__cause__ is not None:
                self.assertEqual(fields(found.__cause__), fields(error.__cause__))
        else:
            self.assertEqual(tried(house, deeds), wanted)
            self.assertEqual(tried(house=house, deeds=tuple(deeds)), wanted)
        self.assertEqual([house, numbers_of(house)], [before, numbers_of(before)])

    def test_against_run(self):
        make = ("ann", "file", "/tmp/a", "666")
        self.check([])
        self.check([make, ("ann", "write", "/tmp/a", "x"), ("ann", "read", "/tmp/a"), ("bob", "umask", "000")])
        self.check([make, make])
        self.check([make, ("bob", "remove", "/tmp/a")])
        self.check([("cal", "umask", "000")])
        for value in any_values():
            self.check([make, value])
            if not isinstance(value, (list, tuple)):
                error = raised(tried, filled(), value)
                self.assertIs(type(error), InvalidDeeds)
                self.assertIs(error.value, value)
            error = raised(tried, filled(), [make, value])
            self.assertIs(type(error), InvalidDeed)
            self.assertIs(error.value, value)
        self.assertEqual(raised(tried, filled(), [make, make]).index, 1)
        self.assertIs(type(raised(tried, filled(), [make, make])), DeedFailed)


class HistoryTest(unittest.TestCase):
    def setUp(self):
        self.house = filled()
        self.deeds = [
            ("ann", "write", "/lab/plan", "south"), ("ann", "read", "/lab/plan"), ("bob", "umask", "077"),
            ("bob", "folder", "/tmp/b", "777"), ("bob", "move", "/tmp/b", "/tmp/c"),
            ("ann", "move", "/lab/box", "/lab/bag"), ("ann", "mark", "/lab", True, True),
            ("ann", "default", "/lab", ACCESS), ("ann", "allow", "/lab/plan", ACCESS),
            ("ann", "give", "/lab/plan", "chess"), ("ann", "remove", "/lab/plan"), ("ann", "file", "/lab/plan", "600"),
        ]

    def test_all_deeds_and_back(self):
        history, states = History(self.house), []
        for count, deed in enumerate(self.deeds):
            self.assertEqual([len(history), history.deeds()], [count, self.deeds[:count]])
            states.append(self.house.copied())
            self.assertEqual(history.do(deed), "south" if deed[1] == "read" else None)
        for deed, state in zip(self.deeds[::-1], states[::-1]):
            self.assertIs(history.undo(), deed)
            self.assertEqual([self.house, numbers_of(self.house)], [state, numbers_of(state)])
        self.assertEqual([len(history), history.deeds()], [0, []])
        self.assertIs(type(raised(history.undo)), NothingToUndo)
        self.assertEqual(self.house, filled())

    def test_refused_deeds_are_not_kept(self):
        history = History(house=self.house)
        history.do(deed=self.deeds[0])
        for deed in (("bob", "file", "/a", "666"), ("bob", "write", "/lab/plan", ""), ("cal", "umask", "000"), None, []):
            error = raised(history.do, deed)
            self.assertEqual(fields(error), fields(raised(do, self.house, deed)))
            self.assertEqual([history.deeds(), len(history)], [self.deeds[:1], 1])
        self.assertIs(history.undo(), self.deeds[0])

    def test_values_that_are_no_deeds(self):
        history = History(self.house)
        for value in any_values():
            error = raised(history.do, value)
            self.assertIs(type(error), InvalidDeed)
            self.assertIs(error.value, value)
        self.assertEqual(len(history), 0)

    def test_whatever_has_changed_the_house(self):
        history = History(self.house)
        before = self.house.copied()
        history.do(("bob", "folder", "/tmp/b", "777"))
        middle = self.house.copied()
        self.house.add("/new", "folder")
        self.house.cut("/lab")
        history.do(("bob", "umask", "000"))
        do(self.house, ("bob", "file", "/tmp/b/a", "666"))
        self.house.set_umask("ann", "777")
        self.assertEqual(history.undo(), ("bob", "umask", "000"))
        self.assertEqual(self.house.paths(), ["/new", "/tmp/b", "/tmp/bag"])
        self.assertEqual([self.house.umask_of("ann"), self.house.umask_of("bob")], ["022", "022"])
        self.house.cut("/tmp/b")
        self.assertEqual(history.undo(), ("bob", "folder", "/tmp/b", "777"))
        self.assertEqual([self.house, numbers_of(self.house)], [before, numbers_of(before)])
        self.assertFalse(self.house == middle)

    def test_a_second_history_of_the_same_house(self):
        one, two = History(self.house), History(self.house)
        first = self.house.copied()
        one.do(("bob", "folder", "/tmp/b", "777"))
        second = self.house.copied()
        two.do(("bob", "folder", "/tmp/c", "777"))
        one.do(("bob", "folder", "/tmp/d", "777"))
        self.assertEqual([len(one), len(two), one == two, one == one], [2, 1, False, True])
        two.undo()
        self.assertEqual([self.house, numbers_of(self.house)], [second, numbers_of(second)])
        self.assertEqual(one.undo()[2], "/tmp/d")
        self.assertEqual(self.house.paths(), sorted([*second.paths(), "/tmp/c"]))
        self.assertEqual(one.undo()[2], "/tmp/b")
        self.assertEqual([self.house, numbers_of(self.house)], [first, numbers_of(first)])
        self.assertIs(type(raised(two.undo)), NothingToUndo)

    def test_in_a_trial(self):
        history = History(self.house)
        with Trial(self.house):
            history.do(("bob", "folder", "/tmp/b", "777"))
        self.assertEqual([self.house, len(history)], [filled(), 1])
        self.assertEqual(history.undo()[2], "/tmp/b")
        self.assertEqual(self.house, filled())

    def test_new_lists(self):
        history = History(self.house)
        history.do(self.deeds[0])
        history.deeds().append("x")
        self.assertEqual(history.deeds(), self.deeds[:1])
        self.assertIsInstance(repr(history), str)


if __name__ == "__main__":
    unittest.main()
