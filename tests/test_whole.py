"""What holds of the whole program: renaming, more users, rows of deeds, and arguments by their names."""

import inspect
import unittest

from filerights import deeds, futures, goals, house, lists, makers, mends, rights, seats, sessions, teams, texts, words
from filerights.deeds import run
from filerights.futures import Future
from filerights.goals import check, decide, support
from filerights.house import House
from filerights.judge import Judge
from filerights.lists import AccessList
from filerights.makers import Start
from filerights.mends import fewest_mend
from filerights.people import People
from filerights.rights import Rights
from filerights.seats import History, Seat
from filerights.sessions import Session
from filerights.teams import more_by, smallest_teams
from helpers import raised
from houses import drawn_deeds, drawn_free, drawn_house, goals_of, numbers_of, paths_about, seed_of
from test_interface import CLASSES, FUNCTIONS

USERS = {"a": "zed", "b": "a", "c": "folder", "d": "led"}
GROUPS = {"g": "i", "h": "read", "i": "abcdefgh", "zoo": "g"}
# Names that are put in by a row of deeds stay, so no other one becomes what they are.
NAMES = {"p": "root", "q": "tmpp", "r": "led", "s": "abcdefgh", "z": "zz"}


def new_path(path):
    return "/".join([NAMES.get(part, part) for part in path.split("/")])


def new_list(access):
    """Return the list in which users and groups are renamed."""
    if access is None:
        return None
    users = {USERS[name]: letters for name, letters in access.users().items()}
    named = {GROUPS[name]: letters for name, letters in access.groups().items()}
    return AccessList(access.owner, access.group, access.other, users=users, groups=named, mask=access.mask)


def renamed(old):
    """Return the house in which all users, groups, folders and files are renamed."""
    new = House(People({USERS[user]: [GROUPS[group] for group in old.people.groups_of(user)] for user in old.people.users()}))
    for path, node in old.walk():
        if path in ("/", "/tmp"):
            continue
        place = new_path(path)
        new.add(place, node.kind, owner=USERS.get(node.owner, "root"), group=GROUPS.get(node.group, "root"),
                access=new_list(node.access), content=node.content)
        if node.kind == "folder":
            new.mark(place, sticky=node.sticky, passes=node.passes)
            new.set_default(place, new_list(node.default))
    for user in old.people.users():
        new.set_umask(USERS[user], old.umask_of(user))
    return new


def new_goal(goal):
    word, *users, path = goal
    return (word, *[USERS[user] for user in users], new_path(path))


def new_change(change):
    if change[0] == "sticky":
        return ("sticky", new_path(change[1]))
    _, path, kind, name, letter = change
    names = {"user": USERS, "named": GROUPS}.get(kind, {"": ""})
    return ("take", new_path(path), kind, names[name], letter)


def new_deed(deed):
    user, word, *parts = deed
    told = []
    for part in parts:
        if isinstance(part, AccessList):
            part = new_list(part)
        elif isinstance(part, str) and part.startswith("/"):
            part = new_path(part)
        elif word == "give":
            part = GROUPS[part]
        told.append(part)
    return (USERS[user], word, *told)


def drawn_cases(text, count, most=6):
    source = seed_of(text)
    for at in range(count):
        drawn = drawn_house(source, most, deep=at % 3 > 0)
        yield source, drawn, drawn_free(source, drawn)


class RenamedTest(unittest.TestCase):
    def test_futures_and_goals(self):
        for source, old, free in drawn_cases("renamed", 25):
            new, users = renamed(old), [USERS[user] for user in free]
            before, behind = Future(old, free), Future(new, users)
            self.assertEqual(behind.opened(), sorted([new_path(path) for path in before.opened()]))
            self.assertEqual(behind.away(), sorted([new_path(path) for path in before.away()]))
            self.assertEqual(behind.table()["reach"],
                             sorted([(USERS[user], new_path(path)) for user, path in before.table()["reach"]]))
            self.assertEqual(sorted(behind.each_goal()), sorted([new_goal(goal) for goal in before.each_goal()]))
            for goal in goals_of(old, free, paths_about(source, old)):
                self.assertEqual(behind.is_so(new_goal(goal)), before.is_so(goal), goal)
                word, told = decide(old, free, goal)
                self.assertEqual(decide(new, users, new_goal(goal))[0], word)
                if word == "row":
                    row = [new_deed(deed) for deed in told]
                    self.assertTrue(check(new, users, new_goal(goal), (word, row)))
                    leaning = [new_change(change) for change in support(old, told)]
                    self.assertEqual(sorted(support(new, row)), sorted(leaning))

    def test_teams_and_mends(self):
        for source, old, free in drawn_cases("mended", 12, most=3):
            new, found = renamed(old), list(Future(old, free).each_goal())
            for goal in source.sample(found, min(2, len(found))):
                named = [sorted([USERS[user] for user in team]) for team in smallest_teams(old, goal)]
                self.assertEqual(sorted(smallest_teams(new, new_goal(goal))), sorted(named))
                one = fewest_mend(old, [(free, goal)], [])
                two = fewest_mend(new, [([USERS[user] for user in free], new_goal(goal))], [])
                self.assertEqual([one[0], len(one[1]) if one[0] == "mend" else one[1]],
                                 [two[0], len(two[1]) if two[0] == "mend" else two[1]])


class RowsTest(unittest.TestCase):
    def test_more_free_users_bring_about_no_less(self):
        for _, old, free in drawn_cases("users", 20):
            less = [goal for goal in Future(old, free).each_goal()]
            for user in old.people.users():
                more = list(Future(old, sorted({*free, user})).each_goal())
                for goal in less:
                    self.assertTrue(goal in more or user in goal[1:-1])
                added = more_by(old, free, user)
                self.assertEqual([goal for goal in more if goal not in less], [] if user in free else added)

    def test_no_row_of_deeds_opens_more(self):
        count = 0
        for source, old, free in drawn_cases("behind", 25):
            before = Future(old, free)
            row = drawn_deeds(source, old, free, 15)
            behind = old.copied()
            run(behind, row)
            later = Future(behind, free)
            places = {number: path for path, number in numbers_of(behind).items()}
            for path, number in numbers_of(old).items():
                if number not in places or path in ("/", "/tmp"):
                    continue
                for word in ("read", "write", "gone", "lost"):
                    if not before.is_so((word, path)):
                        self.assertFalse(later.is_so((word, places[number])), (word, path, row))
                        count += 1
                self.assertTrue(places[number] not in later.away() or path in before.away())
                self.assertTrue(places[number] not in later.opened() or path in before.opened())
        self.assertGreater(count, 100)

    def test_no_question_changes_the_house(self):
        for source, old, free in drawn_cases("still", 10):
            kept, numbers = old.copied(), numbers_of(old)
            for goal in goals_of(old, free, old.paths()[:3]):
                decide(old, free, goal)
                smallest_teams(old, goal)
            texts.house_text(old)
            list(Future(old, free).each_goal())
            self.assertEqual([old, numbers_of(old)], [kept, numbers])


def filled():
    some = House(People({"ann": ["staff"], "bob": ["staff"], "cal": ["guests"]}))
    some.add("/lab", "folder", owner="ann", group="staff", access=AccessList.plain("770"))
    some.add("/lab/a", "file", owner="ann", group="staff", access=AccessList.plain("640"), content="x")
    return some


ACCESS = AccessList("rwx", "rx", "", users={"bob": "r"})
GOAL, DEED, CHANGE = ("read", "/lab/a"), ("ann", "read", "/lab/a"), ("sticky", "/lab")
# One value for each name of an argument, which serves wherever this name stands.
VALUES = {
    "low": 0, "high": 9, "other": "/", "text": "7", "separator": "+", "digits": "750", "umask": "022", "user": "ann",
    "path": "/lab", "letters": "r", "deed": DEED, "deeds": [DEED], "script": [("umask", "000")], "start": Start(),
    "one": [], "free": ["ann"], "table": {}, "goal": GOAL, "answer": None, "smallest": [], "greatest": [], "changes": [CHANGE],
    "never": [], "keeps": [], "most": 1, "owner": "ann", "group": "staff", "access": ACCESS, "users": {"bob": "r"},
    "groups": {}, "mask": "r", "kind": "user", "rights": "rw", "name": "cal", "members": {"ann": ["staff"]},
    "people": People({"ann": ["staff"]}), "content": "y", "to": "/box", "sticky": True, "passes": True, "mode": "640",
    "default": ACCESS, "line": "tree", "lines": ["begin ann=staff"], "value": "r", "at": "/lab", "first": "own",
}
SPECIAL = {
    ("is_below", "other"): "/", ("alike", "other"): [], ("covers", "other"): Rights("r"), ("AccessList", "owner"): "rwx",
    ("AccessList", "group"): "rx", ("AccessList", "other"): "", ("add", "kind"): "file", ("add", "path"): "/lab/new",
    ("add", "access"): ACCESS, ("set_content", "path"): "/lab/a", ("read", "path"): "/lab/a", ("write", "path"): "/lab/a",
    ("file", "path"): "/lab/b", ("folder", "path"): "/lab/c", ("move", "path"): "/lab/a", ("move", "to"): "/lab/d",
    ("remove", "path"): "/lab/a", ("set_default", "path"): "/lab", ("without", "kind"): "user", ("without", "name"): "bob",
    ("is_change", "value"): CHANGE, ("from_text", "text"): str(ACCESS), ("read_goal", "text"): "read /lab/a",
    ("read_deeds", "text"): "ann read /lab/a", ("read_house", "text"): "user ann 022 staff", ("from_digit", "digit"): 7,
    ("restore", "kept"): None, ("People", "members"): {"ann": ["staff"]}, ("members", "group"): "staff",
    ("__call__", "owner"): "ann", ("Start", "group"): "own",
}


def objects():
    """Return an object of each class, made anew."""
    some = filled()
    history = History(some)
    history.do(DEED)
    session = Session()
    session.execute("begin ann=staff")
    return {
        "Rights": Rights("rw"), "AccessList": ACCESS, "People": some.people, "Judge": Judge(some.people), "House": some,
        "Node": some["/lab"], "Seat": Seat(some, "ann"), "Trial": None, "History": history, "Start": Start(),
        "Future": Future(some, ["ann"]), "Session": session,
    }


def told_for(name, call):
    """Return values for the arguments of a call by their names."""
    told = {}
    for word, part in inspect.signature(call).parameters.items():
        if part.kind == part.VAR_POSITIONAL:
            continue
        if word == "house":
            told[word] = filled()
        elif (name, word) in SPECIAL:
            told[word] = SPECIAL[(name, word)]
        else:
            told[word] = VALUES[word]
    return told


def shown(value):
    """Return something by which results can be compared."""
    if isinstance(value, (Future, History, Judge, Seat, Session, seats.Trial)):
        return value.__class__.__name__
    return list(value) if inspect.isgenerator(value) else value


class NamedArgumentsTest(unittest.TestCase):
    def compare(self, name, make):
        """Call by position and by names in another order; make returns the call on objects that are made anew."""
        told = told_for(name, make())
        call = make()
        plain = [word for word, part in inspect.signature(call).parameters.items() if part.kind == part.POSITIONAL_OR_KEYWORD]
        named = {word: told[word] for word in told if word not in plain}
        wanted = shown(call(*[told[word] for word in plain], **named))
        again = told_for(name, make())
        found = shown(make()(**{word: again[word] for word in sorted(again, reverse=True)}))
        self.assertTrue(found == wanted, name)

    def test_functions(self):
        files = {
            "words": words, "rights": rights, "lists": lists, "house": house, "deeds": deeds, "seats": seats, "makers": makers,
            "futures": futures, "goals": goals, "teams": teams, "mends": mends, "texts": texts,
        }
        for file in FUNCTIONS:
            for name in FUNCTIONS[file]:
                self.compare(name, lambda: getattr(files[file], name))

    def test_methods(self):
        for (file, name), methods in CLASSES.items():
            for method in methods:
                if method in ("__enter__", "__exit__", "walk", "restore") or name == "Trial":
                    continue
                if method == "":
                    found = getattr(inspect.getmodule(type(objects()[name])), name)
                    self.compare(name, lambda: found)
                elif not method.startswith("__") or method == "__call__":
                    self.compare(method, lambda: getattr(objects()[name], method))

    def test_the_others(self):
        some = filled()
        self.assertEqual([path for path, _ in some.walk(path="/lab")], ["/lab", "/lab/a"])
        self.assertIsNone(some.restore(kept=some.state))
        with seats.Trial(house=some) as same:
            self.assertIs(same, some)

    def test_a_list_inside_another_value_may_be_a_tuple(self):
        some = filled()
        table = {kind: tuple(facts) for kind, facts in Future(some, ("bob",)).table().items()}
        self.assertTrue(futures.is_closed(some, ("bob",), table))
        self.assertTrue(check(some, ("bob",), ("write", "/lab/a"), ("never", table)))
        self.assertFalse(check(some, ("bob",), ("write", "/lab/a"), ["never", table]))
        self.assertTrue(check(some, ["ann"], GOAL, ("row", (DEED,))))
        self.assertTrue(teams.check_teams(some, ("write", "/lab/a"), (("ann",),), (("bob", "cal"),)))
        never = ((("ann",), GOAL),)
        word, most, (index, row, cases) = fewest_mend(some, never, (("ann", "/lab/a", "r"),))
        self.assertTrue(mends.check_mend(some, never, (("ann", "/lab/a", "r"),), (word, most, (index, tuple(row), tuple(cases)))))
        self.assertFalse(mends.check_mend(some, never, (), [word, most, (index, row, cases)]))
        self.assertEqual(raised(mends.fewest_mend, some, [[["ann"], GOAL]], []).__class__.__name__, "InvalidGoals")
        self.assertEqual(People({"ann": ("staff",)}), People({"ann": ["staff"]}))


if __name__ == "__main__":
    unittest.main()
