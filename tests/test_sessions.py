"""Sessions: commands against the functions of the package, and commands that change nothing."""

import unittest

from filerights.deeds import do
from filerights.errors import Absent, Denied, Ground, InvalidCommand, InvalidDeeds, InvalidGoal, InvalidLine
from filerights.errors import InvalidPeople, NotFolder, NothingToUndo, Taken, TooMany, UnknownGroup, UnknownUser
from filerights.goals import decide
from filerights.house import House, may, who_may
from filerights.lists import AccessList
from filerights.people import People
from filerights.sessions import Session
from filerights.teams import smallest_teams
from filerights.texts import deeds_text, goal_text
from helpers import any_values, raised
from houses import goals_of, numbers_of

LIST = "u::rwx,u:bob:r--,g::r-x,m::r-x,o::---"
BEGIN = ["begin ann=staff,chess bob=guests", "put folder /lab ann staff 770", "put file /lab/plan bob guests 640"]


def begun(lines=()):
    session = Session()
    session.execute_all([*BEGIN, *lines])
    return session


def filled():
    """Return the house of a session that is begun, made by methods."""
    house = House(People({"ann": ["staff", "chess"], "bob": ["guests"]}))
    house.add("/lab", "folder", owner="ann", group="staff", access=AccessList.plain("770"))
    house.add("/lab/plan", "file", owner="bob", group="guests", access=AccessList.plain("640"))
    return house


def fields(error):
    return (type(error), *vars(error).values())


class CommandTest(unittest.TestCase):
    def test_begin(self):
        session = Session()
        self.assertEqual(session.execute("begin ann=staff,chess bob=guests"), "done")
        self.assertEqual(session.house(), House(People({"ann": ["staff", "chess"], "bob": ["guests"]})))
        session.execute("put folder /lab root root 777")
        session.execute("do ann umask 077")
        self.assertEqual(session.execute("begin zed=zed"), "done")
        self.assertEqual([session.house(), session.log()], [House(People({"zed": ["zed"]})), ["begin zed=zed"]])
        self.assertIs(type(raised(session.execute, "undo")), NothingToUndo)

    def test_put_and_rule(self):
        session, house = begun(), filled()
        self.assertEqual(session.house(), house)
        self.assertEqual(session.execute("put file /lab/a root root 604"), "done")
        house.add("/lab/a", "file", access=AccessList.plain("604"))
        self.assertEqual(session.execute("rule /lab " + LIST), "done")
        house["/lab"] = AccessList.from_text(LIST)
        self.assertEqual([session.house(), numbers_of(session.house())], [house, numbers_of(house)])

    def test_do_and_undo(self):
        session, house = begun(), filled()
        lines = ["ann file /lab/a 666", "ann write /lab/a =x  y\\n\\\\", "ann read /lab/a", "bob umask 077", "ann mark /lab -p",
                 "ann default /lab " + LIST, "ann default /lab none", "bob write /lab/plan ="]
        answers = ["done", "done", "=x  y\\n\\\\", "done", "done", "done", "done"]
        states = []
        for line, answer in zip(lines, answers):
            states.append(session.house())
            self.assertEqual(session.execute("do " + line), answer)
        self.assertEqual(session.house()["/lab/a"].content, "x  y\n\\")
        for line, state in list(zip(lines, states))[::-1]:
            self.assertEqual(session.execute("undo"), line)
            self.assertEqual([session.house(), numbers_of(session.house())], [state, numbers_of(state)])
        self.assertEqual([session.house(), raised(session.execute, "undo").__class__], [house, NothingToUndo])
        session.execute("rule /lab/plan u::rw-,g::r--,o::r--")
        self.assertEqual(session.execute("do ann read /lab/plan"), "=")

    def test_an_undo_takes_back_what_the_administrator_changed_since(self):
        session = begun(["do ann umask 000", "put file /a root root 644", "rule /lab u::---,g::---,o::---"])
        self.assertEqual(session.execute("undo"), "ann umask 000")
        self.assertEqual(session.house(), filled())
        self.assertEqual(session.log(), BEGIN + ["do ann umask 000", "put file /a root root 644",
                                                 "rule /lab u::---,g::---,o::---", "undo"])

    def test_may_who_and_tree(self):
        session, house = begun(), filled()
        for letters in ("-", "r", "wr", "xwr", "x"):
            told = letters.replace("-", "")
            for path in ("/", "/tmp", "/lab", "/lab/plan", "/no"):
                for user in ("ann", "bob"):
                    self.assertEqual(session.execute(f"may {user} {path} {letters}") == "yes", may(house, user, path, told))
                    self.assertIn(session.execute(f"may {user} {path} {letters}"), ("yes", "no"))
                who = who_may(house, path, told)
                self.assertEqual(session.execute(f"who {path} {letters}"), " ".join(who) if who else "nobody")
        self.assertEqual([session.execute("tree"), begun(["begin a=a"]).execute("tree")], ["/lab /lab/plan", "empty"])
        self.assertEqual([session.execute("who / w"), session.execute("who / x")], ["nobody", "ann bob"])

    def test_ever_and_teams(self):
        session, house = begun(), filled()
        seen = {}
        for told in ("ann", "bob", "bob,ann", "ann,bob"):
            free = told.split(",")
            for goal in goals_of(house, free, ["/lab", "/lab/plan", "/tmp/a", "/lab/plan/x"]):
                word, rest = decide(house, free, goal)
                wanted = word + "\n" + deeds_text(rest) if word == "row" else "never"
                self.assertEqual(session.execute(f"ever {told} {goal_text(goal)}"), wanted)
                seen[word] = True
        for goal in goals_of(house, [], ["/lab", "/lab/plan", "/tmp/a"]):
            teams = " ".join([",".join(team) for team in smallest_teams(house, goal)])
            self.assertEqual(session.execute("teams " + goal_text(goal)), teams if teams else "none")
            seen[teams] = True
        self.assertTrue({"row", "never", "", "ann bob"} <= set(seen))
        self.assertEqual(session.house(), house)
        three = Session()
        three.execute_all(["begin ann=staff bob=guests cal=guests", "put folder /lab root staff 770",
                           "put folder /lab/box root staff 727", "put file /lab/box/note root guests 640"])
        self.assertEqual(three.execute("teams read /lab/box/note"), "ann,bob ann,cal")

    def test_the_log(self):
        session = begun()
        lines = ["tree", "may ann /lab r", "do ann umask 000", "undo", "teams read /lab", "ever ann read /lab", "who / r"]
        for count, line in enumerate(lines):
            self.assertEqual(session.log(), BEGIN + lines[:count])
            session.execute(line)
        session.log().append("x")
        self.assertEqual([session.log(), Session().log()], [BEGIN + lines, []])

    def test_the_house_is_a_copy(self):
        session = begun()
        house = session.house()
        house.cut("/lab")
        self.assertEqual([session.house(), session.execute("tree")], [filled(), "/lab /lab/plan"])
        session.execute("put file /a root root 644")
        self.assertEqual(len(house), 0)
        self.assertEqual(fields(raised(Session().house)), (Absent, "/"))
        self.assertFalse(session == begun())
        self.assertIsInstance(repr(session), str)


class WrongCommandTest(unittest.TestCase):
    GOOD = [
        "begin ann=staff bob=staff,chess", "put file /a root root 644", "put folder /a ann staff 750", "rule /lab " + LIST,
        "do ann file /lab/a 666", "do ann read /lab/plan", "do ann mark /lab s-", "undo", "may ann /lab rw", "may bob /lab -",
        "who /lab rwx", "tree", "ever ann read /lab", "ever ann,bob made /lab/a", "ever ann led bob /lab", "teams write /lab",
        "teams shut bob /lab",
    ]

    def no_command(self, value):
        for session in (begun(), Session()):
            log = session.log()
            error = raised(session.execute, value)
            self.assertIs(type(error), InvalidCommand, value)
            self.assertIs(error.value, value)
            self.assertEqual(session.log(), log)

    def test_any_values(self):
        for value in any_values() + [["tree"], ("tree",), b"tree"]:
            self.no_command(value)

    def test_a_word_more_less_or_otherwise_and_a_space_more(self):
        for line in self.GOOD:
            words = line.split(" ")
            for at in range(len(words)):
                if line.startswith("begin ") and at > 0:
                    continue
                less = " ".join(words[:at] + words[at + 1:])
                self.no_command(less)
                self.no_command(" ".join([*words[:at], "?", *words[at + 1:]]))
            for at in range(len(words) + 1):
                self.no_command(" ".join([*words[:at], "", *words[at:]]))
                if not line.startswith("begin ") or at == 0:
                    self.no_command(" ".join([*words[:at], "ann", *words[at:]]))
            for other in (line.upper(), line + "\n", "\n" + line, line + " ", " " + line, line.replace(" ", "  "), line + "\n" + line):
                if other != line:
                    self.no_command(other)

    def test_each_form(self):
        wrong = [
            "begin", "begin ann", "begin ann=", "begin =staff", "begin ann=staff,", "begin ann=,staff", "begin ann=a,,b",
            "begin ann=staff ann=guests", "begin ann=staff bob", "begin Ann=staff", "begin ann=Staff", "begin ann=a=b",
            "begin abcdefghi=a", "begin ann =a", "begin ann,bob=a",
            "put link /a ann staff 644", "put file a ann staff 644", "put file /a ann staff 64", "put file /a ann staff 648",
            "put file /a Ann staff 644", "put file /a ann st4ff 644", "put file /a/ ann staff 644", "put File /a ann staff 644",
            "put file /a ann staff " + LIST, "rule /lab 644", "rule lab " + LIST, "rule /lab none", "rule /lab u::rwx",
            "rule /lab " + LIST[:-1], "do", "do ", "do root umask 000", "do ann look /a", "do ann file /a", "do ann write /a x",
            "do ann write /a =\\", "do ann mark /a ps", "do ann allow /a none", "do  ann umask 000", "do ann write /a =a\nb",
            "undo 1", "tree /", "may ann /lab rr", "may ann /lab -r", "may ann /lab rwxr", "may ann /lab", "may ann lab r",
            "may Ann /lab r", "who /lab", "who /lab --", "who lab r", "who /lab a", "ever ann", "ever", "ever ann, read /lab",
            "ever ,ann read /lab", "ever Ann read /lab", "ever ann look /lab", "ever ann led /lab", "ever ann led root /lab",
            "ever ann read ann /lab", "ever ann bob read /lab", "teams", "teams read", "teams read lab", "teams led root /lab",
            "teams led /lab", "log", "house", "execute tree", "cut /lab", "-",
        ]
        for line in wrong:
            self.no_command(line)

    def test_without_a_house(self):
        for line in self.GOOD:
            session = Session()
            if line.startswith("begin "):
                self.assertEqual(session.execute(line=line), "done")
            else:
                self.assertEqual(fields(raised(session.execute, line)), (Absent, "/"))
                self.assertEqual(session.log(), [])

    def test_names_that_are_root(self):
        session = begun()
        for line, error in (("may root / r", (UnknownUser, "root")), ("ever root read /", (UnknownUser, "root")),
                            ("ever ann,root read /", (UnknownUser, "root")), ("begin root=staff", (InvalidPeople, {"root": ["staff"]})),
                            ("begin ann=root", (InvalidPeople, ["root"]))):
            self.assertEqual(fields(raised(session.execute, line)), error)
        self.assertEqual(session.execute("put file /root root root 644"), "done")


class RaisingTest(unittest.TestCase):
    def test_what_the_functions_raise(self):
        cases = {
            "begin ann=a,a": (InvalidPeople, ["a", "a"]), "begin ann=a,b,c,d,e,f,g": (InvalidPeople, list("abcdefg")),
            "begin a=a,b,c d=d,e,f,g": (TooMany, 7),
            "begin a=a b=a c=a d=a e=a f=a g=a": (InvalidPeople, {user: ["a"] for user in "abcdefg"}),
            "put file /lab ann staff 644": (Taken, "/lab"), "put file / ann staff 644": (Taken, "/"),
            "put file /no/a ann staff 644": (Absent, "/no"), "put file /lab/plan/a cal staff 644": (NotFolder, "/lab/plan"),
            "put file /a cal staff 644": (UnknownUser, "cal"), "put file /a ann zoo 644": (UnknownGroup, "zoo"),
            "rule /no " + LIST: (Absent, "/no"), "rule / " + LIST: (Ground, "/"), "rule /tmp " + LIST: (Ground, "/tmp"),
            "do cal umask 000": (UnknownUser, "cal"), "do bob file /a 666": (Denied, "/", "wx"),
            "do bob read /lab/plan": (Denied, "/lab", "x"), "do ann remove /tmp": (Ground, "/tmp"), "undo": (NothingToUndo,),
            "may cal /lab r": (UnknownUser, "cal"), "ever cal read /lab": (UnknownUser, "cal"),
            "ever ann,ann read /lab": (UnknownUser, "ann"), "ever ann led ann /lab": (InvalidGoal, ("led", "ann", "/lab")),
            "ever ann shut cal /lab": (InvalidGoal, ("shut", "cal", "/lab")),
            "teams led cal /lab": (InvalidGoal, ("led", "cal", "/lab")),
        }
        for line, wanted in cases.items():
            session = begun()
            self.assertEqual(fields(raised(session.execute, line)), wanted, line)
            self.assertEqual([session.house(), session.log()], [filled(), BEGIN])
            self.assertEqual(numbers_of(session.house()), numbers_of(filled()))
            self.assertIs(type(raised(session.execute, "undo")), NothingToUndo)

    def test_a_command_that_raises_leaves_the_history(self):
        session = begun(["do ann umask 000"])
        for line in ("do bob file /a 666", "begin ann=a,a", "x"):
            raised(session.execute, line)
        self.assertEqual(session.execute("undo"), "ann umask 000")


class ExecuteAllTest(unittest.TestCase):
    def test_answers(self):
        session = Session()
        self.assertEqual(session.execute_all([]), [])
        lines = [*BEGIN, "who /lab r", "tree", "do ann umask 000", "undo"]
        other = Session()
        self.assertEqual(session.execute_all(tuple(lines)), [other.execute(line) for line in lines])
        self.assertEqual([session.log(), session.house()], [lines, other.house()])
        self.assertEqual(Session().execute_all(lines=lines), ["done", "done", "done", "ann", "/lab /lab/plan", "done",
                                                             "ann umask 000"])

    def test_one_that_fails_in_the_middle(self):
        rows = [
            [], ["do ann file /lab/b 666", "put file /a root root 644"], ["undo", "undo", "undo"], ["undo", "do ann umask 777"],
            ["begin zed=zed", "put file /a zed zed 644", "do zed umask 777", "undo"],
        ]
        failing = {
            "x": InvalidCommand, "put file / ann staff 644": Taken, "rule /no " + LIST: Absent, "may root / r": UnknownUser,
            "do zed remove /tmp": None, "begin root=zed": InvalidPeople, None: InvalidCommand, ("tree",): InvalidCommand,
        }
        for lines in rows:
            for line, cause in failing.items():
                error = self.check_fails([*lines, line, "tree"], len(lines))
                if cause is not None:
                    self.assertIs(type(error.__cause__), cause)
        self.assertIs(type(self.check_fails([*rows[2], "undo"], 3).__cause__), NothingToUndo)
        self.assertIs(type(self.check_fails([*rows[4], "undo"], 4).__cause__), NothingToUndo)

    def check_fails(self, lines, index):
        """Let lines fail, and look at all that the session was before."""
        session = begun(["do ann umask 000", "do ann file /lab/a 666", "do ann write /lab/a =x"])
        before, log = session.house(), session.log()
        error = raised(session.execute_all, lines)
        self.assertEqual([type(error), error.index, type(error.index)], [InvalidLine, index, int])
        self.assertEqual([session.house(), numbers_of(session.house()), session.log()], [before, numbers_of(before), log])
        self.assertEqual([session.execute("undo") for _ in range(3)],
                         ["ann write /lab/a =x", "ann file /lab/a 666", "ann umask 000"])
        self.assertEqual(session.house(), filled())
        return error

    def test_the_next_number_is_what_it_was(self):
        session, other = begun(), begun()
        raised(session.execute_all, ["do ann file /lab/a 666", "do ann file /lab/a 666"])
        for some in (session, other):
            some.execute("do ann file /lab/b 666")
        self.assertEqual(numbers_of(session.house()), numbers_of(other.house()))

    def test_without_a_house(self):
        session = Session()
        error = raised(session.execute_all, ["begin ann=staff", "do ann umask 000", "tree", "x"])
        self.assertEqual(fields(error), (InvalidLine, 3))
        self.assertEqual([session.log(), fields(raised(session.house))], [[], (Absent, "/")])
        error = raised(session.execute_all, ["tree", "begin ann=staff"])
        self.assertEqual([fields(error), fields(error.__cause__)], [(InvalidLine, 0), (Absent, "/")])

    def test_what_is_no_list(self):
        session = begun()
        for value in any_values():
            if not isinstance(value, (list, tuple)):
                error = raised(session.execute_all, value)
                self.assertEqual([type(error), error.value is value], [InvalidDeeds, True])
            error = raised(session.execute_all, ["tree", value])
            self.assertEqual(fields(error), (InvalidLine, 1))
            self.assertIs(error.__cause__.value, value)
        self.assertEqual(session.log(), BEGIN)

    def test_deeds_are_those_of_a_house(self):
        session, house = begun(), filled()
        deeds = [("ann", "file", "/lab/a", "640"), ("ann", "write", "/lab/a", "x y"), ("ann", "move", "/lab/a", "/tmp/a")]
        session.execute_all(["do " + line for line in deeds_text(deeds).split("\n")])
        for deed in deeds:
            do(house, deed)
        self.assertEqual([session.house(), numbers_of(session.house())], [house, numbers_of(house)])


if __name__ == "__main__":
    unittest.main()
