"""The examples of the document, as they stand there."""

import unittest

from filerights.deeds import do, is_deed, run
from filerights.futures import Future, is_closed
from filerights.goals import check, decide, is_goal, is_met, support
from filerights.house import House, lacking, letters_at, may, who_may
from filerights.judge import Judge
from filerights.lists import AccessList, is_digits, without_letters
from filerights.makers import Start, alike, is_script, made, without_effect
from filerights.mends import changed, check_mend, fewest_mend, is_change
from filerights.people import People
from filerights.rights import Rights, as_rights, is_rights
from filerights.seats import History, Seat, Trial, tried
from filerights.sessions import Session
from filerights.teams import check_teams, greatest_harmless, more_by, smallest_teams
from filerights.texts import deeds_text, goal_text, house_text, read_deeds, read_goal, read_house
from filerights.words import above, is_below, is_integer, is_list, is_name, is_path, joined, parse_integer
from filerights.words import parts_of, split_words
from helpers import shown

NAMES = {
    tool.__name__: tool for tool in (
        AccessList, Future, History, House, Judge, People, Rights, Seat, Session, Start, Trial, above, alike, as_rights,
        changed, check, check_mend, check_teams, decide, deeds_text, do, fewest_mend, goal_text, greatest_harmless,
        house_text, is_below, is_change, is_closed, is_deed, is_digits, is_goal, is_integer, is_list, is_met, is_name,
        is_path, is_rights, is_script, joined, lacking, letters_at, made, may, more_by, parse_integer, parts_of,
        read_deeds, read_goal, read_house, run, smallest_teams, split_words, support, tried, who_may, without_effect,
        without_letters,
    )
}

POINT_13 = """
    >>> [parts_of("/home/ann"), joined("/", "tmp", "a"), above("/home/ann"), above("/home"), above("/")]
    [['home', 'ann'], '/tmp/a', '/home', '/', None]
    >>> [is_path("/home/"), is_path("//"), is_below("/home/ann", "/home"), is_below("/homes", "/home"), is_below("/a", "/a")]
    [False, False, True, False, False]
"""

POINT_14 = """
    >>> [parse_integer("07"), parse_integer("39", high=38), split_words("a b+c", separator="+"), split_words("a  b")]
    [None, None, ['a b', 'c'], None]
"""

POINT_23 = """
    >>> [str(Rights("xr")), str(~Rights("w")), Rights("rw").digit, Rights("xw").listed(), "w" in Rights("rw"), "rw" in Rights("rw")]
    ['r-x', 'r-x', 6, ['w', 'x'], True, False]
    >>> [Rights("rw").covers(Rights("r")), Rights("rw") - Rights("wx") == Rights("r"), str(Rights.of("r", Rights("x"))), bool(Rights())]
    [True, True, 'r-x', False]
"""

POINT_35 = """
    >>> access = AccessList("rwx", "r", "", users={"ann": "rw"})
    >>> [str(access), access.digits, str(access.with_digits("640")), access.narrowed("705").digits, str(access.without("user", "ann"))]
    ['u::rwx,u:ann:rw-,g::r--,m::rw-,o::---', '760', 'u::rw-,u:ann:rw-,g::r--,m::r--,o::---', '700', 'u::rwx,g::r--,m::rw-,o::---']
    >>> [AccessList.from_text(str(access)) == access, AccessList.plain("750") == AccessList("rwx", "rx", ""), without_letters("666", "027")]
    [True, True, '640']
"""

POINT_44 = """
    >>> people = People({"ann": ["staff", "chess"], "bob": ["staff"]})
    >>> judge, access = Judge(people), AccessList("rwx", "rw", "x", groups={"chess": "x"})
    >>> [judge("ann", "root", "staff", access, "rw"), judge("ann", "root", "staff", access, "wx"), judge("ann", "root", "staff", access, "")]
    [True, False, True]
    >>> [judge.deciding("ann", "root", "staff", access, "wx"), judge.deciding("ann", "root", "staff", access, "x")]
    [(False, [('group', ''), ('named', 'chess')]), (True, [('named', 'chess')])]
    >>> [str(judge.letters_of("ann", "root", "staff", access)), judge("bob", "bob", "staff", AccessList.plain("077"), "r")]
    ['rwx', False]
"""

POINT_55 = """
    >>> house = House(People({"ann": ["staff"], "bob": ["guests", "staff"]}))
    >>> house.add("/lab", "folder", owner="ann", group="staff", access=AccessList.plain("750"))
    >>> house.add("/lab/plan", "file", owner="ann", group="guests", access=AccessList("rw", "r", ""), content="north")
    >>> [may(house, "bob", "/lab/plan", "r"), who_may(house, "/lab", "w"), lacking(house, "bob", "/lab/plan/old"), len(house), house.umask_of("bob")]
    [True, ['ann'], ('/lab/plan', 'file'), 2, '022']
    >>> house["/lab"] = AccessList.plain("700")
    >>> [lacking(house, "bob", "/lab/plan"), str(letters_at(house, "ann", "/lab/plan")), [path for path, node in house.walk("/lab")]]
    [('/lab', 'x'), 'rw-', ['/lab', '/lab/plan']]
"""

POINT_62 = """
    >>> house = House(People({"ann": ["staff"], "bob": ["guests", "staff"]}))
    >>> [do(house, ("ann", "folder", "/tmp/lab", "777")), do(house, ("ann", "mark", "/tmp/lab", False, True))]
    [None, None]
    >>> do(house, ("bob", "file", "/tmp/lab/plan", "666"))
    raises Denied('/tmp/lab', 'wx')
    >>> [str(house["/tmp/lab"].access), house.umask_of("bob")]
    ['u::rwx,g::r-x,o::r-x', '022']
"""

# It goes on with the house of the example before.
POINT_66 = """
    >>> history = History(house)
    >>> [history.do(("bob", "file", "/tmp/note", "640")), history.do(("bob", "write", "/tmp/note", "hi")), history.undo()[1], len(history)]
    [None, None, 'write', 1]
    >>> [Seat(house, "bob").read("/tmp/note"), history.undo()[1], "/tmp/note" in house]
    ['', 'file', False]
"""

POINT_75 = """
    >>> one, other = [("file", "/a", "644")], [("file", "/a", "666"), ("digits", "/a", "644")]
    >>> [alike(one, other) is None, str(made(one, Start(umask="077"))["/a"][2]), str(made(other, Start(umask="077"))["/a"][2])]
    [False, 'u::rw-,g::---,o::---', 'u::rw-,g::r--,o::r--']
    >>> script = [("umask", "027"), ("folder", "/d", "777"), ("umask", "027"), ("file", "/d/a", "600")]
    >>> [without_effect(script), is_script(script[2:]), made(script, Start(), first="staff")["/d/a"][:2]]
    [[2], False, ('file', 'staff')]
"""

POINT_85 = """
    >>> house = House(People({"ann": ["staff"], "bob": ["staff"], "cal": ["guests"]}))
    >>> house.add("/lab", "folder", owner="root", group="staff", access=AccessList.plain("770"))
    >>> house.add("/lab/box", "folder", owner="bob", group="guests", access=AccessList.plain("700"))
    >>> house.add("/lab/box/note", "file", owner="bob", group="guests", access=AccessList.plain("640"))
    >>> future = Future(house, ["ann", "cal"])
    >>> [future.reaches("ann", "/lab/box"), future.takes("ann", "/lab/box"), future.away(), future.opened(), future.can("ann", "/lab/box/note", "r"), future.reaches("cal", "/lab")]
    [True, True, [], [], False, True]
    >>> [Future(house, ["cal", "bob"]).opened(), Future(house, ["bob", "cal"]).reaches("cal", "/lab/box/note"), is_closed(house, ["ann"], {"reach": [], "opened": [], "away": []})]
    [['/lab/box', '/lab/box/note'], True, False]
"""

POINT_96 = """
    >>> house = House(People({"ann": ["staff"], "bob": ["staff"]}))
    >>> house.add("/lab", "folder", group="staff", access=AccessList.plain("770"))
    >>> house.add("/lab/note", "file", owner="bob", access=AccessList.plain("600"))
    >>> word, deeds = decide(house, ["ann"], ("led", "bob", "/lab/note"))
    >>> [word, is_met(house, ["ann"], ("led", "bob", "/lab/note"), deeds), decide(house, ["ann"], ("read", "/lab/note"))[0]]
    ['row', True, 'never']
    >>> support(house, [("ann", "move", "/lab/note", "/lab/old")])[:2]
    [('take', '/lab', 'group', '', 'w'), ('take', '/lab', 'group', '', 'x')]
    >>> list(Future(house, ["ann"]).each_goal())[:4]
    [('gone', '/lab/note'), ('lost', '/lab/note'), ('made', '/lab/note'), ('led', 'bob', '/lab/note')]
"""

POINT_103 = """
    >>> house = House(People({"ann": ["staff"], "bob": ["guests"], "cal": ["guests"]}))
    >>> house.add("/lab", "folder", group="staff", access=AccessList.plain("770"))
    >>> house.add("/lab/box", "folder", group="staff", access=AccessList.plain("727"))
    >>> house.add("/lab/box/note", "file", group="guests", access=AccessList.plain("640"))
    >>> [smallest_teams(house, ("read", "/lab/box/note")), greatest_harmless(house, ("read", "/lab/box/note"))]
    [[['ann', 'bob'], ['ann', 'cal']], [['ann'], ['bob', 'cal']]]
    >>> [smallest_teams(house, ("led", "ann", "/lab/box/note")), more_by(house, ["ann"], "bob")[:2]]
    [[], [('lost', '/lab/box'), ('read', '/lab/box/note')]]
"""

POINT_113 = """
    >>> house = House(People({"ann": ["staff"], "bob": ["staff"]}))
    >>> house.add("/lab", "folder", group="staff", access=AccessList.plain("770"))
    >>> house.add("/lab/note", "file", owner="bob", group="staff", access=AccessList.plain("640"))
    >>> never, keeps = [(["ann"], ("led", "bob", "/lab/note"))], [("ann", "/lab", "w"), ("bob", "/lab/note", "rw")]
    >>> word, changes, tree = fewest_mend(house, never, keeps)
    >>> [word, changes, tree[0], check_mend(house, never, keeps, (word, changes, tree))]
    ['mend', [('sticky', '/lab')], 0, True]
    >>> [fewest_mend(house, [(["ann"], ("made", "/lab/new"))], keeps, most=1)[:2], len(fewest_mend(house, [], []))]
    [('none', 1), 3]
"""

POINT_123 = r"""
    >>> house = House(People({"bob": ["staff"], "ann": ["chess", "staff"]}))
    >>> house.add("/lab", "folder", owner="ann", group="staff", access=AccessList("rwx", "rx", "", users={"bob": "r"}))
    >>> house.mark("/lab", passes=True)
    >>> house_text(house).split("\n")
    ['user ann 022 chess staff', 'user bob 022 staff', 'folder /lab ann staff u::rwx,u:bob:r--,g::r-x,m::r-x,o::--- -p none']
    >>> [read_house(house_text(house)) == house, deeds_text([("ann", "write", "/a", "x y"), ("ann", "mark", "/lab", True, False)])]
    [True, 'ann write /a =x y\nann mark /lab s-']
    >>> [read_goal("led bob /lab/a"), read_deeds("ann move /a /b")]
    [('led', 'bob', '/lab/a'), [('ann', 'move', '/a', '/b')]]
"""

POINT_132 = """
    >>> session = Session()
    >>> session.execute_all(["begin ann=staff bob=guests", "put folder /lab ann staff 750", "do ann file /lab/plan 666", "who /lab/plan r"])
    ['done', 'done', 'done', 'ann']
    >>> session.execute_all(["ever bob read /lab/plan", "teams read /lab/plan", "undo", "tree", "may bob /lab -"])
    ['never', 'ann', 'ann file /lab/plan 666', '/lab', 'yes']
"""


class ExamplesTest(unittest.TestCase):
    def check(self, text, count):
        rows = shown(text, dict(NAMES))
        self.assertEqual(len(rows), count)
        for found, told in rows:
            self.assertEqual(found, told)

    def test_point_13(self):
        self.check(POINT_13, 2)

    def test_point_14(self):
        self.check(POINT_14, 1)

    def test_point_23(self):
        self.check(POINT_23, 2)

    def test_point_35(self):
        self.check(POINT_35, 3)

    def test_point_44(self):
        self.check(POINT_44, 5)

    def test_point_55(self):
        self.check(POINT_55, 6)

    def test_point_62(self):
        self.check(POINT_62, 4)

    def test_point_66(self):
        self.check(POINT_62 + POINT_66, 7)

    def test_point_75(self):
        self.check(POINT_75, 4)

    def test_point_85(self):
        self.check(POINT_85, 7)

    def test_point_96(self):
        self.check(POINT_96, 7)

    def test_point_103(self):
        self.check(POINT_103, 6)

    def test_point_113(self):
        self.check(POINT_113, 7)

    def test_point_123(self):
        self.check(POINT_123, 6)

    def test_point_132(self):
        self.check(POINT_132, 3)

    def test_the_runner_sees_what_differs(self):
        rows = shown(">>> 1 + 1\n3\n>>> above('a')\nraises InvalidPath('a')", dict(NAMES))
        self.assertEqual(rows, [("2", "3"), ("raises InvalidPath('a')", "raises InvalidPath('a')")])


if __name__ == "__main__":
    unittest.main()
