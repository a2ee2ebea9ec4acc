"""Texts of houses, deeds and goals, which can be read again."""

import unittest

from filerights.deeds import is_deed
from filerights.errors import InvalidDeed, InvalidDeeds, InvalidGoal, InvalidHouse, InvalidLine, InvalidText
from filerights.house import House
from filerights.lists import AccessList
from filerights.people import People
from filerights.texts import deeds_text, goal_text, house_text, read_deeds, read_goal, read_house
from filerights.words import is_list
from helpers import SIGNS, any_values, raised
from houses import PATH_WORDS, USER_WORDS, drawn_access, drawn_house, numbers_of, seed_of

ACCESS = AccessList("rwx", "rx", "", users={"bob": "r"})
CONTENTS = ["", " ", "=", "\\", "\n", "\\n", "\\\\", "\\\n", "\n\\", "n", "\\\\n", "a b  c ", " =x", "none", "\n\n", "\\n\n\\",
            "".join(SIGNS)]
WRITTEN = ["=", "= ", "==", "=\\\\", "=\\n", "=\\\\n", "=\\\\\\\\", "=\\\\\\n", "=\\n\\\\", "=n", "=\\\\\\\\n", "=a b  c ",
           "= =x", "=none", "=\\n\\n", "=\\\\n\\n\\\\"]
NO_CONTENTS = ["", "x", " =x", "=\\", "=\\x", "=a\\", "=\\\\\\", "=\\ n", "=\\N", "none"]


def filled():
    """Return a house with names that are words of the texts themselves."""
    house = House(People({"user": ["folder", "none"], "file": ["user"], "none": ["file"]}))
    house.add("/file", "folder", owner="none", group="folder", access=ACCESS)
    house.mark("/file", sticky=True)
    house.set_default("/file", AccessList("rw", "r", "", mask="x"))
    house.add("/file/root", "file", owner="root", group="root", content="user none\nfolder\\")
    house.add("/folder", "file", owner="file", group="none", access=AccessList.plain("000"))
    house.add("/tmp/none", "folder", owner="user", group="root")
    house.mark("/tmp/none", sticky=True, passes=True)
    house.set_umask("none", "777")
    return house


LINES = [
    "user file 022 user", "user none 777 file", "user user 022 folder none",
    "folder /file none folder u::rwx,u:bob:r--,g::r-x,m::r-x,o::--- s- u::rw-,g::r--,m::--x,o::---",
    "file /file/root root root u::rw-,g::r--,o::r-- =user none\\nfolder\\\\",
    "file /folder file none u::---,g::---,o::--- =",
    "folder /tmp/none user root u::rwx,g::r-x,o::r-x sp none",
]


class HouseTextTest(unittest.TestCase):
    def test_a_known_house(self):
        self.assertEqual(house_text(filled()).split("\n"), LINES)
        self.assertEqual(house_text(house=House(People({"ann": ("staff",)}))), "user ann 022 staff")

    def test_each_text_is_read_again(self):
        source = seed_of("texts")
        for at in range(60):
            house = drawn_house(source, 8, deep=at % 2 == 0)
            for path in house.paths():
                if house[path].kind == "file":
                    house.set_content(path, source.choice(CONTENTS))
            other = read_house(text=house_text(house))
            self.assertEqual(other, house)
            self.assertEqual(house_text(other), house_text(house))
        self.assertEqual(read_house("\n".join(LINES)), filled())

    def test_new_numbers_and_umasks(self):
        house = filled()
        house.cut("/folder")
        house.add("/folder", "file")
        other = read_house(house_text(house))
        self.assertEqual(other, house)
        self.assertEqual(len(set(numbers_of(other).values())), len(numbers_of(other)))
        self.assertEqual([other.umask_of(user) for user in ("file", "none", "user")], ["022", "777", "022"])
        other.add("/new", "file")
        self.assertNotIn("/new", house)

    def test_contents(self):
        for content in CONTENTS:
            house = House(People({"ann": ["staff"]}))
            house.add("/a", "file", content=content)
            line = house_text(house).split("\n")[1]
            self.assertEqual(house_text(house).count("\n"), 1)
            self.assertEqual(read_house(house_text(house))["/a"].content, content)
            if content in CONTENTS[:len(WRITTEN)]:
                self.assertEqual(line, "file /a root root u::rw-,g::r--,o::r-- " + WRITTEN[CONTENTS.index(content)])

    def test_marks(self):
        house = House(People({"ann": ["staff"]}))
        house.add("/a", "folder")
        for sticky, passes, text in ((False, False, "--"), (True, False, "s-"), (False, True, "-p"), (True, True, "sp")):
            house.mark("/a", sticky=sticky, passes=passes)
            self.assertEqual(house_text(house).split(" ")[-2:], [text, "none"])
            self.assertEqual(read_house(house_text(house)), house)

    def test_wrong_arguments(self):
        for value in any_values():
            if not isinstance(value, House):
                error = raised(house_text, value)
                self.assertEqual([type(error), error.value is value], [InvalidHouse, True])
            if not isinstance(value, str):
                for call in (read_house, read_deeds, read_goal):
                    error = raised(call, value)
                    self.assertEqual([type(error), error.value is value], [InvalidText, True])


class WrongLinesTest(unittest.TestCase):
    def fails(self, lines, index):
        error = raised(read_house, "\n".join(lines))
        self.assertEqual([type(error), error.index, type(error.index)], [InvalidLine, index, int])

    def test_the_empty_text_and_lines_out_of_place(self):
        self.fails([""], 0)
        self.fails(["", ""], 0)
        self.fails(LINES[3:], 0)
        self.fails([*LINES, ""], 7)
        self.fails(["", *LINES], 0)
        for at in range(len(LINES) + 1):
            self.fails([*LINES[:at], "", *LINES[at:]], at)
        for at in range(len(LINES)):
            self.fails([*LINES[:at + 1], *LINES[at:]], at + 1)

    def test_lines_in_another_order(self):
        self.fails([LINES[1], LINES[0], *LINES[2:]], 1)
        self.fails([*LINES[:3], LINES[4], LINES[3], *LINES[5:]], 3)
        self.fails([*LINES[:3], LINES[3], LINES[5], LINES[4], LINES[6]], 5)
        self.fails([*LINES[:2], LINES[3], LINES[2], *LINES[4:]], 2)
        self.fails(["user a 022 g", "file /a a g u::rwx,g::r-x,o::r-x =", "user b 022 g"], 2)
        self.fails([*LINES[:4], LINES[2], *LINES[4:]], 4)
        self.fails([LINES[0], LINES[2], *LINES[3:]], 2)

    def test_lines_of_users(self):
        wrong = ["user", "user ann", "user ann 022", "user ann 028 staff", "user ann 22 staff", "user ann staff", "user root 022 a",
                 "user ann 022 root", "user ann 022 staff staff", "user ann  022 staff", "user ann 022 staff ", " user ann 022 a",
                 "user Ann 022 staff", "user ann 022 Staff", "users ann 022 staff", "user abcdefghi 022 a", "User ann 022 a",
                 "user ann 022 a b c d e f g", "user\tann"]
        for line in wrong:
            self.fails([line], 0)
            self.fails(["user aa 022 zz", line], 1)
            self.fails([line, "", line], 0)
        self.fails(["user bob 022 a", "user ann 022 a"], 1)
        self.fails(["user ann 022 a", "user ann 022 a"], 1)

    def test_users_and_groups_that_are_too_many(self):
        users = [f"user {name} 022 staff" for name in "abcdefg"]
        self.assertEqual(len(read_house("\n".join(users[:6])).people), 6)
        self.fails(users, 6)
        groups = ["user a 022 a b c", "user b 022 c d e f", "user c 022 a f"]
        self.assertEqual(len(read_house("\n".join(groups)).people.groups()), 6)
        self.fails([*groups, "user d 022 a g", "user e 022 a"], 3)

    def test_lines_of_nodes(self):
        head = LINES[:3]
        wrong = [
            "folder", "folder /a", "folder /a none folder", "folder /a none folder u::rwx,g::r-x,o::r-x",
            "folder /a none folder u::rwx,g::r-x,o::r-x --", "folder /a none folder u::rwx,g::r-x,o::r-x -- none ",
            "folder /a none folder u::rwx,g::r-x,o::r-x -- none none", "folder /a none folder u::rwx,g::r-x,o::r-x p- none",
            "folder /a none folder u::rwx,g::r-x,o::r-x - none", "folder /a none folder u::rwx,g::r-x,o::r-x s none",
            "folder /a none folder u::rwx,g::r-x,o::r-x -- no", "folder /a none folder u::rwx,g::r-x,o::r-x -- =",
            "folder /a none folder u::rwx,g::r-x -- none", "folder /a none folder 755 -- none",
            "folder /a none folder none -- none", "folder /a none folder g::r-x,u::rwx,o::r-x -- none",
            "folder /a none folder u::rwx,u:bob:r--,g::r-x,o::--- -- none", "folder /a bob folder u::rwx,g::r-x,o::r-x -- none",
            "folder /a none staff u::rwx,g::r-x,o::r-x -- none", "folder / none folder u::rwx,g::r-x,o::r-x -- none",
            "folder /tmp none folder u::rwx,g::r-x,o::r-x -- none", "folder /a/b none folder u::rwx,g::r-x,o::r-x -- none",
            "folder a none folder u::rwx,g::r-x,o::r-x -- none", "folder /a/ none folder u::rwx,g::r-x,o::r-x -- none",
            "folder  /a none folder u::rwx,g::r-x,o::r-x -- none", " folder /a none folder u::rwx,g::r-x,o::r-x -- none",
            "Folder /a none folder u::rwx,g::r-x,o::r-x -- none", "link /a none folder u::rwx,g::r-x,o::r-x =",
            "file /a none folder u::rwx,g::r-x,o::r-x", "file /a none folder u::rwx,g::r-x,o::r-x -- none",
            "file /a none folder u::rwx,g::r-x,o::r-x  =", "file /a none  folder u::rwx,g::r-x,o::r-x =",
            "file /a none folder u::rwx,g::r-x =", "file /a bob folder u::rwx,g::r-x,o::r-x =",
            "file /a none bob u::rwx,g::r-x,o::r-x =", "file /tmp none folder u::rwx,g::r-x,o::r-x =", "user ann 022 a", "none",
        ]
        for line in wrong:
            self.fails([*head, line], 3)
            self.fails([*head, line, "", "user"], 3)
        for text in NO_CONTENTS:
            self.fails([*head, "file /a none folder u::rwx,g::r-x,o::r-x " + text], 3)
        for line in ("folder /a none folder u::rwx,g::r-x,o::r-x -- none", "file /a none folder u::rwx,g::r-x,o::r-x = "):
            self.assertEqual(read_house("\n".join([*head, line])).paths(), ["/a"])

    def test_the_folder_above(self):
        head = LINES[:3]
        make = "folder /{} none folder u::rwx,g::r-x,o::r-x -- none"
        self.fails([*head, "file /a none folder u::rwx,g::r-x,o::r-x =", make.format("a/b")], 4)
        self.fails([*head, make.format("b"), make.format("b/a/c")], 4)
        self.fails([*head, make.format("b"), make.format("a")], 4)
        self.assertEqual(len(read_house("\n".join([*head, make.format("b"), make.format("b/a"), make.format("b/a/c")]))), 3)
        # Paths are ordered as strings, so what is below a folder comes before a longer name beside it.
        self.assertEqual(len(read_house("\n".join([*head, make.format("b"), make.format("b/a"), make.format("ba")]))), 3)
        self.fails([*head, make.format("b"), make.format("ba"), make.format("b/a")], 5)

    def test_each_line_with_one_sign_otherwise(self):
        count = 0
        for at, line in enumerate(LINES):
            for place in range(len(line)):
                for other in (line[:place] + line[place + 1:], line[:place] + " " + line[place:], line[:place] + "Z"):
                    text = "\n".join([*LINES[:at], other, *LINES[at + 1:]])
                    try:
                        house = read_house(text)
                    except InvalidLine as error:
                        self.assertGreaterEqual(error.index, at)
                        count += 1
                    else:
                        self.assertEqual(house_text(house), text)
        self.assertGreater(count, 800)


class DeedsTextTest(unittest.TestCase):
    def deeds(self):
        source = seed_of("deeds")
        path, to, access = "/read", "/none/write", drawn_access(source)
        found = [
            ("read", "read", path), ("none", "file", path, "640"), ("user", "folder", to, "000"), ("mark", "move", path, to),
            ("ann", "remove", "/"), ("ann", "allow", path, access), ("ann", "default", path, ACCESS),
            ("ann", "default", path, None), ("ann", "give", path, "root"), ("ann", "give", path, "none"),
            ("write", "umask", "027"), ("umask", "read", "/write"),
        ]
        found += [("ann", "mark", path, sticky, passes) for sticky in (True, False) for passes in (True, False)]
        return found + [("ann", "write", path, content) for content in CONTENTS]

    def test_known_lines(self):
        rows = {
            ("ann", "read", "/a"): "ann read /a", ("ann", "write", "/a", "x\n y\\"): "ann write /a =x\\n y\\\\",
            ("ann", "file", "/a", "644"): "ann file /a 644", ("ann", "move", "/a", "/b"): "ann move /a /b",
            ("ann", "default", "/a", None): "ann default /a none", ("ann", "mark", "/a", False, True): "ann mark /a -p",
            ("ann", "mark", "/a", True, True): "ann mark /a sp", ("ann", "give", "/a", "root"): "ann give /a root",
            ("ann", "umask", "022"): "ann umask 022", ("ann", "write", "/a", ""): "ann write /a =",
        }
        for deed, line in rows.items():
            self.assertEqual(deeds_text([deed]), line)
            self.assertEqual(read_deeds(line), [deed])
        allow = ("ann", "allow", "/a", ACCESS)
        self.assertEqual(deeds_text([allow]), "ann allow /a u::rwx,u:bob:r--,g::r-x,m::r-x,o::---")
        self.assertEqual(deeds_text((allow, ("ann", "umask", "022"))), deeds_text([allow]) + "\nann umask 022")
        self.assertEqual([deeds_text([]), read_deeds(""), deeds_text(deeds=())], ["", [], ""])

    def test_each_text_is_read_again(self):
        deeds = self.deeds()
        for deed in deeds:
            self.assertEqual(read_deeds(deeds_text([deed])), [deed])
            self.assertEqual(deeds_text([deed]).count("\n"), 0)
        self.assertEqual(read_deeds(text=deeds_text(deeds)), deeds)
        for deed in read_deeds(deeds_text(deeds)):
            self.assertTrue(is_deed(deed))

    def test_wrong_deeds(self):
        good = ("ann", "read", "/a")
        for value in any_values():
            if not is_list(value):
                error = raised(deeds_text, value)
                self.assertEqual([type(error), error.value is value], [InvalidDeeds, True])
            for deeds in ([value], [good, value, None], (good, good, value)):
                error = raised(deeds_text, deeds)
                self.assertEqual([type(error), error.value is value], [InvalidDeed, True])

    def test_wrong_lines(self):
        wrong = [
            "", "ann", "ann read", "ann read a", "ann read /a ", "ann read  /a", " ann read /a", "ann read /a /b", "root read /a",
            "Ann read /a", "ann look /a", "ann write /a", "ann write /a x", "ann write a =x", "ann write  /a =x",
            "ann write /a  =x", "ann write", "root write /a =x", "ann file /a", "ann file /a 64", "ann file /a 648",
            "ann file /a 644 x", "ann folder a 644", "ann move /a", "ann move /a b", "ann move /a /b /c", "ann remove",
            "ann allow /a", "ann allow /a none", "ann allow /a 644", "ann allow /a u::rwx,g::rwx", "ann default /a",
            "ann default /a None", "ann default /a 755", "ann default /a none none", "ann mark /a", "ann mark /a s",
            "ann mark /a -- --", "ann mark /a ps", "ann mark /a s- x", "ann mark s-", "ann give /a", "ann give /a Root",
            "ann give /a abcdefghi", "ann umask", "ann umask 9", "ann umask /a", "ann umask 022 022", "read /a", "ann =x",
        ] + ["ann write /a " + text for text in NO_CONTENTS]
        for line in wrong:
            for lines, index in (([line, "x"], 0), (["ann read /a", line], 1), (["ann read /a", line, line], 1)):
                error = raised(read_deeds, "\n".join(lines))
                self.assertEqual([type(error), error.index], [InvalidLine, index], lines)
        self.assertEqual(raised(read_deeds, "\n").index, 0)
        self.assertEqual(raised(read_deeds, "ann read /a\n").index, 1)


class GoalTextTest(unittest.TestCase):
    def test_goals(self):
        goals = [(word, path) for word in PATH_WORDS for path in ("/", "/tmp", "/read/made")]
        goals += [(word, user, path) for word in USER_WORDS for user in ("led", "shut", "ann") for path in ("/", "/led")]
        for goal in goals:
            self.assertEqual(goal_text(goal), " ".join(goal))
            self.assertEqual(read_goal(" ".join(goal)), goal)
            self.assertIs(type(read_goal(text=goal_text(goal=goal))), tuple)

    def test_wrong_goals(self):
        others = [("led", "root", "/a"), ("led", "/a"), ("read", "ann", "/a"), ("read", "a"), ["read", "/a"], ("Read", "/a"),
                  ("led", "ann", "/a", "/a"), ("read",), ("led", "Ann", "/a"), ("led", None, "/a")]
        for value in any_values() + others:
            error = raised(goal_text, value)
            self.assertEqual([type(error), error.value is value], [InvalidGoal, True])

    def test_wrong_texts(self):
        others = ["read", "read /a ", " read /a", "read  /a", "led root /a", "led /a", "read ann /a", "read a", "read /a\n",
                  "read\n/a", "read /a/", "move /a", "led ann bob /a", "read,/a"]
        for text in others + [value for value in any_values() if isinstance(value, str)]:
            error = raised(read_goal, text)
            self.assertEqual([type(error), error.value is text], [InvalidText, True])


if __name__ == "__main__":
    unittest.main()
