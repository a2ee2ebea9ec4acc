"""Every word of a deed at many places of many houses, against the sentences of the document."""

import itertools
import unittest

from filerights.deeds import do
from filerights.errors import Absent, Denied, Ground, Held, Inside, NotEmpty, NotFile, NotFolder, NotMember, NotOwner
from filerights.errors import Taken
from filerights.house import House, lacking
from filerights.judge import Judge
from filerights.lists import AccessList, without_letters
from filerights.people import People
from filerights.words import above, is_below

PEOPLE = People({"ann": ["staff", "chess"], "bob": ["guests"], "cal": ["staff"]})
ACCESS = AccessList("rwx", "r", "", users={"bob": "rx"})
DEFAULT = AccessList("rwx", "rx", "w", groups={"chess": "rwx"}, mask="rw")
PATHS = ["/", "/tmp", "/lab", "/lab/box", "/lab/box/a", "/lab/plan", "/tmp/a", "/tmp/b", "/tmp/b/c", "/new", "/lab/new",
         "/lab/plan/x", "/lab/no/x", "/tmp/b/d", "/tmp/new"]


def houses():
    """Return houses in which the same nodes have other owners, lists and marks."""
    found = []
    settings = [("ann", "staff", "775"), ("root", "staff", "770"), ("bob", "guests", "731"), ("cal", "root", "666")]
    for at, (owner, group, digits) in enumerate(settings):
        for sticky, passes, default in ((False, False, None), (True, True, DEFAULT)):
            house = House(PEOPLE)
            house.add("/lab", "folder", owner=owner, group=group, access=AccessList.plain(digits))
            house.add("/lab/box", "folder", owner="bob", group="staff", access=AccessList.plain("7" + digits[1:]))
            house.add("/lab/plan", "file", owner=owner, group="guests", access=AccessList.plain("640"))
            house.add("/tmp/a", "file", owner="bob", group=group, access=AccessList("rw", "r", "", users={"cal": "w"}))
            house.add("/tmp/b", "folder", owner="ann", group="staff", access=AccessList.plain(digits[::-1]))
            house.add("/tmp/b/c", "file", owner="cal", group=group, access=AccessList.plain("604"))
            if at < 3:
                house.add("/lab/box/a", "file", owner="ann", access=AccessList.plain("444"))
            for path in ("/lab", "/tmp/b"):
                house.mark(path, sticky=sticky, passes=passes)
                house.set_default(path, default)
            house.set_umask("bob", "070")
            found.append(house)
    return found


def deeds_of(user):
    """Return deeds of every word at all places."""
    found = [(user, "umask", "027")]
    for path in PATHS:
        found += [
            (user, "read", path), (user, "write", path, "new"), (user, "file", path, "666"), (user, "folder", path, "753"),
            (user, "remove", path), (user, "allow", path, ACCESS), (user, "default", path, ACCESS),
            (user, "default", path, None), (user, "mark", path, True, True), (user, "mark", path, False, True),
            (user, "give", path, "chess"), (user, "give", path, "guests"), (user, "give", path, "root"),
        ]
        found += [(user, "move", path, to) for to in PATHS]
    return found


class Reader:
    """Reads the sentences of the document for one deed in one house, one after the other."""

    def __init__(self, house, deed):
        self.house, self.deed = house, deed
        self.user, self.word = deed[:2]

    def has(self, path, letters):
        node = self.house[path]
        return Judge(PEOPLE)(self.user, node.owner, node.group, node.access, letters)

    def walks(self, path):
        end = lacking(self.house, self.user, path)
        if end is not None:
            place, why = end
            yield {"absent": (Absent, place), "file": (NotFolder, place), "x": (Denied, place, "x")}[why]

    def places(self, path):
        if path == "/":
            yield (Taken, path)
            return
        folder = above(path)
        yield from self.walks(folder)
        if self.house[folder].kind == "file":
            yield (NotFolder, folder)
        if not self.has(folder, "wx"):
            yield (Denied, folder, "wx")
        if path in self.house:
            yield (Taken, path)

    def takes(self, path):
        folder = above(path)
        if not self.has(folder, "wx"):
            yield (Denied, folder, "wx")
        if self.house[folder].sticky:
            if self.user != self.house[path].owner and self.user != self.house[folder].owner:
                yield (Held, path)

    def refusals(self):
        """Yield what refuses the deed; behind the first one nothing is to be asked for."""
        house, word = self.house, self.word
        if word == "umask":
            return
        path = self.deed[2]
        if word in ("move", "remove", "allow", "default", "mark", "give") and path in ("/", "/tmp"):
            yield (Ground, path)
        if word in ("file", "folder"):
            yield from self.places(path)
            return
        yield from self.walks(path)
        node = house[path]
        if word in ("read", "write"):
            if node.kind == "folder":
                yield (NotFile, path)
            if not self.has(path, word[0]):
                yield (Denied, path, word[0])
        if word in ("move", "remove"):
            yield from self.takes(path)
        if word == "remove" and [other for other in house.paths() if is_below(other, path)]:
            yield (NotEmpty, path)
        if word == "move":
            to = self.deed[3]
            if is_below(to, path):
                yield (Inside, to)
            yield from self.places(to)
            if node.kind == "folder" and above(to) != above(path) and not self.has(path, "w"):
                yield (Denied, path, "w")
        if word in ("default", "mark") and node.kind == "file":
            yield (NotFolder, path)
        if word in ("allow", "default", "mark", "give") and node.owner != self.user:
            yield (NotOwner, path)
        if word == "give" and self.deed[3] not in PEOPLE.groups_of(self.user):
            yield (NotMember, self.deed[3])

    def carried_out(self):
        """Return the house behind the deed, as the administrator would make it, and the answer."""
        house, path, rest = self.house.copied(), self.deed[2], self.deed[3:]
        if self.word == "umask":
            house.set_umask(self.user, path)
        elif self.word == "read":
            return house, house[path].content
        elif self.word == "write":
            house.set_content(path, rest[0])
        elif self.word == "move":
            house.shift(path, rest[0])
        elif self.word == "remove":
            house.cut(path)
        elif self.word == "allow":
            house[path] = rest[0]
        elif self.word == "default":
            house.set_default(path, rest[0])
        elif self.word == "mark":
            house.mark(path, sticky=rest[0], passes=rest[1])
        elif self.word == "give":
            house.give(path, group=rest[0])
        else:
            self.make(house, path, rest[0])
        return house, None

    def make(self, house, path, digits):
        folder = house[above(path)]
        group = folder.group if folder.passes else PEOPLE.groups_of(self.user)[0]
        access = AccessList.plain(without_letters(digits, house.umask_of(self.user)))
        if folder.default is not None:
            access = folder.default.narrowed(digits)
        house.add(path, self.word, owner=self.user, group=group, access=access)
        if self.word == "folder":
            house.set_default(path, folder.default)
            house.mark(path, sticky=False, passes=folder.passes)


class SweepTest(unittest.TestCase):
    def test_all(self):
        seen = {}
        for house, user in itertools.product(houses(), PEOPLE.users()):
            kept = house.state
            for deed in deeds_of(user):
                reader = Reader(house, deed)
                wanted = next(reader.refusals(), None)
                seen[(deed[1], wanted and wanted[0])] = True
                if wanted is None:
                    behind, answer = reader.carried_out()
                    self.assertEqual(do(house, deed), answer, deed)
                    self.assertTrue(house == behind, deed)
                    house.state = kept
                    continue
                with self.assertRaises(wanted[0], msg=deed) as caught:
                    do(house, deed)
                self.assertEqual((type(caught.exception), *vars(caught.exception).values()), wanted, deed)
                self.assertIs(house.state, kept)
        # Each refusal that a word can meet is met, so that the sweep leaves out none.
        shared = {Absent, NotFolder, Denied, None}
        wanted = {
            "read": shared | {NotFile}, "write": shared | {NotFile}, "file": shared | {Taken}, "folder": shared | {Taken},
            "move": shared | {Ground, Held, Inside, Taken}, "remove": shared | {Ground, Held, NotEmpty},
            "allow": shared | {Ground, NotOwner}, "default": shared | {Ground, NotOwner},
            "mark": shared | {Ground, NotOwner}, "give": shared | {Ground, NotOwner, NotMember}, "umask": {None},
        }
        for word, classes in wanted.items():
            self.assertEqual({error for told, error in seen if told == word}, classes, word)


if __name__ == "__main__":
    unittest.main()
