"""Leaning: the letters and marks of a house without which a row of deeds would be refused."""

from filerights.deeds import do
from filerights.errors import DeedFailed, MissingError, RefusedError, RightsError
from filerights.house import GROUND
from filerights.judge import Judge
from filerights.words import folder_of

MASKED_KINDS = ("user", "group", "named")
LETTERS = "rwx"


class Leaning:
    """Collects the letters and marks of the nodes of a house on which deeds lean, in it or in what becomes of it."""

    def __init__(self, house):
        self._judge = Judge(house.people)
        self._places = {node.number: (path, node) for path, node in house.walk() if path not in GROUND}
        self._found = {}

    def listed(self):
        """Return the list of what was found: by paths, letters before marks, by the order of entries and letters."""
        return [self._found[key] for key in sorted(self._found)]

    def add_deed(self, house, deed):
        """Put in what a deed that is not refused asks of a house."""
        user, word, *parts = deed
        if word in ("file", "folder"):
            self._add_place(house, user, parts[0])
        elif word != "umask":
            self._add_way(house, user, parts[0])
        if word in ("read", "write"):
            self._add_letters(house, user, parts[0], word[0])
        if word in ("move", "remove"):
            self._add_take(house, user, parts[0])
        if word == "move":
            path, to = parts
            self._add_place(house, user, to)
            if house[path].kind == "folder" and folder_of(path) != folder_of(to):
                self._add_letters(house, user, path, "w")

    def _add_way(self, house, user, path):
        """Put in the letters that a user needs to reach a node."""
        folder = folder_of(path)
        if folder is not None:
            self._add_way(house, user, folder)
            self._add_letters(house, user, folder, "x")

    def add_reading(self, house, user, path):
        """Put in the letters that a user needs to read a file."""
        self._add_way(house, user, path)
        self._add_letters(house, user, path, "r")

    def _add_letters(self, house, user, path, letters):
        """Put in letters that a user is granted at a node, all together."""
        node = house[path]
        if not self._is_as_before(node):
            return
        place, _ = self._places[node.number]
        _, granting = self._judge.deciding(user, node.owner, node.group, node.access, letters)
        kind, name = granting[0]
        self._add_entry(place, node.access, kind, name, letters)
        if kind in MASKED_KINDS and node.access.mask is not None:
            self._add_entry(place, node.access, "mask", "", letters)

    def _is_as_before(self, node):
        """Return True if a node is one of the house at first, with the list that it had there."""
        if node.number not in self._places:
            return False
        _, present = self._places[node.number]
        return node.access == present.access

    def _add_entry(self, place, access, kind, name, letters):
        """Put in letters of an entry of a node."""
        names = [(word, told) for word, told, rights in access.entries()]
        for letter in letters:
            key = (place, 0, names.index((kind, name)), LETTERS.index(letter))
            self._found[key] = ("take", place, kind, name, letter)

    def _add_place(self, house, user, path):
        """Put in what a user needs to place a node at a path."""
        folder = folder_of(path)
        self._add_way(house, user, folder)
        self._add_letters(house, user, folder, "wx")

    def _add_take(self, house, user, path):
        """Put in what a user needs to take a node from the folder above it."""
        folder = house[folder_of(path)]
        self._add_letters(house, user, folder_of(path), "wx")
        if user in (house[path].owner, folder.owner) or folder.number not in self._places:
            return
        place, present = self._places[folder.number]
        if folder.sticky == present.sticky:
            self._found[(place, 1, 0, 0)] = ("sticky", place)


def leaned_on(house, deeds):
    """Return what a list of deeds leans on, and the house behind them; the house itself stays what it is."""
    leaning = Leaning(house)
    behind = house.copied()
    for index, deed in enumerate(deeds):
        before = behind.copied()
        try:
            do(behind, deed)
        except (RightsError, MissingError, RefusedError) as error:
            raise DeedFailed(index) from error
        leaning.add_deed(before, deed)
    return (leaning, behind)
