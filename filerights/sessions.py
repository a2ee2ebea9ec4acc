"""Sessions: a house that is filled, changed and asked by lines of text."""

from filerights.commands import command_of
from filerights.errors import Absent, InvalidCommand, InvalidDeeds, InvalidLine, MissingError, RefusedError
from filerights.errors import RightsError
from filerights.goals import decide
from filerights.house import House, may, who_may
from filerights.lines import deed_line, written
from filerights.lists import AccessList
from filerights.people import People
from filerights.seats import History
from filerights.teams import smallest_teams
from filerights.texts import deeds_text
from filerights.words import is_list

DONE = "done"


class Session:
    """A house with a history of deeds, and the lines that were executed since it began."""

    def __init__(self):
        self._house = None
        self._history = None
        self._lines = []

    def house(self):
        """Return an equal copy of the house."""
        self._check_begun()
        return self._house.copied()

    def log(self):
        """Return the list of the lines that were executed since the last one that began a house."""
        return list(self._lines)

    def execute(self, line):
        """Execute a command, and return its answer."""
        command = command_of(line)
        if command is None:
            raise InvalidCommand(line)
        word, *parts = command
        if word == "begin":
            self._begin(parts[0])
            self._lines = [line]
            return DONE
        self._check_begun()
        action = ACTIONS[word]
        answer = action(self._house, self._history, *parts)
        self._lines.append(line)
        return answer

    def execute_all(self, lines):
        """Execute a list of commands, all or none, and return the list of their answers."""
        if not is_list(lines):
            raise InvalidDeeds(lines)
        kept = self._saved()
        answers = []
        for index, line in enumerate(lines):
            try:
                answers.append(self.execute(line))
            except (RightsError, MissingError, RefusedError) as error:
                self._take_back(kept)
                raise InvalidLine(index) from error
        return answers

    def _begin(self, members):
        """Begin with a house without nodes besides the ground."""
        house = House(People(members))
        self._house = house
        self._history = History(house)

    def _check_begun(self):
        """Raise an error if there is no house."""
        if self._house is None:
            raise Absent("/")

    def _saved(self):
        """Return what the session is now, as a tuple of the house, its state, its history and the lines."""
        if self._house is None:
            return (None, None, None, [])
        return (self._house, self._house.state, self._history.copied(), list(self._lines))

    def _take_back(self, kept):
        """Make the session what it was."""
        self._house, state, self._history, self._lines = kept
        if self._house is not None:
            self._house.restore(state)


def _put(house, history, kind, path, owner, group, digits):
    house.add(path, kind, owner=owner, group=group, access=AccessList.plain(digits))
    return DONE


def _rule(house, history, path, access):
    house[path] = access
    return DONE


def _do(house, history, deed):
    content = history.do(deed)
    return DONE if content is None else written(content)


def _undo(house, history):
    return deed_line(history.undo())


def _may(house, history, user, path, letters):
    return "yes" if may(house, user, path, letters) else "no"


def _who(house, history, path, letters):
    return " ".join(who_may(house, path, letters)) or "nobody"


def _tree(house, history):
    return " ".join(house.paths()) or "empty"


def _ever(house, history, free, goal):
    word, told = decide(house, free, goal)
    return word + "\n" + deeds_text(told) if word == "row" else word


def _teams(house, history, goal):
    return " ".join([",".join(team) for team in smallest_teams(house, goal)]) or "none"


ACTIONS = {
    "put": _put,
    "rule": _rule,
    "do": _do,
    "undo": _undo,
    "may": _may,
    "who": _who,
    "tree": _tree,
    "ever": _ever,
    "teams": _teams,
}
