"""Rows of deeds: whether they meet a goal, and what can be left out of them."""

from filerights.deeds import do
from filerights.errors import MissingError, RefusedError, RightsError
from filerights.house import may


def meets(house, goal, deeds):
    """Return True if a list of deeds, carried out in a copy of a house, meets a goal."""
    return _meets(house, house.copied(), goal, deeds)


def shortened(house, goal, deeds):
    """Return a row that meets a goal without a deed that can be left out, from a row that meets it."""
    row = list(deeds)
    behind = house.copied()
    count = len(row) + 1
    while len(row) < count:
        count = len(row)
        # The last ones first: a deed may only be there for the sake of later ones.
        for at in range(count - 1, -1, -1):
            rest = row[:at] + row[at + 1:]
            if _meets(house, behind, goal, rest):
                row = rest
    return row


def _meets(house, behind, goal, deeds):
    """Return True if a list of deeds meets a goal; the copy of the house, in which they are carried out, may be any."""
    behind.restore(house.state)
    touched = _carried_out(behind, deeds)
    return touched is not None and _is_met(house, behind, touched, goal)


def _carried_out(house, deeds):
    """Carry out deeds in a house; return a dict of (word, number) for what is read or written, or None."""
    touched = {}
    for deed in deeds:
        word, path = deed[1:3]
        if word in ("read", "write") and path in house:
            touched[(word, house[path].number)] = True
        try:
            do(house, deed)
        except (RightsError, MissingError, RefusedError):
            return None
    return touched


def _is_met(house, behind, touched, goal):
    """Return True if a goal is met by a row between these two houses, which touched these files."""
    word, *users, path = goal
    present = house[path].number if path in house else None
    after = behind[path].number if path in behind else None
    if word in ("read", "write"):
        return (word, present) in touched
    if word == "gone":
        return present is not None and after != present
    if word == "lost":
        return present is not None and present not in _numbers(behind)
    if word == "made":
        return after is not None and after not in _numbers(house)
    if word == "led":
        return _is_led(house, behind, touched, goal)
    is_file = present is not None and house[path].kind == "file"
    return is_file and may(house, users[0], path, "r") and not may(behind, users[0], path, "r")


def _is_led(house, behind, touched, goal):
    """Return True if the user of a goal may read, behind a row, what is new at the path."""
    _, user, path = goal
    if not may(behind, user, path, "r") or behind[path].kind != "file":
        return False
    number = behind[path].number
    return number not in _numbers(house) or ("write", number) in touched


def _numbers(house):
    """Return the list of the numbers of all nodes of a house."""
    return [node.number for path, node in house.walk()]
