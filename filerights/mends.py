"""Mends: the fewest letters to take away, and marks to set, so that goals can never be met."""

from filerights.aims import is_aim_of
from filerights.errors import InvalidDeeds, InvalidEntry, InvalidGoals, InvalidInteger, InvalidKeeps, Kept
from filerights.goals import decide, is_row
from filerights.house import GROUND, check_house, may
from filerights.leaning import leaned_on
from filerights.rights import Rights, is_rights
from filerights.rows import meets
from filerights.tables import Present, least_table
from filerights.words import is_integer, is_list, is_path

MOST_GOALS = 6
MOST_KEEPS = 10
MOST_CHANGES = 2


def is_change(house, value):
    """Return True if any value is a change for a house."""
    check_house(house)
    if not isinstance(value, tuple) or len(value) not in (2, 5):
        return False
    word, path, *entry = value
    if path not in house or path in GROUND:
        return False
    node = house[path]
    if entry:
        kind, name, letter = entry
        held = [rights for one, told, rights in node.access.entries() if one == kind and told == name]
        return word == "take" and any([letter in rights for rights in held])
    return word == "sticky" and node.kind == "folder" and not node.sticky


def changed(house, changes):
    """Return a copy of a house after all changes of a list."""
    check_house(house)
    if not is_list(changes):
        raise InvalidDeeds(changes)
    for change in changes:
        if not is_change(house, change):
            raise InvalidEntry(change)
    other = house.copied()
    for word, path, *entry in changes:
        if word == "sticky":
            other.mark(path, sticky=True)
        else:
            kind, name, letter = entry
            other[path] = _without_letter(other[path].access, kind, name, letter)
    return other


def fewest_mend(house, never, keeps, *, most=2):
    """Return a mend of the fewest changes, or that there is none of so many at most, with a tree of cases."""
    _check_asked(house, never, keeps, most)
    last = None
    for count in range(most + 1):
        changes, tree = _grown(house, never, keeps, count)
        if changes is not None:
            return ("mend", changes, last)
        last = tree
    return ("none", most, last)


def check_mend(house, never, keeps, answer, *, most=2):
    """Return True if any value is an answer that fewest_mend may give."""
    _check_asked(house, never, keeps, most)
    if not isinstance(answer, tuple) or len(answer) != 3:
        return False
    word, told, tree = answer
    if word == "none":
        return is_integer(told, most, most) and _is_tree(house, never, keeps, most, tree)
    if word != "mend" or not is_list(told) or len(told) > most or not all([is_change(house, item) for item in told]):
        return False
    behind = changed(house, told)
    if _first_met(behind, never) is not None or _first_lost(behind, keeps) is not None:
        return False
    return _is_tree(house, never, keeps, len(told) - 1, tree) if told else tree is None


def _without_letter(access, kind, name, letter):
    """Return a list without a letter in one of its entries."""
    rights = [held for one, told, held in access.entries() if one == kind and told == name][0]
    return access.with_entry(kind, rights - Rights(letter), name=name)


def _check_asked(house, never, keeps, most):
    """Raise an error for the first of these that a mend cannot be looked for with."""
    check_house(house)
    if not is_list(never) or len(never) > MOST_GOALS or not all([_is_case(house, item) for item in never]):
        raise InvalidGoals(never)
    if not is_list(keeps) or len(keeps) > MOST_KEEPS or not all([_is_keep(house, item) for item in keeps]):
        raise InvalidKeeps(keeps)
    lost = _first_lost(house, keeps)
    if lost is not None:
        raise Kept(keeps[lost])
    if not is_integer(most, 0, MOST_CHANGES):
        raise InvalidInteger(most)


def _is_case(house, value):
    """Return True if any value is a tuple of free users and a goal of theirs."""
    if not isinstance(value, tuple) or len(value) != 2:
        return False
    free, goal = value
    if not is_list(free) or not free or not all([user in house.people for user in free]):
        return False
    return len(set(free)) == len(free) and is_aim_of(house.people, free, goal)


def _is_keep(house, value):
    """Return True if any value is a tuple of a user, a path and rights."""
    if not isinstance(value, tuple) or len(value) != 3:
        return False
    user, path, letters = value
    return user in house.people and is_path(path) and is_rights(letters)


def _first_met(house, never):
    """Return the index of the first goal that can be met, or None."""
    for index, (free, goal) in enumerate(never):
        if least_table(Present(house, free)).says(goal):
            return index
    return None


def _first_lost(house, keeps):
    """Return the index of the first item that may not be done, or None."""
    for index, (user, path, letters) in enumerate(keeps):
        if not may(house, user, path, letters):
            return index
    return None


def _leaning(house, goal, deeds):
    """Return the list of the changes on one of which each mend must be, as a row that meets a goal leans on them."""
    leaning, behind = leaned_on(house, deeds)
    word, *users, path = goal
    if word == "led":
        leaning.add_reading(behind, users[0], path)
    if word == "shut":
        leaning.add_reading(house, users[0], path)
    return leaning.listed()


def _grown(house, never, keeps, count):
    """Return a mend of at most so many changes and None, or None and a tree of cases for so many changes."""
    index = _first_met(house, never)
    if index is None:
        return ([], None)
    free, goal = never[index]
    _, deeds = decide(house, free, goal)
    cases = []
    for change in _leaning(house, goal, deeds) if count else []:
        behind = changed(house, [change])
        told = _first_lost(behind, keeps)
        if told is None:
            changes, told = _grown(behind, never, keeps, count - 1)
            if changes is not None:
                return ([change] + changes, None)
        cases.append((change, told))
    return (None, (index, deeds, cases))


def _is_tree(house, never, keeps, count, value):
    """Return True if any value is a tree of cases for so many changes of a house."""
    if not isinstance(value, tuple) or len(value) != 3:
        return False
    index, deeds, cases = value
    if not is_integer(index, 0, len(never) - 1) or not is_list(cases):
        return False
    free, goal = never[index]
    if not is_row(free, deeds) or not meets(house, goal, deeds):
        return False
    changes = _leaning(house, goal, deeds) if count else []
    if len(cases) != len(changes) or not all([isinstance(item, tuple) and len(item) == 2 for item in cases]):
        return False
    told = [change for change, tree in cases]
    if not all([change in told for change in changes]):
        return False
    return all([_is_closed_case(changed(house, [change]), never, keeps, count - 1, tree) for change, tree in cases])


def _is_closed_case(house, never, keeps, count, value):
    """Return True if any value shows that so many further changes of a house make no mend."""
    if is_integer(value, 0, len(keeps) - 1):
        user, path, letters = keeps[value]
        return not may(house, user, path, letters)
    return _is_tree(house, never, keeps, count, value)
