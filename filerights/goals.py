"""Goals: what free users want to bring about, how they do, or why they never can."""

from filerights.aims import check_aim, check_free, is_aim_of
from filerights.deeds import is_deed
from filerights.errors import InvalidDeeds
from filerights.futures import closed_table
from filerights.house import check_house
from filerights.leaning import leaned_on
from filerights.plans import Plan
from filerights.rows import meets, shortened
from filerights.tables import Present, least_table
from filerights.words import is_list


def is_goal(house, free, goal):
    """Return True if any value is a goal of free users of a house."""
    check_free(house, free)
    return is_aim_of(house.people, free, goal)


def is_met(house, free, goal, deeds):
    """Return True if a row of deeds of free users meets a goal; the house does not change."""
    check_aim(house, free, goal)
    if not is_row(free, deeds):
        raise InvalidDeeds(deeds)
    return meets(house, goal, deeds)


def decide(house, free, goal):
    """Return a row that meets a goal and of which no deed can be left out, or a closed table in which none does."""
    check_aim(house, free, goal)
    table = least_table(Present(house, free))
    if not table.says(goal):
        return ("never", table.listed())
    plan = Plan(table, goal)
    plan.bring_about(goal)
    return ("row", shortened(house, goal, plan.row))


def check(house, free, goal, answer):
    """Return True if any value is an answer to a goal that decide may give, but for deeds that can be left out."""
    check_aim(house, free, goal)
    if not isinstance(answer, tuple) or len(answer) != 2:
        return False
    word, told = answer
    if not isinstance(word, str):
        return False
    if word == "row":
        return is_row(free, told) and meets(house, goal, told)
    if word != "never":
        return False
    table = closed_table(Present(house, free), told)
    return table is not None and not table.says(goal)


def support(house, deeds):
    """Return the list of the letters and marks of a house on which a row leans that is not refused."""
    check_house(house)
    if not is_list(deeds) or not all([is_deed(deed) for deed in deeds]):
        raise InvalidDeeds(deeds)
    leaning, _ = leaned_on(house, deeds)
    return leaning.listed()


def is_row(free, value):
    """Return True if any value is a list of deeds of free users."""
    return is_list(value) and all([is_deed(deed) and deed[0] in free for deed in value])
