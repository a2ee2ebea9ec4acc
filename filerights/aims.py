"""Aims: the forms of goals, and the lists of free users who may meet them."""

from filerights.errors import InvalidFree, InvalidGoal, UnknownUser
from filerights.house import check_house
from filerights.words import is_list, is_path, is_user_name

PATH_AIMS = ("read", "write", "gone", "lost", "made")
USER_AIMS = ("led", "shut")


def is_aim(value):
    """Return True if any value has the form of a goal, whatever users and nodes there are."""
    if not isinstance(value, tuple) or len(value) not in (2, 3):
        return False
    word, path = value[0], value[-1]
    if not is_path(path):
        return False
    if len(value) == 2:
        return word in PATH_AIMS
    return word in USER_AIMS and is_user_name(value[1])


def is_aim_of(people, free, value):
    """Return True if any value is a goal among some people, with a list of free users, which may be empty."""
    if not is_aim(value):
        return False
    return len(value) == 2 or (value[1] in people and value[1] not in free)


def check_free(house, free):
    """Raise an error if there is no such house, or if these are not free users of it."""
    check_house(house)
    if not is_list(free) or not free:
        raise InvalidFree(free)
    seen = []
    for user in free:
        if user not in house.people or user in seen:
            raise UnknownUser(user)
        seen.append(user)


def check_aim(house, free, goal):
    """Raise an error if this is not a goal of free users of a house, or as check_free does."""
    check_free(house, free)
    if not is_aim_of(house.people, free, goal):
        raise InvalidGoal(goal)
