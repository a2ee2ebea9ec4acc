"""Teams: which users must come together to bring something about."""

from filerights.aims import check_free, is_aim_of
from filerights.errors import InvalidGoal, UnknownUser
from filerights.futures import Future
from filerights.house import check_house
from filerights.tables import Present, least_table
from filerights.words import is_list


def smallest_teams(house, goal):
    """Return the list of the teams that can meet a goal and of which no smaller part can."""
    _check_goal(house, goal)
    found = []
    for team in _all_teams(_candidates(house, goal)):
        # The smaller ones come first, so what has none of them in it and can meet the goal is one itself.
        if team and not _has_one(team, found) and least_table(Present(house, team)).says(goal):
            found.append(team)
    return found


def greatest_harmless(house, goal):
    """Return the list of the teams that cannot meet a goal and that can with any further user."""
    return _without(smallest_teams(house, goal), _candidates(house, goal))


def check_teams(house, goal, smallest, greatest):
    """Return True if any values are the lists of the smallest teams and of the greatest harmless ones, in any order."""
    wanted = smallest_teams(house, goal)
    return _are_teams(smallest, wanted) and _are_teams(greatest, _without(wanted, _candidates(house, goal)))


def more_by(house, free, user):
    """Return the list of the goals about present nodes that can be met with one more free user, and not without."""
    check_free(house, free)
    if user not in house.people:
        raise UnknownUser(user)
    if user in free:
        return []
    less = Future(house, free)
    more = Future(house, list(free) + [user])
    known = {goal: True for goal in less.each_goal()}
    return [goal for goal in more.each_goal() if goal not in known]


def _check_goal(house, goal):
    """Raise an error if there is no such house, or if this is not a goal for some free users of it or none."""
    check_house(house)
    if not is_aim_of(house.people, [], goal):
        raise InvalidGoal(goal)


def _candidates(house, goal):
    """Return the list of the users who can be in a team for a goal: all but the one whom it is about."""
    return [user for user in house.people.users() if user not in goal[1:-1]]


def _all_teams(users):
    """Return all lists of some of these users or none: the smaller ones first, those of one size ascending."""
    teams = [[]]
    for user in users:
        teams = teams + [team + [user] for team in teams]
    return [team for size, team in sorted([(len(team), team) for team in teams])]


def _without(parts, users):
    """Return the list of the teams that have none of some parts in them, and that have one with any further user."""
    found = []
    for team in _all_teams(users):
        others = [user for user in users if user not in team]
        if not _has_one(team, parts) and all([_has_one(team + [user], parts) for user in others]):
            found.append(team)
    return found


def _has_one(team, parts):
    """Return True if all users of one of some teams are in a team."""
    return any([all([user in team for user in part]) for part in parts])


def _are_teams(value, teams):
    """Return True if any value is a list of just these teams, in any order, each once."""
    if not is_list(value) or len(value) != len(teams):
        return False
    told = [list(team) for team in value if is_list(team)]
    return all([team in told for team in teams])
