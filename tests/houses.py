"""Houses that are drawn by a seed, goals about them, and what holds of whole houses."""

import random

from filerights.deeds import do
from filerights.errors import MissingError, RefusedError, RightsError
from filerights.house import House
from filerights.lists import AccessList
from filerights.people import People

NAMES = "pqrs"
PATH_WORDS = ["read", "write", "gone", "lost", "made"]
USER_WORDS = ["led", "shut"]


def seed_of(text):
    """Return a source of numbers that are the same on every run."""
    return random.Random(text)


def drawn_letters(source, share):
    return "".join([letter for letter in "rwx" if source.random() < share])


def drawn_access(source, share=None):
    """Return an access list, with named entries or a mask at times."""
    share = source.choice([0.4, 0.7, 0.9]) if share is None else share
    users = {name: drawn_letters(source, share) for name in "abc" if source.random() < 0.2}
    groups = {name: drawn_letters(source, share) for name in ("g", "h", "zoo") if source.random() < 0.2}
    mask = drawn_letters(source, 0.8) if source.random() < 0.25 else None
    three = [drawn_letters(source, share) for _ in range(3)]
    return AccessList(*three, users=users, groups=groups, mask=mask)


def drawn_people(source, most=4):
    users = "abcd"[:source.randint(1, most)]
    return People({user: source.sample(["g", "h", "i"], source.randint(1, 3)) for user in users})


def drawn_house(source, most=7, users=4, deep=True):
    """Return a house with nodes of all kinds; a deep one has most of them below one folder."""
    people = drawn_people(source, users)
    house = House(people)
    owners, groups = [*people.users(), "root"], [*people.groups(), "root"]
    folders = ["/", "/tmp"]
    if deep:
        house.add("/p", "folder", owner=source.choice(owners), group=source.choice(groups),
                  access=AccessList("rwx", drawn_letters(source, 0.8), drawn_letters(source, 0.6)))
        house.mark("/p", sticky=source.random() < 0.3)
        folders = ["/p"]
    for _ in range(source.randint(0, most)):
        folder = source.choice(folders[-2:] if deep else folders)
        path = folder.rstrip("/") + "/" + source.choice(NAMES)
        if path in house:
            continue
        kind = source.choice(["file", "folder", "folder"])
        house.add(path, kind, owner=source.choice(owners), group=source.choice(groups), access=drawn_access(source))
        if kind == "folder":
            folders.append(path)
            house.mark(path, sticky=source.random() < 0.35, passes=source.random() < 0.3)
            house.set_default(path, drawn_access(source) if source.random() < 0.3 else None)
    for user in people.users():
        house.set_umask(user, source.choice(["022", "000", "077", "777"]))
    return house


def drawn_free(source, house):
    users = house.people.users()
    return source.sample(users, source.randint(1, len(users)))


def goals_of(house, free, paths):
    """Return all goals with these paths."""
    others = [user for user in house.people.users() if user not in free]
    found = [(word, path) for path in paths for word in PATH_WORDS]
    return found + [(word, user, path) for path in paths for user in others for word in USER_WORDS]


def paths_about(source, house):
    """Return the paths of all nodes, and some beside and below them."""
    present = ["/", "/tmp", *house.paths()]
    found = list(present)
    for _ in range(4):
        start = source.choice(present).rstrip("/")
        found.append(start + "".join(["/" + source.choice(NAMES + "z") for _ in range(source.randint(1, 3))]))
    return sorted(set(found))


def numbers_of(house):
    return {path: node.number for path, node in house.walk()}


def drawn_deeds(source, house, free, count):
    """Return a row of deeds of free users that is not refused, drawn one by one."""
    behind, row = house.copied(), []
    for _ in range(count):
        user, paths = source.choice(free), ["/", "/tmp", *behind.paths()]
        path, beside = source.choice(paths), source.choice(paths).rstrip("/") + "/" + source.choice("pqrsz")
        deed = source.choice([
            (user, "read", path), (user, "write", path, "x"), (user, "file", beside, "666"), (user, "folder", beside, "777"),
            (user, "move", path, beside), (user, "move", path, beside), (user, "remove", path), (user, "allow", path, AccessList.everything()),
            (user, "allow", path, drawn_access(source)), (user, "mark", path, False, False), (user, "umask", "000"),
            (user, "default", path, AccessList.everything()), (user, "give", path, source.choice("ghi")),
        ])
        try:
            do(behind, deed)
        except (RightsError, MissingError, RefusedError):
            continue
        row.append(deed)
    return row
