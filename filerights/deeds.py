"""Deeds: what users do in a house, as far as its rights let them."""

from filerights.errors import Absent, DeedFailed, Denied, Ground, Held, Inside, InvalidDeed, InvalidDeeds
from filerights.errors import MissingError, NotEmpty, NotFile, NotFolder, NotMember, NotOwner, RefusedError
from filerights.errors import RightsError, Taken, UnknownUser
from filerights.house import GROUND, check_house, is_granted, lacking
from filerights.lists import AccessList, is_digits, new_list
from filerights.words import folder_of, is_below, is_list, is_name, is_path, is_user_name

PARTS = {
    "read": ("path",),
    "write": ("path", "content"),
    "file": ("path", "digits"),
    "folder": ("path", "digits"),
    "move": ("path", "path"),
    "remove": ("path",),
    "allow": ("path", "access"),
    "default": ("path", "default"),
    "mark": ("path", "mark", "mark"),
    "give": ("path", "group"),
    "umask": ("digits",),
}


def is_deed(value):
    """Return True if any value is a deed, whatever users, groups and nodes there are."""
    if not isinstance(value, tuple) or len(value) < 3:
        return False
    user, word, *parts = value
    if not is_user_name(user) or not isinstance(word, str) or word not in PARTS:
        return False
    return are_parts(PARTS[word], parts)


def are_parts(kinds, values):
    """Return True if any values, in a list, are as many as these kinds, and each of its kind."""
    return len(values) == len(kinds) and all([_is_part(kind, value) for kind, value in zip(kinds, values)])


def _is_part(kind, value):
    """Return True if any value can stand in a deed where this kind of value is asked."""
    if kind == "path":
        return is_path(value)
    if kind == "digits":
        return is_digits(value)
    if kind == "content":
        return isinstance(value, str)
    if kind == "access":
        return isinstance(value, AccessList)
    if kind == "default":
        return value is None or isinstance(value, AccessList)
    if kind == "mark":
        return isinstance(value, bool)
    return is_name(value)


def _ask(house, user, path, letters):
    """Refuse what needs letters at a node that the user is not granted there, all together."""
    if not is_granted(house, user, path, letters):
        raise Denied(path, letters)


def _ask_way(house, user, path):
    """Refuse what needs a node that the user does not reach."""
    lack = lacking(house, user, path)
    if lack is None:
        return
    place, word = lack
    if word == "absent":
        raise Absent(place)
    if word == "file":
        raise NotFolder(place)
    raise Denied(place, "x")


def _ask_file(house, user, path, letter):
    """Refuse what needs a letter at a file."""
    _ask_way(house, user, path)
    if house[path].kind != "file":
        raise NotFile(path)
    _ask(house, user, path, letter)


def _ask_not_ground(path):
    """Refuse what would change the ground."""
    if path in GROUND:
        raise Ground(path)


def _ask_folder(house, path):
    """Refuse what only a folder can get."""
    if house[path].kind != "folder":
        raise NotFolder(path)


def _ask_owner(house, user, path):
    """Refuse what only the owner may do."""
    if house[path].owner != user:
        raise NotOwner(path)


def _ask_take(house, user, path):
    """Refuse what takes a node from the folder above it, if the user cannot."""
    _ask_not_ground(path)
    _ask_way(house, user, path)
    folder = folder_of(path)
    _ask(house, user, folder, "wx")
    if house[folder].sticky and user not in (house[path].owner, house[folder].owner):
        raise Held(path)


def _ask_place(house, user, path):
    """Refuse what places a node at a path, if the user cannot."""
    folder = folder_of(path)
    if folder is None:
        raise Taken(path)
    _ask_way(house, user, folder)
    _ask_folder(house, folder)
    _ask(house, user, folder, "wx")
    if path in house:
        raise Taken(path)


def _read(house, user, path):
    _ask_file(house, user, path, "r")
    return house[path].content


def _write(house, user, path, content):
    _ask_file(house, user, path, "w")
    house.set_content(path, content)


def _make_file(house, user, path, digits):
    _make(house, user, path, "file", digits)


def _make_folder(house, user, path, digits):
    _make(house, user, path, "folder", digits)
    folder = house[folder_of(path)]
    house.mark(path, passes=folder.passes)
    house.set_default(path, folder.default)


def _make(house, user, path, kind, digits):
    """Make a node of the user, with the group and the list that the folder above and the umask give it."""
    _ask_place(house, user, path)
    folder = house[folder_of(path)]
    group = folder.group if folder.passes else house.people.first_group(user)
    access = new_list(folder.default, digits, house.umask_of(user))
    house.add(path, kind, owner=user, group=group, access=access)


def _move(house, user, path, to):
    _ask_take(house, user, path)
    if is_below(to, path):
        raise Inside(to)
    _ask_place(house, user, to)
    # A folder tells the way to the one above it, so it is changed when that is another one.
    if house[path].kind == "folder" and folder_of(path) != folder_of(to):
        _ask(house, user, path, "w")
    house.shift(path, to)


def _remove(house, user, path):
    _ask_take(house, user, path)
    if house[path].kind == "folder" and house.names_in(path):
        raise NotEmpty(path)
    house.cut(path)


def _allow(house, user, path, access):
    _ask_not_ground(path)
    _ask_way(house, user, path)
    _ask_owner(house, user, path)
    house[path] = access


def _default(house, user, path, access):
    _ask_not_ground(path)
    _ask_way(house, user, path)
    _ask_folder(house, path)
    _ask_owner(house, user, path)
    house.set_default(path, access)


def _mark(house, user, path, sticky, passes):
    _ask_not_ground(path)
    _ask_way(house, user, path)
    _ask_folder(house, path)
    _ask_owner(house, user, path)
    house.mark(path, sticky=sticky, passes=passes)


def _give(house, user, path, group):
    _ask_not_ground(path)
    _ask_way(house, user, path)
    _ask_owner(house, user, path)
    if group not in house.people.groups_of(user):
        raise NotMember(group)
    house.give(path, group=group)


def _umask(house, user, digits):
    house.set_umask(user, digits)


ACTIONS = {
    "read": _read,
    "write": _write,
    "file": _make_file,
    "folder": _make_folder,
    "move": _move,
    "remove": _remove,
    "allow": _allow,
    "default": _default,
    "mark": _mark,
    "give": _give,
    "umask": _umask,
}


def do(house, deed):
    """Carry out a deed in a house, and return the content that it reads, or None."""
    check_house(house)
    if not is_deed(deed):
        raise InvalidDeed(deed)
    user, word, *parts = deed
    if user not in house.people:
        raise UnknownUser(user)
    action = ACTIONS[word]
    return action(house, user, *parts)


def run(house, deeds):
    """Carry out a list of deeds, all or none, and return the list of what they return."""
    check_house(house)
    if not is_list(deeds):
        raise InvalidDeeds(deeds)
    for deed in deeds:
        if not is_deed(deed):
            raise InvalidDeed(deed)
    kept = house.state
    answers = []
    for index, deed in enumerate(deeds):
        try:
            answers.append(do(house, deed))
        except (RightsError, MissingError, RefusedError) as error:
            house.restore(kept)
            raise DeedFailed(index) from error
    return answers
