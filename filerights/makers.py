"""Scripts of making: steps that make nodes in a folder that is not known."""

from filerights.deeds import are_parts
from filerights.errors import InvalidDigits, InvalidList, InvalidName, InvalidNode, InvalidScript, InvalidStart
from filerights.lists import AccessList, is_digits, new_list
from filerights.words import above, is_below, is_list, is_name

MOST_STEPS = 20
START_PATH = "/"
STEPS = {
    "umask": ("digits",),
    "file": ("path", "digits"),
    "folder": ("path", "digits"),
    "digits": ("path", "digits"),
    "list": ("path", "access"),
    "default": ("path", "default"),
    "passes": ("path", "mark"),
    "remove": ("path",),
}


class Start:
    """A case in which a script is carried out; it never changes."""

    def __init__(self, *, default=None, group="root", passes=False, umask="000"):
        if default is not None and not isinstance(default, AccessList):
            raise InvalidList(default)
        if not is_name(group):
            raise InvalidName(group)
        if not isinstance(passes, bool):
            raise InvalidNode(passes)
        if not is_digits(umask):
            raise InvalidDigits(umask)
        self._default = default
        self._group = group
        self._passes = passes
        self._umask = umask

    @property
    def default(self):
        """The default list of the start folder, or None."""
        return self._default

    @property
    def group(self):
        """The group of the start folder."""
        return self._group

    @property
    def passes(self):
        """True if the start folder passes its group on."""
        return self._passes

    @property
    def umask(self):
        """The umask at the start."""
        return self._umask

    def _told(self):
        """Return what makes two starts equal."""
        return (self._default, self._group, self._passes, self._umask)

    def __eq__(self, other):
        return isinstance(other, Start) and self._told() == other._told()

    def __repr__(self):
        return f"Start({str(self._told())})"


def is_script(value):
    """Return True if any value is a list of steps that can be carried out one after the other."""
    if not is_list(value) or len(value) > MOST_STEPS:
        return False
    kinds = {START_PATH: "folder"}
    for step in value:
        if not _is_step(step) or not _can_follow(kinds, step):
            return False
        _follow(kinds, step)
    return True


def made(script, start, *, first="own"):
    """Return a dict from the paths of what a script makes to tuples (kind, group, access, default, passes)."""
    _check_script(script)
    if not isinstance(start, Start):
        raise InvalidStart(start)
    if not is_name(first):
        raise InvalidName(first)
    return _carried_out(script, start, first)


def alike(one, other):
    """Return None if two scripts make the same for every start, and otherwise a start for which they do not."""
    _check_script(one)
    _check_script(other)
    return _difference(_results(one), _results(other))


def without_effect(script):
    """Return the ascending list of the indexes of the steps that can be left out, each by itself."""
    _check_script(script)
    steps = list(script)
    whole = _results(steps)
    found = []
    for index in range(len(steps)):
        others = steps[:index] + steps[index + 1:]
        if is_script(others) and _difference(whole, _results(others)) is None:
            found.append(index)
    return found


def _check_script(value):
    """Raise an error if this is not a script."""
    if not is_script(value):
        raise InvalidScript(value)


def _is_step(value):
    """Return True if any value has the form of a step."""
    if not isinstance(value, tuple) or len(value) < 2:
        return False
    word, *parts = value
    return isinstance(word, str) and word in STEPS and are_parts(STEPS[word], parts)


def _can_follow(kinds, step):
    """Return True if a step can be carried out where the nodes have these kinds; kinds is a dict from the paths."""
    word, path = step[:2]
    if word == "umask":
        return True
    if word in ("file", "folder"):
        return path not in kinds and kinds.get(above(path)) == "folder"
    if path == START_PATH or path not in kinds:
        return False
    if word in ("default", "passes"):
        return kinds[path] == "folder"
    return word != "remove" or not any([is_below(place, path) for place in kinds])


def _follow(kinds, step):
    """Change the kinds of the nodes as a step does."""
    word, path = step[:2]
    if word in ("file", "folder"):
        kinds[path] = word
    if word == "remove":
        del kinds[path]


def _carried_out(script, start, first):
    """Return what a script makes, as a new dict."""
    nodes = {START_PATH: ("folder", start.group, None, start.default, start.passes)}
    umask = start.umask
    for step in script:
        word, path, *rest = step
        if word == "umask":
            umask = path
        elif word == "remove":
            del nodes[path]
        elif word in ("file", "folder"):
            nodes[path] = _new_node(nodes[above(path)], word, new_list(nodes[above(path)][3], rest[0], umask), first)
        else:
            nodes[path] = _altered(nodes[path], word, rest[0])
    del nodes[START_PATH]
    return nodes


def _new_node(folder, kind, access, first):
    """Return a node with this list, as it is made in a folder by a user with this first group."""
    _, group, _, default, passes = folder
    owned = group if passes else first
    return (kind, owned, access, default, passes) if kind == "folder" else (kind, owned, access, None, False)


def _altered(node, word, value):
    """Return a node with other digits, another list, another default list, or another mark."""
    kind, group, access, default, passes = node
    if word == "digits":
        return (kind, group, access.with_digits(value), default, passes)
    if word == "list":
        return (kind, group, value, default, passes)
    if word == "default":
        return (kind, group, access, value, passes)
    return (kind, group, access, default, value)


def _deciding_starts():
    """Return a list of starts that tell apart all scripts that are not alike.

    Each letter that a script makes is always there, or never, or it is the letter of the same entry of the default
    list, or one that the umask lacks. So lists and umasks with all letters and with none decide. A list with a mask
    keeps its group where one without a mask takes the digits, so it tells apart all that other lists tell apart.
    """
    found = []
    for default in (None, AccessList("", "", "", mask=""), AccessList("rwx", "rwx", "rwx", mask="rwx")):
        for passes in (False, True):
            for umask in ("000", "777"):
                found.append(Start(default=default, passes=passes, umask=umask))
    return found


def _results(script):
    """Return the list of what a script makes for the deciding starts, as tuples (start, dict)."""
    return [(start, _carried_out(script, start, "own")) for start in _deciding_starts()]


def _difference(results, others):
    """Return the first start for which two lists of results differ, or None."""
    for (start, nodes), (_, other_nodes) in zip(results, others):
        if nodes != other_nodes:
            return start
    return None
