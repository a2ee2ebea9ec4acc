"""Lines: contents, marks, access lists and deeds as words of a line."""

from filerights.deeds import PARTS, is_deed
from filerights.errors import InvalidText
from filerights.lists import AccessList
from filerights.words import split_words

NO_LIST = "none"
STICKY_SIGNS = {True: "s", False: "-"}
PASSES_SIGNS = {True: "p", False: "-"}
MARKS = {"--": (False, False), "s-": (True, False), "-p": (False, True), "sp": (True, True)}


def written(content):
    """Return the written content: an equals sign and the content, in one line."""
    return "=" + content.replace("\\", "\\\\").replace("\n", "\\n")


def read_content(text):
    """Return the content that a text is the written content of, or None if it is none."""
    if not text.startswith("=") or "\n" in text:
        return None
    # Between two pairs of backslashes, each that is left begins a line feed.
    parts = [part.replace("\\n", "\n") for part in text[1:].split("\\\\")]
    return None if any(["\\" in part for part in parts]) else "\\".join(parts)


def marks_text(sticky, passes):
    """Return the two characters for the marks of a folder."""
    return STICKY_SIGNS[sticky] + PASSES_SIGNS[passes]


def read_list(text):
    """Return the access list whose text this is, or None if it is none."""
    try:
        return AccessList.from_text(text)
    except InvalidText:
        return None


def default_text(access):
    """Return the word for a default list, or for none."""
    return NO_LIST if access is None else str(access)


def deed_line(deed):
    """Return the line of a deed."""
    user, word, *parts = deed
    if word == "mark":
        path, sticky, passes = parts
        words = [path, marks_text(sticky, passes)]
    else:
        words = [_part_text(kind, part) for kind, part in zip(PARTS[word], parts)]
    return " ".join([user, word] + words)


def _part_text(kind, part):
    """Return the word, or at the end of a line the words, for a part of a deed."""
    if kind == "content":
        return written(part)
    if kind in ("access", "default"):
        return default_text(part)
    return part


def read_deed(line):
    """Return the deed whose line this is, or None if it is none."""
    pieces = line.split(" ", 3)
    if len(pieces) == 4 and pieces[1] == "write":
        return _deed_or_none((pieces[0], "write", pieces[2], read_content(pieces[3])))
    words = split_words(line)
    if words is None or len(words) < 3 or words[1] not in PARTS:
        return None
    user, word, *told = words
    kinds = PARTS[word]
    if word == "mark":
        parts = told[:-1] + list(MARKS.get(told[-1], ()))
    elif len(kinds) == len(told):
        parts = [_part_of(kind, text) for kind, text in zip(kinds, told)]
    else:
        return None
    return _deed_or_none(tuple([user, word] + parts))


def _part_of(kind, text):
    """Return the part of a deed for which a word stands, or what cannot stand there."""
    if kind == "access":
        return read_list(text)
    if kind == "default" and text != NO_LIST:
        access = read_list(text)
        return text if access is None else access
    return None if kind == "default" else text


def _deed_or_none(value):
    """Return a tuple if it is a deed, and None otherwise."""
    return value if is_deed(value) else None
