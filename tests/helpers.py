"""What several tests need: values of every kind, errors that are caught, and examples that are run."""

from filerights.errors import Denied, InvalidName, NothingToUndo
from filerights.house import House
from filerights.judge import Judge
from filerights.lists import AccessList
from filerights.people import People
from filerights.rights import Rights

SIGNS = [chr(code) for code in range(32, 127) if chr(code) != "%"] + ["\n"]
PEOPLE = People({"zed": ["zoo"]})


def any_values():
    """Return values of every kind that may be passed where any value may be passed, made anew."""
    deep = ["r"]
    for _ in range(19):
        deep = [deep]
    return [
        None, True, False,
        0, 1, 2, 4, 7, 8, -1, 10 ** 29, -(10 ** 29),
        "", " ", "\n", "-", "0", "7", "07", "755", "0755", "r", "rw", "xwr", "rr", "r-x", "a", "ann", "root", "Ann",
        "ann\n", " ann", "abcdefgh", "abcdefghi", "/", "/home", "/home/ann", "/home/", "//", "a b", "owner", "user",
        "u::rwx,g::r-x,o::---", "x" * 200, "x" * 4000,
        [], ["a"], [""], ["/home"], [0, 1], deep, ["r"] * 700,
        (), ("a",), ("r", "w"), ("owner", ""), (None, [], {}),
        {}, {"ann": "r"}, {1: "r"}, {"users": {"ann": ["r"]}}, {str(key): key for key in range(700)},
        Rights(), Rights("r"), Rights("rwx"), [Rights("r")], {"ann": Rights("r")},
        AccessList("rwx", "rx", ""), AccessList("rw", "r", "", users={"ann": "rw"}),
        PEOPLE, House(PEOPLE), House(PEOPLE)["/"], [House(PEOPLE)], Judge(PEOPLE),
        InvalidName("root"), Denied("/tmp", "wx"), NothingToUndo(),
    ]


def raised(call, *parts, **named):
    """Return the error that a call raises."""
    try:
        result = call(*parts, **named)
    except Exception as error:
        return error
    raise AssertionError(f"no error, but {result!r}")


def shown(text, names):
    """Run the examples of a text and return what each shows, beside what it is to show."""
    rows, lines = [], text.strip().split("\n")
    for at, line in enumerate(lines):
        line = line.strip()
        if not line.startswith(">>> "):
            continue
        told = [after.strip() for after in lines[at + 1:at + 2] if not after.strip().startswith(">>> ")]
        rows.append((_answer(line[4:], names), told[0] if told else "None"))
    return rows


def _answer(line, names):
    """Return what an interpreter would show for a line, or the exception that it raises."""
    try:
        code = compile(line, "example", "eval")
    except SyntaxError:
        exec(compile(line, "example", "exec"), names)
        return "None"
    try:
        return repr(eval(code, names))
    except (ValueError, KeyError, LookupError) as error:
        fields = ", ".join([repr(value) for value in vars(error).values()])
        return f"raises {error.__class__.__name__}({fields})"
