"""How the tests write calls and logs, and take answers apart."""

from buildlogs.logs import answers

SLOT = [-1]
NONE = [-2]
LONG = [-3]
FORM = [-4]
LIMIT = [-5]
FAULTY = [-6]
NAME = [-7]
ABSENT = [-8]

EMPTY = "end 0;"
HUGE = 10 ** 18

# The document's example.
EXAMPLE = (
    "run c { tool cc; in s 1; out o 5; exit 0; }"
    "run l { tool ld; in o 5; out p 9; exit 0; }"
    "end 2;"
)

# It has two faults (5 of a, 6): stats and plain answer it, made and rests don't.
FAULTY_LOG = "run a { tool t; in x 1; exit 0; } run b { tool t; out x 1; exit 0; } end 7;"


def raw(text):
    """The bytes of a text, each told by the character of that number."""
    return [ord(sign) for sign in text]


def row(text):
    return [len(text)] + raw(text)


def read(k, text):
    return [0, k] + row(text)


def where(text):
    return [1] + row(text)


def plain(k):
    return [2, k]


def fault(k):
    return [3, k]


def stats(k):
    return [4, k]


def made(k, file):
    return [5, k] + row(file)


def rests(k, file):
    return [6, k] + row(file)


def ask(*calls):
    """The answers to these calls on one new object, a list each."""
    given = answers([number for call in calls for number in call])
    parts = []
    place = 0
    while place < len(given):
        end = place + 1 + given[place]
        parts.append(given[place + 1:end])
        place = end
    if place != len(given):
        raise AssertionError(f"the counts don't fit the answers: {given}")
    return parts


def ask_last(*calls):
    return ask(*calls)[-1]


def record(name, rows="", way="run", tool="t", status=0):
    return f"{way} {name} {{ tool {tool}; {rows} exit {status}; }}\n"


def log(*records, total=None):
    """A log of these records; the number behind end is how many they are, unless it's told."""
    return "".join(records) + f"end {len(records) if total is None else total};"
