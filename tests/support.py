"""How the tests write calls and logs, and take answers apart."""

from buildlogs.logs import answers

SLOT = [-1]
NONE = [-2]
LONG = [-3]
FORM = [-4]
LIMIT = [-5]
FAULTY = [-6]
NAME = [-7]
ABSENT = [-8]
ALIKE = [-9]

EMPTY = "end 0;"
HUGE = 10 ** 18

# The document's example: its log 0, its log 1, and what log 1 would be "if in log 1 s were 1 and o 6".
EXAMPLE = (
    "run c { tool cc; in s 1; out o 5; exit 0; }"
    "run l { tool ld; in o 5; out p 9; exit 0; }"
    "end 2;"
)
OTHER_EXAMPLE = (
    "run c { tool cc; in s 2; out o 6; exit 0; }"
    "run l { tool ld; in o 6; out p 8; exit 0; }"
    "end 2;"
)
UNSTEADY_EXAMPLE = OTHER_EXAMPLE.replace("s 2", "s 1")

# It has two faults (5 of a, 6): stats and plain answer it, the calls from made on don't.
FAULTY_LOG = "run a { tool t; in x 1; exit 0; } run b { tool t; out x 1; exit 0; } end 7;"


def raw(text):
    """The bytes of a text, each told by the character of that number."""
    return [ord(sign) for sign in text]


def row(text):
    return [len(text)] + raw(text)


def read(k, text):
    return [0, k] + row(text)


def where(text):
    return [1] + row(text)


def plain(k):
    return [2, k]


def fault(k):
    return [3, k]


def stats(k):
    return [4, k]


def made(k, file):
    return [5, k] + row(file)


def rests(k, file):
    return [6, k] + row(file)


def unlike(j, k):
    return [7, j, k]


def first(j, k):
    return [8, j, k]


def roots(j, k):
    return [9, j, k]


def why(j, k, name):
    return [10, j, k] + row(name)


def steady(j, k):
    return [11, j, k]


def in_order(k):
    """The call that the document calls sorted."""
    return [12, k]


def drop(k, name):
    return [13, k] + row(name)


def lines(*names):
    """How many there are, and these in lines."""
    return [len(names)] + raw("".join(name + "\n" for name in names))


def ask(*calls):
    """The answers to these calls on one new object, a list each."""
    given = answers([number for call in calls for number in call])
    parts = []
    place = 0
    while place < len(given):
        end = place + 1 + given[place]
        parts.append(given[place + 1:end])
        place = end
    if place != len(given):
        raise AssertionError(f"the counts don't fit the answers: {given}")
    return parts


def ask_last(*calls):
    return ask(*calls)[-1]


def compare(first_text, second_text, call, *more):
    """What this call answers of these two logs."""
    return ask_last(read(0, first_text), read(1, second_text), call(0, 1, *more))


def record(name, rows="", way="run", tool="t", status=0):
    return f"{way} {name} {{ tool {tool}; {rows} exit {status}; }}\n"


def log(*records, total=None):
    """A log of these records; the number behind end is how many they are, unless it's told."""
    return "".join(records) + f"end {len(records) if total is None else total};"
