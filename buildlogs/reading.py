"""Reading a log from a text."""

from buildlogs.records import File, Log, Record
from buildlogs.refusals import FORM, LIMIT, LONG
from buildlogs.tokens import scan

LONGEST_TEXT = 4096
LARGEST_NUMBER = 1000000000
MOST_RECORDS = 32
MOST_ROWS = 8

# Nothing nests in a log, so its form is told by steps alone: a state and the kind of the next token give the next
# state. A pair that is missing is a token that can't stand there; "over" may stand only where the log is whole.
STEPS = {
    ("log", "run"): "record", ("log", "kept"): "record", ("log", "end"): "end",
    ("record", "name"): "record name", ("record name", "{"): "record {",
    ("record {", "tool"): "tool", ("tool", "name"): "tool name", ("tool name", ";"): "arguments",
    ("arguments", "arg"): "arg", ("arg", "name"): "arg name", ("arg name", ";"): "arguments",
    ("arguments", "in"): "in", ("arguments", "out"): "out", ("arguments", "exit"): "exit",
    ("in", "name"): "in name", ("in name", "number"): "in number", ("in number", ";"): "inputs",
    ("inputs", "in"): "in", ("inputs", "out"): "out", ("inputs", "exit"): "exit",
    ("out", "name"): "out name", ("out name", "number"): "out number", ("out number", ";"): "outputs",
    ("outputs", "out"): "out", ("outputs", "exit"): "exit",
    ("exit", "number"): "exit number", ("exit number", ";"): "exit ;", ("exit ;", "}"): "log",
    ("end", "number"): "end number", ("end number", ";"): "end ;", ("end ;", "over"): "whole",
}


# read and where need the same reading: refusal is 0 if there is a log, place is other than 0 for FORM alone.
class Reading:
    def __init__(self, refusal, place, log):
        self.refusal = refusal
        self.place = place
        self.log = log


# -1 if the tokens are a log, since 0 is a place.
def misplaced(tokens):
    state = "log"
    for token in tokens:
        step = (state, token.kind)
        if step not in STEPS:
            return token.place
        state = STEPS[step]
    return -1


def number_of(token):
    # No number begins with 0 but 0 itself, so more digits tell one above the limit; how far above is never asked.
    if len(token.spelled) > len(str(LARGEST_NUMBER)):
        return LARGEST_NUMBER + 1
    value = 0
    for byte in token.spelled:
        value = value * 10 + byte - ord("0")
    return value


# Token i tells what the one or two behind it mean; a token that tells nothing of that sort is passed over.
def fill(record, tokens, i):
    kind = tokens[i].kind
    if kind == "tool":
        record.tool = tokens[i + 1].spelled
    elif kind == "arg":
        record.arguments.append(tokens[i + 1].spelled)
    elif kind == "in":
        record.inputs.append(File(tokens[i + 1].spelled, number_of(tokens[i + 2])))
    elif kind == "out":
        record.outputs.append(File(tokens[i + 1].spelled, number_of(tokens[i + 2])))
    elif kind == "exit":
        record.status = number_of(tokens[i + 1])


# Nothing is checked here: only tokens that have the form of a log come this far.
def build(tokens):
    records = []
    total = 0
    for i in range(len(tokens)):
        kind = tokens[i].kind
        if kind == "run" or kind == "kept":
            records.append(Record(kind, tokens[i + 1].spelled))
        elif kind == "end":
            total = number_of(tokens[i + 1])
        elif len(records) > 0:
            # Without records there are still the tokens behind end, and those tell nothing of a record.
            fill(records[-1], tokens, i)
    return Log(records, total)


def record_above_limits(record):
    if len(record.arguments) > MOST_ROWS or len(record.inputs) > MOST_ROWS or len(record.outputs) > MOST_ROWS:
        return True
    numbers = [file.number for file in record.inputs + record.outputs]
    return max(numbers + [record.status]) > LARGEST_NUMBER


def above_limits(log):
    if len(log.records) > MOST_RECORDS or log.total > LARGEST_NUMBER:
        return True
    return any([record_above_limits(record) for record in log.records])


def read_log(text):
    if len(text) > LONGEST_TEXT:
        return Reading(LONG, 0, None)
    tokens = scan(text)
    place = misplaced(tokens)
    if place >= 0:
        return Reading(FORM, place, None)
    log = build(tokens)
    if above_limits(log):
        return Reading(LIMIT, 0, None)
    return Reading(0, 0, log)
