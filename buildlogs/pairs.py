"""The calls that compare two sound logs, the first and the second."""

from buildlogs.comparing import EXIT, OUTPUT, chain_names, difference_named, find_differences, root_names
from buildlogs.records import find_record
from buildlogs.refusals import ABSENT, ALIKE, NAME
from buildlogs.texts import codes, counted_lines, is_name

UNLIKE = 7
FIRST = 8
ROOTS = 9
WHY = 10

# Each way of being unlike, at the place of its number.
WAYS = ("", "only first", "only second", "defined", "input", "output", "exit")


def answer_unlike(differences):
    rows = []
    for difference in differences:
        way = WAYS[difference.way]
        rows.append(difference.name + codes(f": {way}"))
    return counted_lines(rows)


def answer_first(differences):
    if len(differences) == 0:
        return [0]
    difference = differences[0]
    answered = [difference.way, len(difference.name)] + list(difference.name)
    if len(difference.changed) > 0:
        answered.extend(difference.changed[0])
    return answered


def answer_why(differences, first, second, name):
    if not is_name(name):
        return [NAME]
    if find_record(first, name) is None and find_record(second, name) is None:
        return [ABSENT]
    difference = difference_named(differences, name)
    if difference is None:
        return [ALIKE]
    return counted_lines(chain_names(difference, differences, first))


def answer_steady(differences):
    unsteady = [difference for difference in differences if difference.way == OUTPUT or difference.way == EXIT]
    return [1 if len(unsteady) == 0 else 0]


def answer_of_pair(call, first, second, text):
    differences = find_differences(first, second)
    if call == UNLIKE:
        return answer_unlike(differences)
    if call == FIRST:
        return answer_first(differences)
    if call == ROOTS:
        return counted_lines(root_names(differences, first))
    if call == WHY:
        return answer_why(differences, first, second, text)
    # The one call that is left is 11, steady.
    return answer_steady(differences)
