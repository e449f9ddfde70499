"""The comparison of two logs: which actions are unlike, in which way, and where that began.

Both logs are sound here, so an action's name tells its one record in a log.
"""

from buildlogs.files import find_maker
from buildlogs.records import find_record

ONLY_FIRST = 1
ONLY_SECOND = 2
DEFINED = 3
INPUT = 4
OUTPUT = 5
EXIT = 6


# An action that is unlike. changed holds, in order, the names of its files with another number: of its inputs if the
# way is INPUT, of its outputs if it is OUTPUT. For the other ways it is empty, as no file is told for these.
class Difference:
    def __init__(self, name, way, changed):
        self.name = name
        self.way = way
        self.changed = changed


def names_of(files):
    return [file.name for file in files]


# Only records with the same names in the same order come this far, so a place tells the same file in both.
def changed_names(files, others):
    return [files[i].name for i in range(len(files)) if files[i].number != others[i].number]


def is_defined_alike(record, other):
    return (
        record.tool == other.tool
        and record.arguments == other.arguments
        and names_of(record.inputs) == names_of(other.inputs)
        and names_of(record.outputs) == names_of(other.outputs)
    )


# None if the two are alike. EXIT is looked at before OUTPUT, though its number is the larger one.
def compare_records(record, other):
    if not is_defined_alike(record, other):
        return Difference(record.name, DEFINED, [])
    inputs = changed_names(record.inputs, other.inputs)
    if len(inputs) > 0:
        return Difference(record.name, INPUT, inputs)
    if record.status != other.status:
        return Difference(record.name, EXIT, [])
    outputs = changed_names(record.outputs, other.outputs)
    if len(outputs) > 0:
        return Difference(record.name, OUTPUT, outputs)
    return None


def compare_with_second(record, second):
    other = find_record(second, record.name)
    if other is None:
        return Difference(record.name, ONLY_FIRST, [])
    return compare_records(record, other)


def find_differences(first, second):
    compared = [compare_with_second(record, second) for record in first]
    found = [difference for difference in compared if difference is not None]
    for record in second:
        if find_record(first, record.name) is None:
            found.append(Difference(record.name, ONLY_SECOND, []))
    return found


# None if the action is alike, or in neither log.
def difference_named(differences, name):
    for difference in differences:
        if difference.name == name:
            return difference
    return None


# None if the file is a source of the first log, or its maker there is alike.
def unlike_maker(differences, first, file_name):
    maker = find_maker(first, file_name)
    if maker is None:
        return None
    return difference_named(differences, maker.name)


def is_root(difference, differences, first):
    if difference.way != INPUT:
        return True
    return any([unlike_maker(differences, first, name) is None for name in difference.changed])


def root_names(differences, first):
    return [difference.name for difference in differences if is_root(difference, differences, first)]


# None where a chain ends.
def next_cause(difference, differences, first):
    if difference.way == INPUT:
        for name in difference.changed:
            maker = unlike_maker(differences, first, name)
            if maker is not None:
                return maker
    return None


# This ends: in a sound log what makes an input stands before the record that has it.
def chain_names(difference, differences, first):
    names = []
    step = difference
    while step is not None:
        names.append(step.name)
        step = next_cause(step, differences, first)
    return names
