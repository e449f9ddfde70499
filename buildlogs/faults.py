"""The faults of a log."""

SAME_ACTION = 1
FILE_TWICE = 2
MADE_BEFORE = 3
OTHER_NUMBER = 4
MADE_LATER = 5
WRONG_TOTAL = 6


def outputs_of(records):
    names = {}
    for record in records:
        for file in record.outputs:
            names[file.name] = True
    return names


# One number for each file is enough: these records are without fault, so none gives a file another number.
def numbers_of(records):
    numbers = {}
    for record in records:
        for file in record.inputs + record.outputs:
            numbers[file.name] = file.number
    return numbers


# 0 if record i has no fault. It is asked only while the records before it have none.
def record_fault(records, i):
    record = records[i]
    earlier = records[:i]
    files = record.inputs + record.outputs
    if any([other.name == record.name for other in earlier]):
        return SAME_ACTION
    if len(set([file.name for file in files])) < len(files):
        return FILE_TWICE
    made = outputs_of(earlier)
    if any([file.name in made for file in record.outputs]):
        return MADE_BEFORE
    numbers = numbers_of(earlier)
    if any([numbers.get(file.name, file.number) != file.number for file in files]):
        return OTHER_NUMBER
    to_come = outputs_of(records[i + 1:])
    if any([file.name in to_come and file.name not in made for file in record.inputs]):
        return MADE_LATER
    return 0


# In the form in which it is answered, as only the last fault is of no action.
def first_fault(log):
    records = log.records
    for i in range(len(records)):
        number = record_fault(records, i)
        if number > 0:
            return [number] + list(records[i].name)
    if log.total != len(records):
        return [WRONG_TOTAL]
    return [0]


def is_sound(log):
    return first_fault(log) == [0]
