"""The order in which a log is written out when it's sorted by what rests on what, and by names."""

from buildlogs.files import find_maker


# The names of the actions that must stand ahead of the record.
def makers_of_inputs(records, record):
    makers = [find_maker(records, file.name) for file in record.inputs]
    return [maker.name for maker in makers if maker is not None]


def is_ready(records, record, standing):
    return all([name in standing for name in makers_of_inputs(records, record)])


# In a sound log there is always one that is ready: the first in the log that doesn't stand yet.
def sorted_records(records):
    placed = []
    standing = {}
    while len(placed) < len(records):
        waiting = [record for record in records if record.name not in standing]
        ready = [record for record in waiting if is_ready(records, record, standing)]
        smallest = min(ready, key=lambda record: record.name)
        placed.append(smallest)
        standing[smallest.name] = True
    return placed
