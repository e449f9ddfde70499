"""The calls on an object that holds four logs."""

from buildlogs.faults import first_fault, is_sound
from buildlogs.files import count_sources, find_file, find_maker, sources_below
from buildlogs.ordering import sorted_records
from buildlogs.pairs import answer_of_pair
from buildlogs.plaintext import plain_text
from buildlogs.reading import read_log
from buildlogs.records import Log, find_record
from buildlogs.refusals import ABSENT, FAULTY, NAME, NONE, SLOT
from buildlogs.texts import counted_lines, is_name

READ = 0
WHERE = 1
PLAIN = 2
FAULT = 3
STATS = 4
MADE = 5
SORTED = 12
DROP = 13

# For each call by its number: how many whole numbers it has, and whether a text is behind these.
NUMBERS = (1, 0, 1, 1, 1, 1, 1, 2, 2, 2, 2, 2, 1, 1)
HAS_TEXT = (True, True, False, False, False, True, True, False, False, False, True, False, False, True)


def is_slot(k):
    return 0 <= k <= 3


# One kind after another, each of all the logs that are told: a second one's SLOT comes before the first one's NONE.
def logs_refusal(call, slots, numbers):
    if not all([is_slot(k) for k in numbers]):
        return SLOT
    if any([slots[k] is None for k in numbers]):
        return NONE
    if call >= MADE and not all([is_sound(slots[k]) for k in numbers]):
        return FAULTY
    return 0


def file_refusal(log, name):
    if not is_name(name):
        return NAME
    if find_file(log.records, name) is None:
        return ABSENT
    return 0


def answer_read(slots, k, text):
    if not is_slot(k):
        return [SLOT]
    reading = read_log(text)
    if reading.refusal != 0:
        return [reading.refusal]
    slots[k] = reading.log
    return [len(reading.log.records)]


# LONG, FORM and LIMIT are told by 3, 4 and 5: the refusals' own numbers without the sign.
def answer_where(text):
    reading = read_log(text)
    return [-reading.refusal, reading.place]


def answer_plain(log):
    return [0] + plain_text(log)


def answer_stats(log):
    records = log.records
    run = len([record for record in records if record.way == "run"])
    failed = len([record for record in records if record.status != 0])
    return [len(records), run, len(records) - run, failed, count_sources(records)]


def answer_made(log, name):
    file = find_file(log.records, name)
    maker = find_maker(log.records, name)
    if maker is None:
        return [1, file.number]
    return [0, file.number] + list(maker.name)


def answer_rests(log, name):
    return counted_lines(sources_below(log.records, name))


def answer_of_file(call, log, name):
    refusal = file_refusal(log, name)
    if refusal != 0:
        return [refusal]
    if call == MADE:
        return answer_made(log, name)
    # The one call that is left is 6, rests.
    return answer_rests(log, name)


def answer_sorted(log):
    return [0] + plain_text(Log(sorted_records(log.records), log.total))


def answer_drop(slots, k, name):
    if not is_name(name):
        return [NAME]
    records = slots[k].records
    if find_record(records, name) is None:
        return [ABSENT]
    left = [record for record in records if record.name != name]
    slots[k] = Log(left, len(left))
    return [len(left)]


def answer_of_log(call, log, text):
    if call == PLAIN:
        return answer_plain(log)
    if call == FAULT:
        return first_fault(log)
    if call == STATS:
        return answer_stats(log)
    if call == SORTED:
        return answer_sorted(log)
    return answer_of_file(call, log, text)


def answer(call, slots, numbers, text):
    if call == WHERE:
        return answer_where(text)
    if call == READ:
        return answer_read(slots, numbers[0], text)
    refusal = logs_refusal(call, slots, numbers)
    if refusal != 0:
        return [refusal]
    if call == DROP:
        return answer_drop(slots, numbers[0], text)
    if len(numbers) == 2:
        return answer_of_pair(call, slots[numbers[0]].records, slots[numbers[1]].records, text)
    return answer_of_log(call, slots[numbers[0]], text)


def answers(calls):
    slots = [None, None, None, None]
    given = []
    place = 0
    while place < len(calls):
        call = calls[place]
        start = place + 1
        place = start + NUMBERS[call]
        numbers = calls[start:place]
        text = ()
        if HAS_TEXT[call]:
            start = place + 1
            place = start + calls[place]
            text = tuple(calls[start:place])
        answered = answer(call, slots, numbers, text)
        given.append(len(answered))
        given.extend(answered)
    return given
