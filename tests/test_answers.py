"""The interface: how calls are handed in, and how answers are given back."""

import unittest

from buildlogs.logs import answers
from tests.support import (
    EMPTY, EXAMPLE, FAULTY_LOG, NONE, SLOT, ask, fault, log, made, plain, raw, read, record, rests, stats, where,
)


class Answers(unittest.TestCase):
    def test_each_answer_has_its_count_ahead(self):
        calls = (
            read(0, EXAMPLE) + where("?") + fault(0) + stats(0) + made(0, "o") + made(0, "s") + rests(0, "p")
            + read(1, EMPTY) + plain(1) + plain(2)
        )
        self.assertEqual(
            answers(calls),
            [1, 2]
            + [2, 4, 0]
            + [1, 0]
            + [5, 2, 2, 0, 0, 1]
            + [3, 0, 5, ord("c")]
            + [2, 1, 1]
            + [3, 1, ord("s"), 10]
            + [1, 0]
            + [8, 0] + raw("end 0;\n")
            + [1, -2],
        )

    def test_call_numbers_are_places_in_the_interface(self):
        self.assertEqual(answers([0, 3, 6] + raw(EMPTY)), [1, 0])
        self.assertEqual(answers([1, 6] + raw(EMPTY)), [2, 0, 0])
        for number in (2, 3, 4):
            self.assertEqual(answers([number, 3]), [1, -2])
        for number in (5, 6):
            self.assertEqual(answers([number, 3, 1, 97]), [1, -2])

    def test_calls_on_one_object_see_what_earlier_calls_left(self):
        self.assertEqual(
            ask(fault(0), read(0, FAULTY_LOG), fault(0), read(0, EXAMPLE), fault(0), read(0, EMPTY), stats(0)),
            [NONE, [2], [5, ord("a")], [2], [0], [0], [0, 0, 0, 0, 0]],
        )

    def test_four_logs_stand_beside_one_another(self):
        names = ("a", "b", "c", "d")
        reads = [read(k, log(*[record(name) for name in names[:k + 1]])) for k in range(4)]
        counts = [stats(k) for k in range(4)]
        self.assertEqual(
            ask(*reads, *counts),
            [[1], [2], [3], [4]] + [[k + 1, k + 1, 0, 0, 0] for k in range(4)],
        )

    def test_all_eighty_calls_are_answered(self):
        self.assertEqual(ask(*[read(k % 4, EMPTY) for k in range(80)]), [[0]] * 80)

    def test_rows_may_be_empty(self):
        self.assertEqual(ask(where(""), read(0, ""), read(0, EXAMPLE), made(0, ""), stats(1)),
                         [[4, 0], [-4], [2], [-7], NONE])

    def test_what_is_handed_in_stays_as_it_was(self):
        calls = (
            read(0, EXAMPLE) + plain(0) + fault(0) + stats(0) + made(0, "p") + rests(0, "p")
            + where("?") + read(9, EXAMPLE) + read(0, "x") + read(0, EMPTY)
        )
        before = list(calls)
        answers(calls)
        self.assertEqual(calls, before)

    def test_nothing_is_kept_from_one_time_to_the_next(self):
        self.assertEqual(ask(read(0, EXAMPLE), stats(0)), [[2], [2, 2, 0, 0, 1]])
        self.assertEqual(ask(stats(0)), [NONE])
        self.assertEqual(ask(read(0, EXAMPLE), stats(0)), [[2], [2, 2, 0, 0, 1]])

    def test_answers_are_lists_of_whole_numbers(self):
        given = answers(
            read(0, EXAMPLE) + plain(0) + fault(0) + stats(0) + made(0, "p") + made(0, "s") + rests(0, "p")
            + where(EMPTY) + where("x") + stats(4)
        )
        self.assertIs(type(given), list)
        self.assertEqual({type(number) for number in given}, {int})
        first = answers(fault(0))
        first.append(5)
        self.assertEqual(answers(fault(0)), [1, -2])

    def test_a_long_call_list_is_answered(self):
        text = EMPTY + " " * 4000
        self.assertEqual(ask(*[read(k, text) for k in range(4)], stats(3)), [[0]] * 4 + [[0, 0, 0, 0, 0]])
        self.assertEqual(ask(where("x" * 10000), read(0, "#" * 5000)), [[3, 0], [-3]])

    def test_slot_before_none(self):
        for call in (plain, fault, stats):
            self.assertEqual(ask(call(-1), call(4), call(0), call(3)), [SLOT, SLOT, NONE, NONE])


if __name__ == "__main__":
    unittest.main()
