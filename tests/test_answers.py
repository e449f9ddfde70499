"""The interface: how calls are handed in, and how answers are given back."""

import unittest

from buildlogs.logs import answers
from tests.support import (
    ABSENT, ALIKE, EMPTY, EXAMPLE, FAULTY, FAULTY_LOG, NAME, NONE, OTHER_EXAMPLE, SLOT, ask, drop, fault, first,
    in_order, lines, log, made, plain, raw, read, record, rests, roots, stats, steady, unlike, where, why,
)

PLAIN_EXAMPLE = (
    "run c {\n  tool cc;\n  in s 1;\n  out o 5;\n  exit 0;\n}\n"
    "run l {\n  tool ld;\n  in o 5;\n  out p 9;\n  exit 0;\n}\n"
    "end 2;\n"
)

# All fourteen calls, and what each of them answers.
MIXED = (
    (unlike(0, 1), NONE),
    (read(0, EXAMPLE), [2]),
    (steady(0, 1), NONE),
    (read(1, OTHER_EXAMPLE), [2]),
    (unlike(0, 1), lines("c: input", "l: input")),
    (where("end x"), [4, 4]),
    (first(0, 1), [4, 1] + raw("cs")),
    (roots(0, 1), lines("c")),
    (why(0, 1, "l"), lines("l", "c")),
    (made(0, "o"), [0, 5, ord("c")]),
    (why(0, 1, "o"), ABSENT),
    (steady(0, 1), [1]),
    (in_order(0), [0] + raw(PLAIN_EXAMPLE)),
    (drop(0, "run"), NAME),
    (plain(0), [0] + raw(PLAIN_EXAMPLE)),
    (rests(0, "p"), lines("s")),
    (drop(0, "c"), [1]),
    (made(0, "o"), [1, 5]),
    (rests(0, "p"), lines("o")),
    (stats(0), [1, 1, 0, 0, 1]),
    (unlike(0, 1), lines("l: input", "c: only second")),
    (first(0, 1), [4, 1] + raw("lo")),
    (roots(0, 1), lines("l", "c")),
    (why(0, 1, "l"), lines("l")),
    (why(1, 0, "l"), lines("l", "c")),
    (read(2, FAULTY_LOG), [2]),
    (fault(2), [5, ord("a")]),
    (drop(2, "a"), FAULTY),
    (roots(2, 4), SLOT),
    (why(1, 1, "c"), ALIKE),
    (fault(0), [0]),
    (drop(0, "l"), [0]),
    (plain(0), [0] + raw("end 0;\n")),
    (first(0, 1), [2, 1] + raw("c")),
    (in_order(0), [0] + raw("end 0;\n")),
)


class Answers(unittest.TestCase):
    def test_each_answer_has_its_count_ahead(self):
        calls = (
            read(0, EXAMPLE) + where("?") + fault(0) + stats(0) + made(0, "o") + made(0, "s") + rests(0, "p")
            + read(1, EMPTY) + plain(1) + plain(2)
        )
        self.assertEqual(
            answers(calls),
            [1, 2]
            + [2, 4, 0]
            + [1, 0]
            + [5, 2, 2, 0, 0, 1]
            + [3, 0, 5, ord("c")]
            + [2, 1, 1]
            + [3, 1, ord("s"), 10]
            + [1, 0]
            + [8, 0] + raw("end 0;\n")
            + [1, -2],
        )

    def test_call_numbers_are_places_in_the_interface(self):
        self.assertEqual(answers([0, 3, 6] + raw(EMPTY)), [1, 0])
        self.assertEqual(answers([1, 6] + raw(EMPTY)), [2, 0, 0])
        for number in (2, 3, 4):
            self.assertEqual(answers([number, 3]), [1, -2])
        for number in (5, 6, 13):
            self.assertEqual(answers([number, 3, 1, 97]), [1, -2])
        for number in (7, 8, 9, 11):
            self.assertEqual(answers([number, 3, 3]), [1, -2])
        self.assertEqual(answers([10, 3, 3, 1, 97]), [1, -2])
        self.assertEqual(answers([12, 3]), [1, -2])

    def test_each_call_of_two_logs_by_its_number(self):
        one = raw("run a { tool t; exit 0; } end 1;")
        other = raw("run a { tool t; exit 1; } end 1;")
        reads = [0, 0, len(one)] + one + [0, 1, len(other)] + other
        for call, answer in (
            ([7, 0, 1], [1] + raw("a: exit\n")),
            ([8, 0, 1], [6, 1, 97]),
            ([9, 0, 1], [1, 97, 10]),
            ([10, 0, 1, 1, 97], [1, 97, 10]),
            ([11, 0, 1], [0]),
            ([12, 1], [0] + raw("run a {\n  tool t;\n  exit 1;\n}\nend 1;\n")),
            ([13, 1, 1, 97], [0]),
        ):
            self.assertEqual(answers(reads + call), [1, 1, 1, 1, len(answer)] + answer)

    def test_all_fourteen_calls_mixed(self):
        self.assertEqual({call[0] for call, answer in MIXED}, set(range(14)))
        for i in range(len(MIXED)):
            calls = [call for call, answer in MIXED[:i + 1]]
            self.assertEqual(ask(*calls), [answer for call, answer in MIXED[:i + 1]])

    def test_a_mixed_list_is_unchanged_and_answered_the_same_again(self):
        calls = [number for call, answer in MIXED for number in call]
        before = list(calls)
        given = answers(calls)
        self.assertEqual(calls, before)
        self.assertEqual(answers(calls), given)
        self.assertEqual(answers(list(before)), given)
        self.assertIs(type(given), list)
        self.assertEqual({type(number) for number in given}, {int})
        self.assertEqual({type(number) for number in calls}, {int})

    def test_the_largest_list_of_calls(self):
        one = log(*[record(f"a{i}", f"in s{i} 1; out f{i} 1;") for i in range(32)])
        other = one.replace(" 1;", " 2;")
        comparisons = [unlike(0, 1), first(0, 1), roots(0, 1), why(0, 1, "a31"), steady(0, 1), in_order(0)] * 13
        given = ask(read(0, one), read(1, other), *comparisons)
        self.assertEqual(len(given), 80)
        self.assertEqual(given[2:8] * 13, given[2:])
        self.assertEqual([answer[0] for answer in given[2:8]], [32, 4, 32, 1, 1, 0])

    def test_calls_on_one_object_see_what_earlier_calls_left(self):
        self.assertEqual(
            ask(fault(0), read(0, FAULTY_LOG), fault(0), read(0, EXAMPLE), fault(0), read(0, EMPTY), stats(0)),
            [NONE, [2], [5, ord("a")], [2], [0], [0], [0, 0, 0, 0, 0]],
        )

    def test_four_logs_stand_beside_one_another(self):
        names = ("a", "b", "c", "d")
        reads = [read(k, log(*[record(name) for name in names[:k + 1]])) for k in range(4)]
        counts = [stats(k) for k in range(4)]
        self.assertEqual(
            ask(*reads, *counts),
            [[1], [2], [3], [4]] + [[k + 1, k + 1, 0, 0, 0] for k in range(4)],
        )

    def test_all_eighty_calls_are_answered(self):
        self.assertEqual(ask(*[read(k % 4, EMPTY) for k in range(80)]), [[0]] * 80)

    def test_rows_may_be_empty(self):
        self.assertEqual(ask(where(""), read(0, ""), read(0, EXAMPLE), made(0, ""), stats(1)),
                         [[4, 0], [-4], [2], [-7], NONE])

    def test_what_is_handed_in_stays_as_it_was(self):
        calls = (
            read(0, EXAMPLE) + plain(0) + fault(0) + stats(0) + made(0, "p") + rests(0, "p")
            + where("?") + read(9, EXAMPLE) + read(0, "x") + read(0, EMPTY)
        )
        before = list(calls)
        answers(calls)
        self.assertEqual(calls, before)

    def test_nothing_is_kept_from_one_time_to_the_next(self):
        self.assertEqual(ask(read(0, EXAMPLE), stats(0)), [[2], [2, 2, 0, 0, 1]])
        self.assertEqual(ask(stats(0)), [NONE])
        self.assertEqual(ask(read(0, EXAMPLE), stats(0)), [[2], [2, 2, 0, 0, 1]])

    def test_answers_are_lists_of_whole_numbers(self):
        given = answers(
            read(0, EXAMPLE) + plain(0) + fault(0) + stats(0) + made(0, "p") + made(0, "s") + rests(0, "p")
            + where(EMPTY) + where("x") + stats(4)
        )
        self.assertIs(type(given), list)
        self.assertEqual({type(number) for number in given}, {int})
        first = answers(fault(0))
        first.append(5)
        self.assertEqual(answers(fault(0)), [1, -2])

    def test_a_long_call_list_is_answered(self):
        text = EMPTY + " " * 4000
        self.assertEqual(ask(*[read(k, text) for k in range(4)], stats(3)), [[0]] * 4 + [[0, 0, 0, 0, 0]])
        self.assertEqual(ask(where("x" * 10000), read(0, "#" * 5000)), [[3, 0], [-3]])

    def test_slot_before_none(self):
        for call in (plain, fault, stats):
            self.assertEqual(ask(call(-1), call(4), call(0), call(3)), [SLOT, SLOT, NONE, NONE])


if __name__ == "__main__":
    unittest.main()
