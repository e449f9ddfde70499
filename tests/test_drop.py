"""Promise 14."""

import unittest

from tests.support import (
    ABSENT, EMPTY, EXAMPLE, FAULTY, FAULTY_LOG, HUGE, NAME, NONE, SLOT, ask, ask_last, drop, fault, in_order, lines,
    log, made, plain, read, record, rests, stats, unlike,
)

ROWS = (
    record("c", "in s 1; out x 2;"),
    record("b", "arg q; in x 2; in t 3; out y 4;", way="kept", status=1),
    record("a", "in y 4; in x 2; out z 5;"),
)
TEXT = log(*ROWS)


def shown(*records):
    return ask_last(read(0, log(*records)), plain(0))


class Drop(unittest.TestCase):
    def test_the_first_a_middle_and_the_last_record(self):
        for i, name in enumerate("cba"):
            left = ROWS[:i] + ROWS[i + 1:]
            self.assertEqual(ask(read(0, TEXT), drop(0, name), plain(0))[1:], [[2], shown(*left)])

    def test_the_only_record(self):
        self.assertEqual(
            ask(read(0, log(record("a", "in x 1;"))), drop(0, "a"), plain(0), fault(0), stats(0), in_order(0))[1:],
            [[0], shown(), [0], [0, 0, 0, 0, 0], shown()],
        )

    def test_one_behind_another(self):
        self.assertEqual(
            ask(
                read(0, TEXT), drop(0, "b"), plain(0), drop(0, "c"), plain(0), drop(0, "a"), plain(0), drop(0, "a"),
            )[1:],
            [[2], shown(ROWS[0], ROWS[2]), [1], shown(ROWS[2]), [0], shown(), ABSENT],
        )

    def test_a_dropped_action_is_absent(self):
        self.assertEqual(ask(read(0, TEXT), drop(0, "b"), drop(0, "b"), drop(0, "c"))[1:], [[2], ABSENT, [1]])

    def test_the_number_behind_end(self):
        text = log(*[record(f"a{i}") for i in range(32)])
        answers = ask(read(0, text), *[drop(0, f"a{i}") for i in range(32)], plain(0))
        self.assertEqual(answers[1:33], [[i] for i in range(31, -1, -1)])
        self.assertEqual(answers[33], shown())
        self.assertEqual(ask(read(0, text), drop(0, "a7"), plain(0))[2][-8:], [ord(sign) for sign in "end 31;\n"])

    def test_fault_behind_a_drop(self):
        for name in "cba":
            self.assertEqual(ask(read(0, TEXT), drop(0, name), fault(0))[2], [0])

    def test_stats_behind_a_drop(self):
        self.assertEqual(
            ask(read(0, TEXT), stats(0), drop(0, "c"), stats(0), drop(0, "a"), stats(0))[1:],
            [[3, 2, 1, 1, 2], [2], [2, 1, 1, 1, 2], [1], [1, 0, 1, 1, 2]],
        )
        self.assertEqual(ask(read(0, TEXT), drop(0, "b"), stats(0))[2], [2, 2, 0, 0, 2])

    def test_sorted_behind_a_drop(self):
        self.assertEqual(
            ask(read(0, TEXT), in_order(0), drop(0, "b"), in_order(0), drop(0, "c"), in_order(0))[1:],
            [shown(*ROWS), [2], shown(ROWS[0], ROWS[2]), [1], shown(ROWS[2])],
        )
        # Nothing makes x any more, so a waits for nothing.
        text = log(record("z", "out x 1;"), record("y", "out v 1;"), record("a", "in x 1;"))
        self.assertEqual(
            ask(read(0, text), drop(0, "z"), in_order(0))[2], shown(record("a", "in x 1;"), record("y", "out v 1;"))
        )

    def test_made_and_rests_behind_a_drop(self):
        self.assertEqual(
            ask(
                read(0, TEXT), drop(0, "b"), made(0, "y"), made(0, "t"), rests(0, "z"), rests(0, "y"), made(0, "x"),
            )[2:],
            [[1, 4], ABSENT, lines("s", "y"), [0], [0, 2, ord("c")]],
        )

    def test_comparison_behind_a_drop(self):
        self.assertEqual(
            ask(read(0, TEXT), read(1, TEXT), drop(1, "b"), unlike(0, 1), unlike(1, 0), drop(0, "b"), unlike(0, 1))[2:],
            [[2], lines("b: only first"), lines("b: only second"), [2], [0]],
        )

    def test_no_other_log_is_changed(self):
        reads = [read(k, TEXT) for k in range(4)]
        for k in range(4):
            answers = ask(*reads, drop(k, "c"), *[plain(i) for i in range(4)])
            self.assertEqual(answers[4], [2])
            self.assertEqual(answers[5:], [shown(*(ROWS[1:] if i == k else ROWS)) for i in range(4)])

    def test_a_log_may_be_read_anew(self):
        self.assertEqual(
            ask(read(0, TEXT), drop(0, "c"), read(0, TEXT), plain(0), drop(0, "c"))[2:], [[3], shown(*ROWS), [2]]
        )

    def test_a_name_that_begins_like_another(self):
        self.assertEqual(
            ask(read(0, log(record("aa"), record("a"), record("A"))), drop(0, "a"), plain(0))[1:],
            [[2], shown(record("aa"), record("A"))],
        )


class Refusals(unittest.TestCase):
    def test_slot_and_none(self):
        for k in (-1, 4, HUGE, -HUGE):
            self.assertEqual(ask_last(read(0, EXAMPLE), read(3, EXAMPLE), drop(k, "c")), SLOT)
        self.assertEqual(ask(drop(0, "c"), drop(3, "c"), read(0, EXAMPLE), drop(1, "c")), [NONE, NONE, [2], NONE])

    def test_faulty(self):
        for text in (
            FAULTY_LOG, log(record("a"), record("a")), log(record("a", "out x 1; out x 1;")), log(record("a"), total=2),
            log(record("a", "in x 1;"), record("b", "in x 2;")),
        ):
            self.assertEqual(ask_last(read(0, text), drop(0, "a")), FAULTY, text)

    def test_name(self):
        for name in ("", " ", "0", "-c", "c ", "c\n", "c;", "\x00", "\xff", "x" * 33, "x" * 10000, "run", "tool"):
            self.assertEqual(ask_last(read(0, EXAMPLE), drop(0, name)), NAME, name)
            self.assertEqual(ask_last(read(0, EMPTY), drop(0, name)), NAME, name)

    def test_absent(self):
        for name in ("s", "o", "cc", "C", "cl", "x" * 32, "runs"):
            self.assertEqual(ask_last(read(0, EXAMPLE), drop(0, name)), ABSENT, name)
        self.assertEqual(ask_last(read(0, EMPTY), drop(0, "a")), ABSENT)
        self.assertEqual(ask_last(read(0, EXAMPLE), read(1, log(record("a"))), drop(0, "a")), ABSENT)

    def test_order(self):
        self.assertEqual(ask_last(drop(4, "")), SLOT)
        self.assertEqual(ask_last(drop(0, "")), NONE)
        self.assertEqual(ask_last(read(0, FAULTY_LOG), drop(0, "")), FAULTY)
        self.assertEqual(ask_last(read(0, FAULTY_LOG), drop(0, "zz")), FAULTY)
        self.assertEqual(ask_last(read(0, EMPTY), drop(0, "in")), NAME)

    def test_nothing_is_changed(self):
        answers = ask(
            read(0, TEXT), read(1, FAULTY_LOG), plain(0), plain(1), drop(0, ""), drop(0, "zz"), drop(4, "c"),
            drop(2, "c"), drop(1, "a"), plain(0), plain(1), plain(2),
        )
        self.assertEqual(answers[4:], [NAME, ABSENT, SLOT, NONE, FAULTY, answers[2], answers[3], NONE])


if __name__ == "__main__":
    unittest.main()
