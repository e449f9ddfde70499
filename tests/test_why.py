"""Promise 11; SLOT, NONE and FAULTY are tested with those of the other calls that compare."""

import unittest

from tests.support import (
    ABSENT, ALIKE, EMPTY, EXAMPLE, FAULTY, FAULTY_LOG, NAME, NONE, OTHER_EXAMPLE, SLOT, UNSTEADY_EXAMPLE, ask,
    ask_last, compare, lines, log, plain, read, record, why,
)


def told(first_text, second_text, name):
    return compare(first_text, second_text, why, name)


class Why(unittest.TestCase):
    def test_the_example(self):
        for other in (OTHER_EXAMPLE, UNSTEADY_EXAMPLE):
            self.assertEqual(told(EXAMPLE, other, "l"), lines("l", "c"))
            self.assertEqual(told(EXAMPLE, other, "c"), lines("c"))
        with_t = OTHER_EXAMPLE.replace("end 2", record("t") + "end 3")
        self.assertEqual(told(EXAMPLE, with_t, "t"), lines("t"))

    def test_each_way_but_input_ends_the_chain(self):
        one = log(record("g", "in s 1; out x 1;"), record("u", "in x 1; out y 1;"))
        maker = record("g", "in s 2; out x 1;")
        for user in (
            record("u", "in x 1; out y 1;", tool="u"), record("u", "in x 1; out y 1;", status=1),
            record("u", "in x 1; out y 2;"),
        ):
            self.assertEqual(told(one, log(maker, user), "u"), lines("u"))
        changed = log(record("g", "in s 2; out x 2;"), record("u", "in x 2; out y 2;", tool="u"))
        self.assertEqual(told(one, changed, "u"), lines("u"))
        self.assertEqual(told(one, log(maker), "u"), lines("u"))
        self.assertEqual(told(log(maker), one, "u"), lines("u"))

    def test_a_chain_of_several_actions(self):
        def build(number):
            return log(
                record("d", f"in s {number}; out x1 {number};"),
                record("a", f"in x1 {number}; out x2 {number};"),
                record("c", f"in x2 {number}; out x3 {number};"),
                record("b", f"in x3 {number};"),
            )
        self.assertEqual(told(build(1), build(2), "b"), lines("b", "c", "a", "d"))
        self.assertEqual(told(build(1), build(2), "c"), lines("c", "a", "d"))
        self.assertEqual(told(build(1), build(2), "a"), lines("a", "d"))
        self.assertEqual(told(build(1), build(2), "d"), lines("d"))

    def test_a_chain_ends_at_an_action_that_is_not_unlike_by_input(self):
        one = log(record("a", "in s 1; out x 1;"), record("b", "in x 1; out y 1;"), record("c", "in y 1;"))
        other = log(record("a", "in s 2; out x 1;"), record("b", "in x 1; out y 2;"), record("c", "in y 2;"))
        self.assertEqual(told(one, other, "c"), lines("c", "b"))
        other = log(record("a", "in s 2; out x 2;"), record("b", "in x 2; out y 2;", tool="u"), record("c", "in y 2;"))
        self.assertEqual(told(one, other, "c"), lines("c", "b"))

    def test_the_first_such_input_is_followed(self):
        def build(number, rows):
            return log(
                record("a", f"out x {number};"), record("b", f"out y {number};"),
                record("c", rows.replace("N", str(number))),
            )
        for rows, follower in (
            ("in x N; in y N;", "a"), ("in y N; in x N;", "b"), ("in s N; in y N; in x N;", "b"),
            ("in s 1; in x N; in t N; in y N;", "a"),
        ):
            self.assertEqual(told(build(1, rows), build(2, rows), "c"), lines("c", follower), rows)

    def test_an_input_with_the_same_number_is_not_followed(self):
        one = log(record("a", "in s 1; out x 1;"), record("b", "in s 1; out y 1;"), record("c", "in x 1; in y 1;"))
        other = log(record("a", "in s 2; out x 1;"), record("b", "in s 2; out y 2;"), record("c", "in x 1; in y 2;"))
        self.assertEqual(told(one, other, "c"), lines("c", "b"))

    def test_the_first_input_has_no_unlike_maker_but_the_second_has(self):
        one = log(record("c", "in s 1; out o 5;"), record("l", "in h 1; in o 5;"))
        other = log(record("c", "in s 1; out o 6;"), record("l", "in h 2; in o 6;"))
        self.assertEqual(told(one, other, "l"), lines("l", "c"))

    def test_no_input_has_an_unlike_maker(self):
        one = log(record("c", "in s 1; out o 5;"), record("l", "in h 1; in o 5; in i 1;"))
        other = log(record("c", "in s 2; out o 5;"), record("l", "in h 2; in o 5; in i 2;"))
        self.assertEqual(told(one, other, "l"), lines("l"))

    def test_made_in_the_first_log_and_in_the_second_by_none(self):
        one = log(record("g", "in s 1; out x 1;"), record("u", "in x 1; out y 1;"))
        self.assertEqual(told(one, log(record("u", "in x 2; out y 1;")), "u"), lines("u", "g"))
        self.assertEqual(told(one, log(record("g"), record("u", "in x 2; out y 1;")), "u"), lines("u", "g"))

    def test_made_in_the_second_log_and_in_the_first_by_none(self):
        one = log(record("u", "in x 1; out y 1;"))
        other = log(record("g", "in s 1; out x 2;"), record("u", "in x 2; out y 1;"))
        self.assertEqual(told(one, other, "u"), lines("u"))
        self.assertEqual(told(one, other, "g"), lines("g"))

    def test_made_by_another_action_in_the_second_log(self):
        one = log(record("a", "out x 1;"), record("u", "in x 1;"))
        other = log(record("b", "out x 2;"), record("u", "in x 2;"))
        self.assertEqual(told(one, other, "u"), lines("u", "a"))

    def test_a_chain_of_32_actions(self):
        def chain(number):
            return log(record("r0", f"in s {number}; out f0 {number};"), *[
                record(f"r{i}", f"in f{i - 1} {number}; out f{i} {number};") for i in range(1, 32)
            ])
        self.assertEqual(told(chain(1), chain(2), "r31"), lines(*[f"r{i}" for i in range(31, -1, -1)]))


class Refusals(unittest.TestCase):
    def test_name(self):
        for name in ("", " ", "0", "-a", "c ", "c\n", "c;", "\x00", "\xff", "x" * 33, "x" * 10000, "run", "exit"):
            self.assertEqual(told(EXAMPLE, OTHER_EXAMPLE, name), NAME, name)
            self.assertEqual(told(EMPTY, EMPTY, name), NAME, name)

    def test_absent(self):
        for name in ("s", "o", "cc", "C", "cl", "x" * 32, "ends"):
            self.assertEqual(told(EXAMPLE, OTHER_EXAMPLE, name), ABSENT, name)
            self.assertEqual(told(EXAMPLE, EXAMPLE, name), ABSENT, name)
        self.assertEqual(told(EMPTY, EMPTY, "c"), ABSENT)

    def test_an_action_of_one_log_alone_is_not_absent(self):
        self.assertEqual(told(EXAMPLE, EMPTY, "l"), lines("l"))
        self.assertEqual(told(EMPTY, EXAMPLE, "l"), lines("l"))

    def test_alike(self):
        self.assertEqual(told(EXAMPLE, EXAMPLE, "c"), ALIKE)
        self.assertEqual(told(EXAMPLE, EXAMPLE.replace("run", "kept"), "l"), ALIKE)
        self.assertEqual(ask(read(1, EXAMPLE), why(1, 1, "l"), why(1, 1, "x")), [[2], ALIKE, ABSENT])
        other = EXAMPLE.replace("p 9", "p 8")
        self.assertEqual(told(EXAMPLE, other, "c"), ALIKE)
        self.assertEqual(told(EXAMPLE, other, "l"), lines("l"))

    def test_order(self):
        self.assertEqual(ask_last(why(0, 4, "")), SLOT)
        self.assertEqual(ask_last(read(0, FAULTY_LOG), why(0, 1, "")), NONE)
        self.assertEqual(ask_last(read(0, FAULTY_LOG), read(1, EXAMPLE), why(0, 1, "")), FAULTY)
        self.assertEqual(ask_last(read(0, FAULTY_LOG), read(1, EXAMPLE), why(1, 0, "no/such")), FAULTY)
        self.assertEqual(ask_last(read(0, FAULTY_LOG), why(0, 0, "a")), FAULTY)
        self.assertEqual(told(EMPTY, EMPTY, "run"), NAME)
        self.assertEqual(told(EXAMPLE, EXAMPLE, "runs"), ABSENT)

    def test_nothing_is_changed(self):
        answers = ask(
            read(0, EXAMPLE), read(1, OTHER_EXAMPLE), plain(0), plain(1), why(0, 1, "l"), why(0, 1, ""),
            why(0, 1, "x"), why(1, 1, "c"), why(4, 0, "c"), why(0, 2, "c"), plain(0), plain(1), why(0, 1, "l"),
            plain(2),
        )
        self.assertEqual(
            answers[4:],
            [lines("l", "c"), NAME, ABSENT, ALIKE, SLOT, NONE, answers[2], answers[3], lines("l", "c"), NONE],
        )


if __name__ == "__main__":
    unittest.main()
