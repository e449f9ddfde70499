"""Promise 10."""

import unittest

from tests.support import (
    EMPTY, EXAMPLE, OTHER_EXAMPLE, UNSTEADY_EXAMPLE, ask, compare, lines, log, read, record, roots,
)


def told(first_text, second_text):
    return compare(first_text, second_text, roots)


class Roots(unittest.TestCase):
    def test_the_example(self):
        self.assertEqual(told(EXAMPLE, OTHER_EXAMPLE), lines("c"))
        self.assertEqual(told(EXAMPLE, UNSTEADY_EXAMPLE), lines("c"))
        for text in (OTHER_EXAMPLE, UNSTEADY_EXAMPLE):
            with_t = text.replace("end 2", record("t") + "end 3")
            self.assertEqual(told(EXAMPLE, with_t), lines("c", "t"))

    def test_none(self):
        for text in (EMPTY, EXAMPLE):
            self.assertEqual(told(text, text), [0])
            self.assertEqual(ask(read(2, text), roots(2, 2))[1], [0])

    def test_a_log_without_records_against_one_with_some(self):
        self.assertEqual(told(EXAMPLE, EMPTY), lines("c", "l"))
        self.assertEqual(told(EMPTY, EXAMPLE), lines("c", "l"))

    def test_each_way_but_input_is_a_root(self):
        one = log(record("a"), record("b"), record("e", "out y 1;"), record("f"), record("g"))
        other = log(record("h"), record("b", tool="u"), record("e", "out y 2;"), record("f", status=2), record("g"))
        self.assertEqual(told(one, other), lines("a", "b", "e", "f", "h"))

    def test_such_an_action_is_a_root_behind_an_unlike_one_too(self):
        one = log(record("a", "in s 1; out x 1;"), record("b", "in x 1; out y 1;"), record("c", "in x 1;"))
        other = log(record("a", "in s 2; out x 1;"), record("b", "in x 1; out y 2;"), record("c", "in x 1;", status=1))
        self.assertEqual(told(one, other), lines("a", "b", "c"))
        other = log(record("a", "in s 2; out x 2;"), record("b", "in x 2; out y 2;", tool="u"), record("c", "in x 2;"))
        self.assertEqual(told(one, other), lines("a", "b"))

    def test_an_input_that_is_a_source(self):
        one = log(record("a", "in s 1; out x 1;"), record("b", "in x 1;"))
        self.assertEqual(told(one, log(record("a", "in s 2; out x 1;"), record("b", "in x 1;"))), lines("a"))
        self.assertEqual(told(one, log(record("a", "in s 2; out x 2;"), record("b", "in x 2;"))), lines("a"))

    def test_one_input_made_by_an_unlike_action_and_another_one_not(self):
        for rows in ("in o 5; in h 1;", "in h 1; in o 5;"):
            one = log(record("c", "in s 1; out o 5;"), record("l", rows))
            changed = rows.replace("o 5", "o 6").replace("h 1", "h 2")
            self.assertEqual(told(one, log(record("c", "in s 2; out o 6;"), record("l", changed))), lines("c", "l"))
            changed = rows.replace("o 5", "o 6")
            self.assertEqual(told(one, log(record("c", "in s 2; out o 6;"), record("l", changed))), lines("c"))
            changed = rows.replace("h 1", "h 2")
            self.assertEqual(told(one, log(record("c", "in s 2; out o 5;"), record("l", changed))), lines("c", "l"))
            self.assertEqual(told(one, log(record("c", "in s 1; out o 5;"), record("l", changed))), lines("l"))

    def test_several_inputs_all_made_by_unlike_actions(self):
        one = log(record("a", "out x 1;"), record("b", "out y 1;"), record("c", "in x 1; in y 1;"))
        other = log(record("a", "out x 2;"), record("b", "out y 2;"), record("c", "in x 2; in y 2;"))
        self.assertEqual(told(one, other), lines("a", "b"))

    def test_made_in_the_first_log_and_in_the_second_by_none(self):
        one = log(record("g", "in s 1; out x 1;"), record("u", "in x 1; out y 1;"))
        self.assertEqual(told(one, log(record("u", "in x 2; out y 1;"))), lines("g"))
        self.assertEqual(told(one, log(record("g", "in s 1;"), record("u", "in x 2; out y 1;"))), lines("g"))

    def test_made_in_the_second_log_and_in_the_first_by_none(self):
        one = log(record("u", "in x 1; out y 1;"))
        self.assertEqual(told(one, log(record("g", "in s 1; out x 2;"), record("u", "in x 2; out y 1;"))),
                         lines("u", "g"))

    def test_made_by_another_action_in_the_second_log(self):
        one = log(record("a", "out x 1;"), record("u", "in x 1;"))
        other = log(record("b", "out x 2;"), record("u", "in x 2;"))
        self.assertEqual(told(one, other), lines("a", "b"))

    def test_the_order_of_the_actions(self):
        one = log(record("m"), record("z"), record("a"), record("k"))
        other = log(record("y"), record("b"), record("a", status=1), record("k"), record("m", tool="u"), record("z"))
        self.assertEqual(told(one, other), lines("m", "a", "y", "b"))
        self.assertEqual(told(other, one), lines("y", "b", "a", "m"))

    def test_a_chain_of_32_actions(self):
        def chain(number):
            return log(record("r0", f"in s {number}; out f0 {number};"), *[
                record(f"r{i}", f"in f{i - 1} {number}; out f{i} {number};") for i in range(1, 32)
            ])
        self.assertEqual(told(chain(1), chain(2)), lines("r0"))

    def test_64_roots(self):
        names = [f"a{i}" for i in range(32)]
        others = [f"b{i}" for i in range(32)]
        self.assertEqual(told(log(*map(record, names)), log(*map(record, others))), lines(*names, *others))


if __name__ == "__main__":
    unittest.main()
