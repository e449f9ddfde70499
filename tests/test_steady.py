"""Promise 12."""

import unittest

from tests.support import (
    EMPTY, EXAMPLE, OTHER_EXAMPLE, UNSTEADY_EXAMPLE, ask, compare, log, read, record, steady,
)


def told(first_text, second_text):
    return compare(first_text, second_text, steady)


class Steady(unittest.TestCase):
    def test_the_example(self):
        self.assertEqual(told(EXAMPLE, OTHER_EXAMPLE), [1])
        self.assertEqual(told(EXAMPLE, UNSTEADY_EXAMPLE), [0])

    def test_logs_that_are_alike(self):
        for text in (EMPTY, EXAMPLE):
            self.assertEqual(told(text, text), [1])
            self.assertEqual(ask(read(0, text), steady(0, 0))[1], [1])

    def test_output(self):
        self.assertEqual(told(log(record("a", "out x 1;")), log(record("a", "out x 2;"))), [0])

    def test_exit(self):
        self.assertEqual(told(log(record("a")), log(record("a", status=1))), [0])

    def test_exit_and_output(self):
        self.assertEqual(told(log(record("a", "out x 1;")), log(record("a", "out x 2;", status=1))), [0])

    def test_the_other_ways_alone(self):
        self.assertEqual(told(log(record("a")), EMPTY), [1])
        self.assertEqual(told(EMPTY, log(record("a"))), [1])
        self.assertEqual(told(log(record("a")), log(record("a", tool="u"))), [1])
        self.assertEqual(told(log(record("a", "in x 1;")), log(record("a", "in x 2;"))), [1])
        one = log(record("a"), record("b"), record("c", "in x 1;"))
        other = log(record("d"), record("b", tool="u"), record("c", "in x 2;"))
        self.assertEqual(told(one, other), [1])

    def test_another_exit_or_output_of_what_is_unlike_by_another_way(self):
        one = log(record("a", "in x 1; out y 1;"))
        self.assertEqual(told(one, log(record("a", "in x 2; out y 2;", status=1))), [1])
        self.assertEqual(told(one, log(record("a", "in x 1; out y 2;", status=1, tool="u"))), [1])
        self.assertEqual(told(one, EMPTY), [1])

    def test_one_among_others(self):
        one = log(record("a"), record("b"), record("c", "in x 1;"), record("d", "out y 1;"))
        for last, answer in (("out y 1;", [1]), ("out y 2;", [0])):
            other = log(record("d", last), record("e"), record("b", tool="u"), record("c", "in x 2;"))
            self.assertEqual(told(one, other), answer)
            self.assertEqual(told(other, one), answer)


if __name__ == "__main__":
    unittest.main()
