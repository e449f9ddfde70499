"""Promise 9."""

import unittest

from tests.support import (
    EMPTY, EXAMPLE, OTHER_EXAMPLE, UNSTEADY_EXAMPLE, ask, compare, first, log, raw, read, record,
)


def told(first_text, second_text):
    return compare(first_text, second_text, first)


def at(way, name, file=""):
    return [way, len(name)] + raw(name + file)


class First(unittest.TestCase):
    def test_none_is_unlike(self):
        for text in (EMPTY, EXAMPLE):
            self.assertEqual(told(text, text), [0])
            self.assertEqual(ask(read(3, text), first(3, 3))[1], [0])
        self.assertEqual(told(EXAMPLE, EXAMPLE.replace("run", "kept")), [0])

    def test_the_example(self):
        self.assertEqual(told(EXAMPLE, OTHER_EXAMPLE), at(4, "c", "s"))
        self.assertEqual(told(EXAMPLE, UNSTEADY_EXAMPLE), at(5, "c", "o"))

    def test_only_first_and_only_second(self):
        text = log(record("some/name"), record("b"))
        self.assertEqual(told(text, EMPTY), at(1, "some/name"))
        self.assertEqual(told(EMPTY, text), at(2, "some/name"))

    def test_defined_and_exit_have_no_file(self):
        rows = "in x 1; in y 1; out z 1;"
        others = "in x 2; in y 1; out z 2;"
        self.assertEqual(told(log(record("ab", rows)), log(record("ab", others, tool="u"))), at(3, "ab"))
        outs = rows.replace("z 1", "z 2")
        self.assertEqual(told(log(record("ab", rows)), log(record("ab", outs, status=1))), at(6, "ab"))
        self.assertEqual(told(log(record("ab", rows)), log(record("ab", rows, status=1))), at(6, "ab"))

    def test_only_first_and_only_second_have_no_file(self):
        text = log(record("ab", "in x 1; out y 1;"))
        self.assertEqual(told(text, EMPTY), at(1, "ab"))
        self.assertEqual(told(EMPTY, text), at(2, "ab"))

    def test_the_first_input_of_several(self):
        one = log(record("a", "in v 1; in z 1; in w 1; in b 1; out y 1;"))
        for second_rows, file in (
            ("in v 1; in z 2; in w 1; in b 2; out y 1;", "z"),
            ("in v 2; in z 2; in w 2; in b 2; out y 2;", "v"),
            ("in v 1; in z 1; in w 1; in b 0; out y 2;", "b"),
            ("in v 1; in z 1; in w 7; in b 0; out y 1;", "w"),
        ):
            self.assertEqual(told(one, log(record("a", second_rows))), at(4, "a", file))

    def test_the_first_output_of_several(self):
        one = log(record("a", "in s 1; out v 1; out z 1; out w 1; out b 1;"))
        for second_rows, file in (
            ("in s 1; out v 1; out z 2; out w 1; out b 2;", "z"),
            ("in s 1; out v 2; out z 2; out w 2; out b 2;", "v"),
            ("in s 1; out v 1; out z 1; out w 1; out b 0;", "b"),
        ):
            self.assertEqual(told(one, log(record("a", second_rows))), at(5, "a", file))

    def test_the_first_action_is_that_of_the_first_log(self):
        one = log(record("m"), record("z", "out x 1;"), record("a", status=1))
        other = log(record("k"), record("a"), record("z", "out x 2;"), record("m"))
        self.assertEqual(told(one, other), at(5, "z", "x"))
        self.assertEqual(told(other, one), at(1, "k"))

    def test_those_of_the_second_alone_are_behind(self):
        one = log(record("a"), record("m"))
        other = log(record("z"), record("b"), record("a"), record("m", status=1))
        self.assertEqual(told(one, other), at(6, "m"))
        self.assertEqual(told(one, other.replace("exit 1", "exit 0")), at(2, "z"))

    def test_the_length_is_that_of_the_actions_name(self):
        name = "n" * 32
        one = log(record(name, "in long/file/name.c 1;"))
        other = log(record(name, "in long/file/name.c 2;"))
        self.assertEqual(told(one, other), [4, 32] + raw(name + "long/file/name.c"))
        self.assertEqual(told(one, EMPTY), [1, 32] + raw(name))


if __name__ == "__main__":
    unittest.main()
