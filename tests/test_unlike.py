"""Promise 8, and the six ways of being unlike that promises 8 to 12 rest on."""

import unittest

from tests.support import (
    EMPTY, EXAMPLE, OTHER_EXAMPLE, UNSTEADY_EXAMPLE, ask, ask_last, compare, lines, log, plain, raw, read, record,
    unlike,
)

FULL = "arg a; arg b; in x 1; in y 2; out z 3; out w 4;"


def told(first_text, second_text):
    return compare(first_text, second_text, unlike)


def one_action(first_rows, second_rows, **changes):
    """What is told of an action with these rows in the first log and these in the second one, changed there."""
    return told(log(record("act", first_rows)), log(record("act", second_rows, **changes)))


class Ways(unittest.TestCase):
    def test_only_first(self):
        self.assertEqual(told(log(record("a")), EMPTY), lines("a: only first"))

    def test_only_second(self):
        self.assertEqual(told(EMPTY, log(record("a"))), lines("a: only second"))

    def test_defined_by_the_tool(self):
        self.assertEqual(one_action(FULL, FULL, tool="u"), lines("act: defined"))

    def test_defined_by_the_arguments(self):
        for rows in (
            FULL.replace("arg a;", "arg c;"), FULL.replace("arg b;", ""), FULL.replace("arg b;", "arg b; arg b;"),
            FULL.replace("arg a; arg b;", ""), FULL.replace("arg a; arg b;", "arg b; arg a;"),
        ):
            self.assertEqual(one_action(FULL, rows), lines("act: defined"), rows)

    def test_defined_by_the_inputs(self):
        for rows in (
            FULL.replace("in x 1;", "in v 1;"), FULL.replace("in x 1;", ""), FULL.replace("in x", "in v 1; in x"),
            FULL.replace("out z", "in v 1; out z"), FULL.replace("in x 1; in y 2;", ""),
        ):
            self.assertEqual(one_action(FULL, rows), lines("act: defined"), rows)
            self.assertEqual(one_action(rows, FULL), lines("act: defined"), rows)

    def test_defined_by_the_outputs(self):
        for rows in (
            FULL.replace("out z 3;", "out v 3;"), FULL.replace("out w 4;", ""), FULL.replace("out z 3;", ""),
            FULL + "out v 1;", FULL.replace("out z 3; out w 4;", ""),
        ):
            self.assertEqual(one_action(FULL, rows), lines("act: defined"), rows)
            self.assertEqual(one_action(rows, FULL), lines("act: defined"), rows)

    def test_the_same_files_in_another_order(self):
        for rows in (
            FULL.replace("in x 1; in y 2;", "in y 2; in x 1;"), FULL.replace("out z 3; out w 4;", "out w 4; out z 3;"),
        ):
            self.assertEqual(one_action(FULL, rows), lines("act: defined"), rows)

    def test_a_file_that_is_an_output_instead_of_an_input(self):
        self.assertEqual(one_action("in x 1;", "out x 1;"), lines("act: defined"))

    def test_input(self):
        for rows in (FULL.replace("x 1", "x 0"), FULL.replace("y 2", "y 3"), FULL.replace("y 2", "y 1000000000")):
            self.assertEqual(one_action(FULL, rows), lines("act: input"), rows)

    def test_inputs_whose_numbers_are_exchanged(self):
        self.assertEqual(one_action("in x 1; in y 2;", "in x 2; in y 1;"), lines("act: input"))

    def test_output(self):
        for rows in (FULL.replace("z 3", "z 0"), FULL.replace("w 4", "w 5"), FULL.replace("z 3", "z 4")):
            self.assertEqual(one_action(FULL, rows), lines("act: output"), rows)

    def test_exit(self):
        for status in (1, 2, 1000000000):
            self.assertEqual(one_action(FULL, FULL, status=status), lines("act: exit"))
        self.assertEqual(told(log(record("a", status=1)), log(record("a"))), lines("a: exit"))
        self.assertEqual(told(log(record("a", status=1)), log(record("a", status=1))), [0])

    def test_run_against_kept_does_not_count(self):
        self.assertEqual(one_action(FULL, FULL, way="kept"), [0])
        self.assertEqual(told(log(record("a", way="kept")), log(record("a"))), [0])
        self.assertEqual(one_action(FULL, FULL.replace("z 3", "z 4"), way="kept"), lines("act: output"))


class SeveralWays(unittest.TestCase):
    def test_defined_before_input(self):
        self.assertEqual(one_action(FULL, FULL.replace("x 1", "x 2"), tool="u"), lines("act: defined"))
        self.assertEqual(one_action(FULL, FULL.replace("x 1", "x 2").replace("arg a;", "")), lines("act: defined"))
        self.assertEqual(one_action(FULL, FULL.replace("x 1", "x 2").replace("y", "v")), lines("act: defined"))
        self.assertEqual(one_action(FULL, FULL.replace("x 1", "x 2").replace("w", "v")), lines("act: defined"))

    def test_defined_before_exit_and_output(self):
        self.assertEqual(one_action(FULL, FULL, tool="u", status=1), lines("act: defined"))
        self.assertEqual(one_action(FULL, FULL.replace("z 3", "z 4"), tool="u"), lines("act: defined"))

    def test_input_before_exit(self):
        self.assertEqual(one_action(FULL, FULL.replace("x 1", "x 2"), status=1), lines("act: input"))

    def test_input_before_output(self):
        self.assertEqual(one_action(FULL, FULL.replace("x 1", "x 2").replace("z 3", "z 4")), lines("act: input"))

    def test_exit_before_output(self):
        self.assertEqual(one_action(FULL, FULL.replace("z 3", "z 4"), status=1), lines("act: exit"))

    def test_all_at_once(self):
        rows = FULL.replace("x 1", "x 2").replace("z 3", "z 4")
        self.assertEqual(one_action(FULL, rows, tool="u", status=1), lines("act: defined"))
        self.assertEqual(one_action(FULL, rows, status=1), lines("act: input"))


class Order(unittest.TestCase):
    def test_the_example(self):
        self.assertEqual(told(EXAMPLE, OTHER_EXAMPLE), lines("c: input", "l: input"))
        self.assertEqual(told(EXAMPLE, UNSTEADY_EXAMPLE), lines("c: output", "l: input"))
        with_t = UNSTEADY_EXAMPLE.replace("end 2", record("t") + "end 3")
        self.assertEqual(told(EXAMPLE, with_t), lines("c: output", "l: input", "t: only second"))

    def test_the_order_is_that_of_the_first_log(self):
        one = log(record("m"), record("z"), record("a"), record("k"))
        other = log(record("a", status=1), record("k"), record("m", status=1), record("z", status=1))
        self.assertEqual(told(one, other), lines("m: exit", "z: exit", "a: exit"))
        self.assertEqual(told(other, one), lines("a: exit", "m: exit", "z: exit"))

    def test_those_of_the_second_alone_are_behind_in_its_order(self):
        one = log(record("m"), record("b"), record("k"))
        other = log(record("z"), record("a"), record("m", status=1), record("c"), record("k"), record("B"))
        self.assertEqual(
            told(one, other),
            lines("m: exit", "b: only first", "z: only second", "a: only second", "c: only second",
                  "B: only second"),
        )
        self.assertEqual(
            told(other, one),
            lines("z: only first", "a: only first", "m: exit", "c: only first", "B: only first", "b: only second"),
        )

    def test_the_place_of_an_action_in_its_log_does_not_count(self):
        self.assertEqual(told(log(record("a"), record("b")), log(record("b"), record("a"))), [0])

    def test_each_way_once(self):
        one = log(
            record("a"), record("b"), record("d", "in x 1;"), record("e", "out y 1;"), record("f"), record("g"),
        )
        other = log(
            record("h"), record("b", tool="u"), record("d", "in x 2;"), record("e", "out y 2;"),
            record("f", status=2), record("g", way="kept"),
        )
        self.assertEqual(
            told(one, other),
            lines("a: only first", "b: defined", "d: input", "e: output", "f: exit", "h: only second"),
        )

    def test_64_unlike_actions(self):
        names = [f"a{i}" for i in range(32)]
        others = [f"b{i}" for i in range(32)]
        self.assertEqual(
            told(log(*map(record, names)), log(*map(record, others))),
            lines(*[f"{name}: only first" for name in names], *[f"{name}: only second" for name in others]),
        )

    def test_names_that_begin_alike(self):
        one = log(record("a"), record("aa"), record("A"))
        other = log(record("aaa"), record("a", status=1), record("aa"))
        self.assertEqual(told(one, other), lines("a: exit", "A: only first", "aaa: only second"))


class Alike(unittest.TestCase):
    def test_logs_that_are_alike(self):
        for text in (EMPTY, EXAMPLE, log(record("a", FULL))):
            self.assertEqual(told(text, text), [0])
        self.assertEqual(told(EXAMPLE, "# the same\n" + EXAMPLE.replace(" ", "\n")), [0])

    def test_a_log_with_itself(self):
        for k in range(4):
            self.assertEqual(ask(read(k, EXAMPLE), unlike(k, k)), [[2], [0]])

    def test_every_two_slots(self):
        reads = [read(k, log(record(f"a{k}"))) for k in range(4)]
        for j in range(4):
            for k in range(4):
                answer = [0] if j == k else lines(f"a{j}: only first", f"a{k}: only second")
                self.assertEqual(ask_last(*reads, unlike(j, k)), answer)

    def test_nothing_is_changed(self):
        answers = ask(
            read(0, EXAMPLE), read(1, OTHER_EXAMPLE), plain(0), plain(1), unlike(0, 1), unlike(1, 0), plain(0), plain(1)
        )
        self.assertEqual(answers[2:4], answers[6:8])

    def test_bytes_of_a_line(self):
        self.assertEqual(told(log(record("a/b")), EMPTY), [1] + raw("a/b: only first\n"))


if __name__ == "__main__":
    unittest.main()
