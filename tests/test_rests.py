"""Promise 7."""

import unittest

from tests.support import (
    ABSENT, EMPTY, EXAMPLE, FAULTY, FAULTY_LOG, HUGE, NAME, NONE, SLOT, ask, ask_last, lines, log, plain, read, record,
    rests,
)


def rested(text, file):
    return ask_last(read(0, text), rests(0, file))


class Rests(unittest.TestCase):
    def test_the_example(self):
        self.assertEqual(rested(EXAMPLE, "p"), lines("s"))
        self.assertEqual(rested(EXAMPLE, "o"), lines("s"))
        self.assertEqual(rested(EXAMPLE, "s"), [0])

    def test_a_record_without_inputs(self):
        text = log(record("a", "out x 1;"), record("b", "in x 1; out y 1;"))
        self.assertEqual(rested(text, "x"), [0])
        self.assertEqual(rested(text, "y"), [0])

    def test_only_sources_are_told_and_each_once(self):
        text = log(
            record("a", "in s 1; in t 1; out x 1;"),
            record("b", "in t 1; in u 1; out y 1;"),
            record("c", "in x 1; in y 1; in t 1; out z 1;"),
            record("d", "in v 1; out w 1;"),
        )
        self.assertEqual(rested(text, "x"), lines("s", "t"))
        self.assertEqual(rested(text, "y"), lines("t", "u"))
        self.assertEqual(rested(text, "z"), lines("s", "t", "u"))
        self.assertEqual(rested(text, "w"), lines("v"))

    def test_every_output_of_a_record_rests_on_all_its_inputs(self):
        text = log(record("a", "in s 1; in t 1; out x 1; out y 1;"))
        self.assertEqual(rested(text, "x"), lines("s", "t"))
        self.assertEqual(rested(text, "y"), lines("s", "t"))

    def test_an_input_of_a_record_does_not_rest_on_the_others(self):
        text = log(record("a", "in s 1; in t 1; out x 1;"), record("b", "in x 1; in u 1;"))
        self.assertEqual(rested(text, "s"), [0])
        self.assertEqual(rested(text, "u"), [0])
        self.assertEqual(rested(text, "x"), lines("s", "t"))

    def test_the_order_of_texts(self):
        names = ["b", "a:", "aa", "a", "Z", "a/", "a.", "_"]
        text = log(record("r", "".join(f"in {name} 1;" for name in names) + "out x 1;"))
        self.assertEqual(rested(text, "x"), lines("Z", "_", "a", "a.", "a/", "a:", "aa", "b"))
        names = ["a9", "a10", "a-", "a_", "aA", ".a", "a1", "A"]
        text = log(record("r", "".join(f"in {name} 1;" for name in names) + "out x 1;"))
        self.assertEqual(rested(text, "x"), lines(".a", "A", "a-", "a1", "a10", "a9", "aA", "a_"))

    def test_the_order_is_not_that_of_the_log(self):
        text = log(record("b", "in z 1; out x 1;"), record("a", "in x 1; in m 1; in a 1; out y 1;"))
        self.assertEqual(rested(text, "y"), lines("a", "m", "z"))

    def test_a_chain_of_32_records(self):
        records = [record("r0", "in s 1; out f0 1;")]
        records += [record(f"r{i}", f"in f{i - 1} 1; in t{i} 1; out f{i} 1;") for i in range(1, 32)]
        text = log(*records)
        self.assertEqual(rested(text, "f31"), lines(*sorted(["s"] + [f"t{i}" for i in range(1, 32)])))
        self.assertEqual(rested(text, "f0"), lines("s"))

    def test_many_ways_to_the_same_source(self):
        records = [record("r0", "in s 1; out a0 1; out b0 1;")]
        records += [
            record(f"r{i}", f"in a{i - 1} 1; in b{i - 1} 1; out a{i} 1; out b{i} 1;") for i in range(1, 32)
        ]
        self.assertEqual(rested(log(*records), "b31"), lines("s"))

    def test_very_many_sources(self):
        records = [record(f"r{i}", "".join(f"in {a}{b} 1;" for b in "stuvwxyz") + f"out o{i} 1;")
                   for i, a in enumerate("abcdefgh")]
        records.append(record("all", "".join(f"in o{i} 1;" for i in range(8)) + "out whole 1;"))
        self.assertEqual(rested(log(*records), "whole"), lines(*[a + b for a in "abcdefgh" for b in "stuvwxyz"]))

    def test_the_action_of_a_files_name_does_not_count(self):
        text = log(record("x", "in s 1; out y 1;"), record("y", "in t 1; out x 1;"))
        self.assertEqual(rested(text, "x"), lines("t"))
        self.assertEqual(rested(text, "y"), lines("s"))


class Refusals(unittest.TestCase):
    def test_slot_and_none(self):
        for k in (-1, 4, HUGE, -HUGE):
            self.assertEqual(ask_last(read(0, EXAMPLE), read(3, EXAMPLE), rests(k, "s")), SLOT)
        self.assertEqual(ask(rests(0, "s"), rests(3, "s"), read(0, EXAMPLE), rests(1, "s")), [NONE, NONE, [2], NONE])

    def test_absent(self):
        for file in ("c", "l", "cc", "ld", "ss", "S", "x" * 32):
            self.assertEqual(rested(EXAMPLE, file), ABSENT)
        self.assertEqual(rested(EMPTY, "x"), ABSENT)

    def test_order(self):
        self.assertEqual(ask_last(rests(4, "")), SLOT)
        self.assertEqual(ask_last(rests(0, "")), NONE)
        self.assertEqual(rested(FAULTY_LOG, ""), FAULTY)
        self.assertEqual(rested(FAULTY_LOG, "zz"), FAULTY)
        self.assertEqual(rested(EXAMPLE, ""), NAME)
        self.assertEqual(rested(EXAMPLE, "out"), NAME)

    def test_nothing_is_changed(self):
        answers = ask(
            read(0, EXAMPLE), plain(0), rests(0, "p"), rests(4, "p"), rests(1, "p"), rests(0, "-"), rests(0, "zz"),
            plain(0), plain(1),
        )
        self.assertEqual(answers[2:], [lines("s"), SLOT, NONE, NAME, ABSENT, answers[1], NONE])


if __name__ == "__main__":
    unittest.main()
