"""Promise 13."""

import unittest

from tests.support import (
    EMPTY, EXAMPLE, FAULTY, FAULTY_LOG, HUGE, NONE, SLOT, ask, ask_last, in_order, log, plain, read, record,
)


def shown(text):
    return ask_last(read(0, text), in_order(0))


class Sorted(unittest.TestCase):
    def check(self, *records, order):
        """The records, so numbered in their log, stand in this order."""
        self.assertEqual(shown(log(*records)), ask_last(read(0, log(*[records[i] for i in order])), plain(0)))

    def test_no_records(self):
        self.assertEqual(shown(EMPTY), ask_last(read(0, EMPTY), plain(0)))

    def test_the_example(self):
        self.assertEqual(shown(EXAMPLE), ask_last(read(0, EXAMPLE), plain(0)))

    def test_every_part_is_told(self):
        text = (
            "run a {\n  tool ld;\n  exit 0;\n}\n"
            "kept b/c {\n  tool cc;\n  arg o2;\n  arg c;\n  in y 1;\n  in x 0;\n  out w 7;\n  out v 42;\n  exit 3;\n}\n"
            "end 2;\n"
        )
        records = text.replace("end 2;\n", "").split("}\n")[:2]
        turned = records[1] + "}" + records[0] + "} # \n end 2;"
        self.assertEqual(shown(text), [0] + [ord(sign) for sign in text])
        self.assertEqual(shown(turned), [0] + [ord(sign) for sign in text])

    def test_names_alone(self):
        self.check(record("c"), record("a"), record("b"), order=[1, 2, 0])
        self.check(record("a"), record("b"), record("c"), order=[0, 1, 2])
        self.check(record("c"), record("b"), record("a"), order=[2, 1, 0])

    def test_the_order_of_texts(self):
        names = ["b", "a:", "aa", "a", "Z", "a/", "a.", "_", "a10", "a9", "a-", ".b"]
        behind = [".b", "Z", "_", "a", "a-", "a.", "a/", "a10", "a9", "a:", "aa", "b"]
        self.check(*map(record, names), order=[names.index(name) for name in behind])

    def test_what_rests_on_what_before_names(self):
        self.check(record("z", "out x 1;"), record("a", "in x 1;"), order=[0, 1])
        self.check(record("z", "out x 1;"), record("a", "in x 1;"), record("m"), order=[2, 0, 1])

    def test_the_smallest_one_is_taken_again_and_again(self):
        # Once b stands, a may stand too, and does so ahead of c.
        self.check(record("c"), record("b", "out x 1;"), record("a", "in x 1;"), order=[1, 2, 0])
        # d is ready at first, but b, c and a come before it one behind another.
        self.check(
            record("d"), record("b", "out x 1;"), record("c", "in x 1; out y 1;"), record("a", "in y 1;"),
            order=[1, 2, 3, 0],
        )

    def test_log_names_and_rests_all_differ(self):
        self.check(
            record("e", "in s 1; out e1 1;"), record("f"), record("a", "in e1 1; out a1 1;"),
            record("c", "in s 1; out c1 1;"), record("b", "in a1 1; in c1 1;"), record("d", "in c1 1;"),
            order=[3, 5, 0, 2, 4, 1],
        )

    def test_all_makers_must_stand(self):
        self.check(
            record("y", "out p 1;"), record("x", "out q 1;"), record("a", "in p 1; in q 1;"), record("z"),
            order=[1, 0, 2, 3],
        )
        self.check(
            record("x", "out q 1;"), record("z", "out p 1;"), record("a", "in q 1; in p 1;"), record("y"),
            order=[0, 3, 1, 2],
        )

    def test_sources_do_not_hold_back(self):
        self.check(record("b", "in s 1; in t 1; out x 1;"), record("a", "in s 1; in u 1;"), order=[1, 0])

    def test_several_files_of_one_maker(self):
        self.check(
            record("m", "out x 1; out y 1;"), record("b", "in y 1; in x 1;"), record("a", "in x 1; in y 1;"),
            record("z"), order=[0, 2, 1, 3],
        )

    def test_a_chain_of_32_records_against_the_names(self):
        names = [f"r{i}" for i in range(10, 42)][::-1]
        records = [record(names[0], "out f0 1;")]
        records += [record(names[i], f"in f{i - 1} 1; out f{i} 1;") for i in range(1, 32)]
        self.check(*records, order=range(32))
        self.check(*[record(name) for name in names], order=range(31, -1, -1))

    def test_it_is_the_same_when_sorted_again(self):
        text = log(record("z", "out x 1;"), record("a", "in x 1;"), record("m"))
        once = shown(text)
        self.assertEqual(shown(bytes(once[1:]).decode()), once)


class Refusals(unittest.TestCase):
    def test_slot_none_and_faulty(self):
        for k in (-1, 4, HUGE, -HUGE):
            self.assertEqual(ask_last(read(0, EXAMPLE), read(3, EXAMPLE), in_order(k)), SLOT)
        self.assertEqual(ask(in_order(0), in_order(3), read(0, EMPTY), in_order(1)), [NONE, NONE, [0], NONE])
        for text in (
            FAULTY_LOG, "end 1;", log(record("a"), record("a")), log(record("a", "in x 1; in x 1;")),
            log(record("a", "in x 1;"), record("b", "in x 2;")), log(record("a"), total=2),
        ):
            self.assertEqual(ask_last(read(0, text), in_order(0)), FAULTY, text)

    def test_nothing_is_changed(self):
        text = log(record("c"), record("a"), record("b"))
        answers = ask(
            read(0, text), read(1, FAULTY_LOG), plain(0), plain(1), in_order(0), in_order(4), in_order(2), in_order(1),
            plain(0), plain(1), in_order(0),
        )
        self.assertEqual(answers[5:], [SLOT, NONE, FAULTY, answers[2], answers[3], answers[4]])
        self.assertNotEqual(answers[2], answers[4])


if __name__ == "__main__":
    unittest.main()
