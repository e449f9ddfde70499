"""Promise 6."""

import unittest

from tests.support import (
    ABSENT, EMPTY, EXAMPLE, FAULTY, FAULTY_LOG, HUGE, NAME, NONE, SLOT, ask, ask_last, log, made, plain, raw, read,
    record, rests,
)

LOG = log(
    record("gen", "in spec 3; out a.h 4; out a.c 0;"),
    record("cc/a", "arg lone; in a.c 0; in a.h 4; in sys.h 1000000000; out a.o 6;", way="kept", tool="cc", status=1),
    record("ld", "in a.o 6; out gen 1000000000;"),
)


def asked(file):
    return ask_last(read(0, LOG), made(0, file))


class Made(unittest.TestCase):
    def test_outputs(self):
        self.assertEqual(asked("a.h"), [0, 4] + raw("gen"))
        self.assertEqual(asked("a.c"), [0, 0] + raw("gen"))
        self.assertEqual(asked("a.o"), [0, 6] + raw("cc/a"))
        self.assertEqual(asked("gen"), [0, 1000000000] + raw("ld"))

    def test_sources(self):
        self.assertEqual(asked("spec"), [1, 3])
        self.assertEqual(asked("sys.h"), [1, 1000000000])

    def test_the_example(self):
        self.assertEqual(
            ask(read(0, EXAMPLE), made(0, "s"), made(0, "o"), made(0, "p")),
            [[2], [1, 1], [0, 5] + raw("c"), [0, 9] + raw("l")],
        )

    def test_names_of_32_bytes(self):
        name = "x" * 32
        self.assertEqual(ask_last(read(0, log(record("a", f"in {name} 5;"))), made(0, name)), [1, 5])


class Refusals(unittest.TestCase):
    def test_slot_and_none(self):
        for k in (-1, 4, HUGE, -HUGE):
            self.assertEqual(ask_last(read(0, EXAMPLE), read(3, EXAMPLE), made(k, "s")), SLOT)
        self.assertEqual(ask(made(0, "s"), made(3, "s"), read(0, EXAMPLE), made(1, "s")), [NONE, NONE, [2], NONE])

    def test_faulty(self):
        for text in (
            FAULTY_LOG,
            "end 1;",
            log(record("a"), record("a")),
            log(record("a", "in x 1; in x 1;")),
            log(record("a", "out x 1;"), record("b", "out x 1;")),
            log(record("a", "in x 1;"), record("b", "in x 2;")),
            log(record("a", "in x 1;"), record("b", "out x 1;")),
        ):
            for call in (made, rests):
                self.assertEqual(ask_last(read(0, text), call(0, "x")), FAULTY)
                self.assertEqual(ask_last(read(0, text), call(0, "")), FAULTY)
                self.assertEqual(ask_last(read(0, text), call(0, "other")), FAULTY)

    def test_name(self):
        for file in (
            "", " ", "0", "-a", "/a", ":a", "a b", " a", "s ", "s\n", "a;", "s#", "?", "\x00", "\xff", "a\xe4", "x" * 33,
            "x" * 10000, "run", "kept", "end", "tool", "arg", "in", "out", "exit",
        ):
            for call in (made, rests):
                self.assertEqual(ask_last(read(0, EXAMPLE), call(0, file)), NAME, file)
                self.assertEqual(ask_last(read(0, EMPTY), call(0, file)), NAME, file)

    def test_absent(self):
        for file in ("cc/a", "lone", "t", "cc", "a", "a.", "a.hh", "A.h", "x" * 32, "runs", "In", ".", "_", "a-/:.9"):
            self.assertEqual(asked(file), ABSENT, file)
        self.assertEqual(ask_last(read(0, EMPTY), made(0, "x")), ABSENT)

    def test_order(self):
        self.assertEqual(ask_last(made(4, "")), SLOT)
        self.assertEqual(ask_last(made(0, "")), NONE)
        self.assertEqual(ask_last(read(0, FAULTY_LOG), made(1, "")), NONE)
        self.assertEqual(ask_last(read(0, FAULTY_LOG), made(4, "")), SLOT)
        self.assertEqual(ask_last(read(0, FAULTY_LOG), made(0, "run")), FAULTY)

    def test_nothing_is_changed(self):
        answers = ask(
            read(0, LOG), plain(0), made(0, "a.o"), made(4, "a"), made(1, "a"), made(0, ""), made(0, "zz"), plain(0),
            plain(1),
        )
        self.assertEqual(answers[2:], [[0, 6] + raw("cc/a"), SLOT, NONE, NAME, ABSENT, answers[1], NONE])


if __name__ == "__main__":
    unittest.main()
