"""What promises 8 to 12 have in common: the refusals of two logs, and that nothing is changed."""

import unittest

from tests.support import (
    EMPTY, EXAMPLE, FAULTY, FAULTY_LOG, HUGE, NONE, OTHER_EXAMPLE, SLOT, ask, ask_last, first, log, plain, read, record,
    roots, steady, unlike, why,
)

CALLS = (unlike, first, roots, lambda j, k: why(j, k, "c"), steady)

# One log for each fault.
FAULTY_LOGS = (
    log(record("c"), record("c")),
    log(record("c", "in x 1; out x 1;")),
    log(record("c", "out x 1;"), record("b", "out x 1;")),
    log(record("c", "in x 1;"), record("b", "in x 2;")),
    log(record("c", "in x 1;"), record("b", "out x 1;")),
    log(record("c"), total=0),
)


class Refusals(unittest.TestCase):
    def refused(self, refusal, *calls):
        for call in CALLS:
            self.assertEqual(ask_last(*calls[:-1], call(*calls[-1])), refusal, calls)

    def test_slot(self):
        reads = [read(k, EXAMPLE) for k in range(4)]
        for bad in (-1, 4, HUGE, -HUGE, -4):
            self.refused(SLOT, *reads, (bad, 0))
            self.refused(SLOT, *reads, (3, bad))
            self.refused(SLOT, *reads, (bad, bad))

    def test_none(self):
        self.refused(NONE, (0, 0))
        self.refused(NONE, read(0, EXAMPLE), (0, 1))
        self.refused(NONE, read(0, EXAMPLE), (1, 0))
        self.refused(NONE, read(0, EXAMPLE), read(1, EXAMPLE), (2, 3))
        self.refused(NONE, read(0, "no log"), (0, 0))

    def test_faulty(self):
        for text in FAULTY_LOGS:
            self.refused(FAULTY, read(0, text), read(1, EXAMPLE), (0, 1))
            self.refused(FAULTY, read(0, text), read(1, EXAMPLE), (1, 0))
            self.refused(FAULTY, read(0, text), (0, 0))
            self.refused(FAULTY, read(0, text), read(1, text), (1, 0))

    def test_slot_of_the_second_before_none_of_the_first(self):
        self.refused(SLOT, (0, 4))
        self.refused(SLOT, (4, 0))
        self.refused(SLOT, read(1, EXAMPLE), (0, -1))

    def test_slot_before_faulty(self):
        self.refused(SLOT, read(0, FAULTY_LOG), (0, 4))
        self.refused(SLOT, read(0, FAULTY_LOG), (-1, 0))

    def test_none_of_the_second_before_faulty_of_the_first(self):
        self.refused(NONE, read(0, FAULTY_LOG), (0, 1))
        self.refused(NONE, read(0, FAULTY_LOG), (1, 0))

    def test_nothing_is_changed(self):
        for call in CALLS:
            answers = ask(
                read(0, EXAMPLE), read(1, OTHER_EXAMPLE), read(2, FAULTY_LOG), plain(0), plain(1), plain(2), call(0, 1),
                call(4, 0), call(0, -1), call(3, 0), call(0, 3), call(2, 0), call(0, 2),
                plain(0), plain(1), plain(2), call(0, 1), plain(3),
            )
            self.assertEqual(answers[7:13], [SLOT, SLOT, NONE, NONE, FAULTY, FAULTY])
            self.assertEqual(answers[13:], answers[3:7] + [NONE])

    def test_a_log_that_is_sound_again_is_answered(self):
        self.assertEqual(
            ask(read(0, FAULTY_LOG), steady(0, 0), read(0, EMPTY), steady(0, 0)), [[2], FAULTY, [0], [1]]
        )


if __name__ == "__main__":
    unittest.main()
