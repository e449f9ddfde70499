"""Promise 5."""

import unittest

from tests.support import EMPTY, EXAMPLE, FAULTY_LOG, HUGE, NONE, SLOT, ask, ask_last, log, plain, read, record, stats


def counted(*records, total=None):
    return ask_last(read(0, log(*records, total=total)), stats(0))


class Stats(unittest.TestCase):
    def test_no_records(self):
        self.assertEqual(counted(), [0, 0, 0, 0, 0])
        self.assertEqual(counted(total=5), [0, 0, 0, 0, 0])

    def test_the_example(self):
        self.assertEqual(ask_last(read(0, EXAMPLE), stats(0)), [2, 2, 0, 0, 1])

    def test_run_and_kept(self):
        self.assertEqual(counted(record("a"), record("b", way="kept"), record("c")), [3, 2, 1, 0, 0])
        self.assertEqual(counted(record("a", way="kept"), record("b", way="kept")), [2, 0, 2, 0, 0])

    def test_exits_other_than_0(self):
        self.assertEqual(
            counted(record("a", status=1), record("b"), record("c", way="kept", status=1000000000),
                    record("d", status=10)),
            [4, 3, 1, 3, 0],
        )

    def test_sources_count_once(self):
        self.assertEqual(
            counted(record("a", "in x 1; in y 2;"), record("b", "in y 2; in z 3; out w 4;"), record("c", "in w 4;")),
            [3, 3, 0, 0, 3],
        )

    def test_outputs_are_no_sources(self):
        self.assertEqual(counted(record("a", "out x 1; out y 1;"), record("b", "in x 1;")), [2, 2, 0, 0, 0])

    def test_256_sources(self):
        records = [record(f"a{i}", "".join(f"in f{i}.{j} 1;" for j in range(8))) for i in range(32)]
        text = log(*records)
        self.assertLessEqual(len(text), 4096)
        self.assertEqual(ask_last(read(0, text), stats(0)), [32, 32, 0, 0, 256])

    def test_logs_that_are_not_sound(self):
        self.assertEqual(ask_last(read(0, FAULTY_LOG), stats(0)), [2, 2, 0, 0, 0])
        self.assertEqual(counted(record("a", status=1), record("a", status=2), total=0), [2, 2, 0, 2, 0])
        self.assertEqual(counted(record("a", "in x 1; in x 2; in y 1; out y 1;")), [1, 1, 0, 0, 1])
        self.assertEqual(counted(record("a", "in x 1;"), record("b", "in x 2;")), [2, 2, 0, 0, 1])
        self.assertEqual(counted(record("a", "in x 1; in s 1;"), record("b", "out x 2;")), [2, 2, 0, 0, 1])

    def test_refusals(self):
        for k in (-1, 4, HUGE, -HUGE):
            self.assertEqual(ask_last(read(0, EXAMPLE), read(3, EXAMPLE), stats(k)), SLOT)
        self.assertEqual(ask(stats(0), stats(3), read(0, EMPTY), stats(1)), [NONE, NONE, [0], NONE])

    def test_nothing_is_changed(self):
        answers = ask(read(0, EXAMPLE), plain(0), stats(0), stats(4), stats(1), plain(0))
        self.assertEqual(answers[1], answers[5])


if __name__ == "__main__":
    unittest.main()
