"""Promise 4."""

import unittest

from tests.support import EMPTY, EXAMPLE, HUGE, NONE, SLOT, ask, ask_last, fault, log, plain, raw, read, record


def told(*records, total=None):
    return ask_last(read(0, log(*records, total=total)), fault(0))


def at(number, name):
    return [number] + raw(name)


class Sound(unittest.TestCase):
    def test_sound_logs(self):
        self.assertEqual(ask_last(read(0, EMPTY), fault(0)), [0])
        self.assertEqual(ask_last(read(0, EXAMPLE), fault(0)), [0])

    def test_a_source_may_be_read_by_many(self):
        self.assertEqual(told(record("a", "in s 1;"), record("b", "in s 1;"), record("c", "in s 1;")), [0])

    def test_a_made_file_may_be_read_by_many_later_ones(self):
        self.assertEqual(told(record("a", "out x 1;"), record("b", "in x 1;"), record("c", "in x 1;")), [0])

    def test_actions_files_tools_and_arguments_may_share_names(self):
        self.assertEqual(told(record("a", "arg a; arg a; in b 1; out a 1;", tool="a"), record("b", "in a 1;")), [0])

    def test_run_or_kept_and_the_exit_do_not_count(self):
        self.assertEqual(told(record("a", way="kept", status=7), record("b", way="run", status=1)), [0])


class Faults(unittest.TestCase):
    def test_1_an_earlier_record_has_the_same_name(self):
        self.assertEqual(told(record("a"), record("a")), at(1, "a"))
        self.assertEqual(told(record("long/name"), record("b"), record("long/name", way="kept")), at(1, "long/name"))
        self.assertEqual(told(record("a"), record("A"), record("aa")), [0])

    def test_2_a_file_is_twice(self):
        self.assertEqual(told(record("a", "in x 1; in x 1;")), at(2, "a"))
        self.assertEqual(told(record("a", "out x 1; out x 1;")), at(2, "a"))
        self.assertEqual(told(record("a", "in x 1; out x 1;")), at(2, "a"))
        self.assertEqual(told(record("a", "in x 1; in y 1; out z 1; out x 2;")), at(2, "a"))
        self.assertEqual(told(record("a", "in x 1; out X 1;"), record("bc", "in y 1; in z 1; in y 2;")), at(2, "bc"))

    def test_3_an_output_is_one_of_an_earlier_record(self):
        self.assertEqual(told(record("a", "out x 1;"), record("b", "out x 1;")), at(3, "b"))
        self.assertEqual(told(record("a", "out w 1; out x 1;"), record("b"), record("c", "out y 1; out x 1;")),
                         at(3, "c"))

    def test_4_another_number_than_in_an_earlier_record(self):
        self.assertEqual(told(record("a", "in x 1;"), record("b", "in x 2;")), at(4, "b"))
        self.assertEqual(told(record("a", "out x 1;"), record("b", "in x 2;")), at(4, "b"))
        self.assertEqual(told(record("a", "in x 1;"), record("b"), record("c", "in y 1; in x 0;")), at(4, "c"))
        self.assertEqual(told(record("a", "in x 0; in z 1;"), record("b", "in y 1; in x 1;")), at(4, "b"))
        self.assertEqual(
            told(record("a", "in x 1;"), record("b", "in x 1;"), record("c", "in x 1; in y 2;"), record("d", "in y 3;")),
            at(4, "d"),
        )

    def test_5_an_input_is_made_later(self):
        self.assertEqual(told(record("a", "in x 1;"), record("b", "out x 1;")), at(5, "a"))
        self.assertEqual(told(record("a"), record("b", "in y 1; in x 1;"), record("c"), record("d", "out z 1; out x 1;")),
                         at(5, "b"))

    def test_5_not_where_an_earlier_record_makes_it_too(self):
        self.assertEqual(told(record("a", "out x 1;"), record("b", "in x 1;"), record("c", "out x 1;")), at(3, "c"))

    def test_6_the_number_behind_end(self):
        for total in (1, 3, 0, 1000000000):
            self.assertEqual(told(record("a"), record("b"), total=total), [6])
        self.assertEqual(told(total=1), [6])
        self.assertEqual(told(record("a"), record("b"), total=2), [0])


class Order(unittest.TestCase):
    def test_1_before_2(self):
        self.assertEqual(told(record("a"), record("a", "in x 1; in x 1;")), at(1, "a"))

    def test_1_before_3_4_and_5(self):
        self.assertEqual(told(record("a", "out x 1;"), record("a", "out x 1;")), at(1, "a"))
        self.assertEqual(told(record("a", "in x 1;"), record("a", "in x 2;")), at(1, "a"))
        self.assertEqual(told(record("a"), record("a", "in x 2;"), record("b", "out x 2;")), at(1, "a"))

    def test_2_before_3(self):
        self.assertEqual(told(record("a", "out x 1;"), record("b", "out x 1; out x 1;")), at(2, "b"))

    def test_2_before_4_and_5(self):
        self.assertEqual(told(record("a", "in x 1;"), record("b", "in x 1; in x 2;")), at(2, "b"))
        self.assertEqual(told(record("b", "in y 1; in y 1; in x 1;"), record("c", "out x 1;")), at(2, "b"))

    def test_3_before_4(self):
        self.assertEqual(told(record("a", "out x 1;"), record("b", "out x 2;")), at(3, "b"))
        self.assertEqual(told(record("a", "in s 1; out x 1;"),
                              record("b", "in s 2; out x 1;")), at(3, "b"))

    def test_3_before_5(self):
        self.assertEqual(
            told(record("a", "out x 1;"), record("b", "in y 1; out x 1;"), record("c", "out y 1;")), at(3, "b")
        )

    def test_4_before_5(self):
        self.assertEqual(
            told(record("a", "in s 1;"), record("b", "in y 1; in s 2;"), record("c", "out y 1;")), at(4, "b")
        )

    def test_record_by_record(self):
        self.assertEqual(
            told(record("a", "in x 1;"), record("b", "out x 1;"), record("a")), at(5, "a")
        )
        self.assertEqual(told(record("a", "in s 1;"), record("b", "in s 2;"), record("a")), at(4, "b"))
        self.assertEqual(told(record("a", "in x 1; in x 1;"), record("a")), at(2, "a"))

    def test_a_later_output_with_another_number_is_the_earlier_records_fault_5(self):
        self.assertEqual(told(record("a", "in x 1;"), record("b", "out x 2;")), at(5, "a"))

    def test_6_behind_all_records(self):
        self.assertEqual(told(record("a"), record("a"), total=9), at(1, "a"))
        self.assertEqual(told(record("a"), record("b", "out x 1;"), record("c", "out x 1;"), total=9), at(3, "c"))

    def test_the_last_of_32_records(self):
        records = [record(f"a{i}") for i in range(31)]
        self.assertEqual(told(*records, record("z")), [0])
        self.assertEqual(told(*records, record("a0")), at(1, "a0"))


class Refusals(unittest.TestCase):
    def test_slot_and_none(self):
        for k in (-1, 4, HUGE, -HUGE):
            self.assertEqual(ask_last(read(0, EXAMPLE), read(3, EXAMPLE), fault(k)), SLOT)
        self.assertEqual(ask(fault(0), fault(3), read(0, EMPTY), fault(1)), [NONE, NONE, [0], NONE])

    def test_nothing_is_changed(self):
        answers = ask(read(0, EXAMPLE), plain(0), fault(0), fault(-1), fault(1), plain(0), fault(0))
        self.assertEqual(answers[1], answers[5])
        self.assertEqual(answers[2], answers[6])


if __name__ == "__main__":
    unittest.main()
