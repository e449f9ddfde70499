"""Promise 1, and the tokens and the form that it rests on."""

import unittest

from tests.support import (
    EMPTY, EXAMPLE, FAULTY_LOG, FORM, HUGE, LIMIT, LONG, SLOT, ask, ask_last, fault, log, plain, raw, read, record,
)

MOST = 1000000000


def reads(text):
    return ask_last(read(0, text))


def padded(text, length):
    return text + " " * (length - len(text))


class Form(unittest.TestCase):
    def test_how_many_records_there_are(self):
        self.assertEqual(reads(EMPTY), [0])
        self.assertEqual(reads(log(record("a"))), [1])
        self.assertEqual(reads(EXAMPLE), [2])

    def test_a_log_that_is_not_sound_is_read(self):
        self.assertEqual(ask(read(0, FAULTY_LOG), fault(0)), [[2], [5, ord("a")]])
        self.assertEqual(reads("end 31;"), [0])

    def test_every_part_of_a_record(self):
        whole = "kept a { tool t; arg b; arg c; in d 1; in e 2; out f 3; out g 4; exit 5; } end 1;"
        self.assertEqual(reads(whole), [1])

    def test_no_text_is_no_log(self):
        for text in ("", " ", "\t\n\r ", "# end 0;", "#"):
            self.assertEqual(reads(text), FORM)

    def test_wrong_forms(self):
        for text in (
            "end;", "end 0", "end a;", "0 end;", "end 0;;", "end 0; end 0;", "END 0;", "end 0;}", "end 0 0;",
            "run a { tool t; exit 0; }",
            "run a { exit 0; } end 1;",
            "run a { tool t; } end 1;",
            "run a { tool t; exit 0; end 1;",
            "run a { tool t exit 0; } end 1;",
            "run a { tool t; tool t; exit 0; } end 1;",
            "run a { tool t; exit 0; exit 0; } end 1;",
            "run a { tool t; exit b; } end 1;",
            "run a { tool 1; exit 0; } end 1;",
            "run 1 { tool t; exit 0; } end 1;",
            "run { tool t; exit 0; } end 1;",
            "run a tool t; exit 0; end 1;",
            "a { tool t; exit 0; } end 1;",
            "run a { tool t; in x; exit 0; } end 1;",
            "run a { tool t; in 1 x; exit 0; } end 1;",
            "run a { tool t; in x 1 exit 0; } end 1;",
            "run a { tool t; arg 1; exit 0; } end 1;",
            "run a { tool t; arg b 1; exit 0; } end 1;",
            "run a { tool t; arg b c; exit 0; } end 1;",
            "run a { tool t; out x; exit 0; } end 1;",
            "run a { tool t; exit 0; in x 1; } end 1;",
            "end 1; run a { tool t; exit 0; }",
        ):
            self.assertEqual(reads(text), FORM, text)

    def test_arguments_then_inputs_then_outputs(self):
        rows = ("arg b;", "in x 1;", "out y 2;")
        for first in rows:
            for second in rows:
                answer = [1] if rows.index(first) <= rows.index(second) else FORM
                self.assertEqual(reads(log(record("a", first + second))), answer, first + second)

    def test_signs_are_three(self):
        for sign in ".,:()[]":
            self.assertEqual(reads("end 0" + sign), FORM)
        self.assertEqual(reads("run a [ tool t; exit 0; ] end 1;"), FORM)


class Tokens(unittest.TestCase):
    def test_blanks(self):
        for blank in " \t\n\r":
            text = "run a{tool t;exit 0;}end 1;".replace(" ", blank)
            self.assertEqual(reads(blank + text + blank), [1])
        for byte in (0, 11, 12, 28, 133, 160, 255):
            self.assertEqual(reads("end" + chr(byte) + "0;"), FORM, byte)
            self.assertEqual(reads(EMPTY + chr(byte)), FORM, byte)

    def test_blanks_are_needed_between_words_alone(self):
        self.assertEqual(reads("run a{tool t;arg b;in x 1;out y 2;exit 0;}end 1;"), [1])
        self.assertEqual(reads("end 1 ;"), [0])
        self.assertEqual(reads("end0;"), FORM)
        self.assertEqual(reads("runa{tool t;exit 0;}end 1;"), FORM)
        self.assertEqual(reads("run a{toolt;exit 0;}end 1;"), FORM)

    def test_a_number_ends_at_the_first_other_byte(self):
        self.assertEqual(reads("end 1;"), [0])
        self.assertEqual(reads("end 1a;"), FORM)
        self.assertEqual(reads("end 1 2;"), FORM)

    def test_numbers_that_begin_with_0(self):
        self.assertEqual(reads("end 0;"), [0])
        self.assertEqual(reads("end 10;"), [0])
        for number in ("00", "01", "007", "-1", "+1", "1.0", "0x1"):
            self.assertEqual(reads(f"end {number};"), FORM, number)
        self.assertEqual(reads(log(record("a", "in x 01;"))), FORM)
        self.assertEqual(reads(log(record("a", status="00"))), FORM)

    def test_remarks(self):
        self.assertEqual(reads("# a remark ? \x00\xff ; { # }\nend 0;"), [0])
        self.assertEqual(reads("end#x\n0#x\n;#x"), [0])
        self.assertEqual(reads("end 0;#"), [0])
        self.assertEqual(reads("end 0;# up to the text's end"), [0])
        self.assertEqual(reads("end 0;# first\n# second\r\n\n#"), [0])

    def test_a_remark_ends_at_byte_10_alone(self):
        self.assertEqual(reads("#\rend 0;"), FORM)
        self.assertEqual(reads("# end 0;\n"), FORM)
        self.assertEqual(reads("end 0;#\n?"), FORM)
        self.assertEqual(reads("end 0;#\r?"), [0])

    def test_names(self):
        for name in (
            "a", "z", "A", "Z", ".", "_", "...", "._", "a-b", "a/b", "a:b", "a0", "a9", ".9", "_-", "./:-._9aZ",
            "ends", "Run", "runs", "i", "tool.", "kept1", "exit-", "x" * 32,
        ):
            text = log(record(name, f"arg {name}; in {name} 1; out {name}x 2;" if len(name) < 32 else "", tool=name))
            self.assertEqual(reads(text), [1], name)

    def test_what_is_no_name(self):
        for name in (
            "0", "9a", "-", "-a", "/", "/a", ":", ":a", "@", "[", "`", "a@", "a[b", "a`", "a,b", "a+", "a=b", "\x80",
            "a\xe4", "a b", ";", "{", "}", "x" * 33, "x" * 100,
            "run", "kept", "end", "tool", "arg", "in", "out", "exit",
        ):
            for text in (
                log(record(name)),
                log(record("a", tool=name)),
                log(record("a", f"arg {name};")),
                log(record("a", f"in {name} 1;")),
                log(record("a", f"out {name} 1;")),
            ):
                self.assertEqual(reads(text), FORM, text)

    def test_words_of_32_and_33_bytes_in_each_place(self):
        for length, answer in ((32, [1]), (33, FORM)):
            word = "x" * length
            for text in (
                log(record(word)),
                log(record("a", tool=word)),
                log(record("a", f"arg {word};")),
                log(record("a", f"in {word} 1;")),
                log(record("a", f"out {word} 1;")),
            ):
                self.assertEqual(reads(text), answer, text)


class Bounds(unittest.TestCase):
    def test_4096_and_4097_bytes(self):
        self.assertEqual(reads(padded(EMPTY, 4096)), [0])
        self.assertEqual(reads(padded(EMPTY, 4097)), LONG)
        self.assertEqual(reads("#" * 10000), LONG)

    def test_numbers_up_to_1000000000(self):
        for write in (
            lambda number: f"end {number};",
            lambda number: log(record("a", status=number)),
            lambda number: log(record("a", f"in x 1; in y {number};")),
            lambda number: log(record("a", f"out x {number}; out y 1;")),
            lambda number: log(record("a", status=number), record("b")),
        ):
            self.assertEqual(reads(write(MOST)), reads(write(1)))
            for number in (MOST + 1, 2 * MOST, 10 * MOST, HUGE, 2 ** 64, 2 ** 64 + 1):
                self.assertEqual(reads(write(number)), LIMIT, write(number))

    def test_a_number_of_very_many_digits(self):
        self.assertEqual(reads("end " + "9" * 4091 + ";"), LIMIT)
        self.assertEqual(reads("end 1" + "0" * 4090 + ";"), LIMIT)

    def test_32_and_33_records(self):
        records = [record(f"a{i}") for i in range(33)]
        self.assertEqual(reads(log(*records[:32])), [32])
        self.assertEqual(reads(log(*records)), LIMIT)

    def test_8_and_9_arguments_inputs_and_outputs(self):
        for row in ("arg x{};", "in x{} 1;", "out x{} 1;"):
            rows = [row.replace("{}", str(i)) for i in range(9)]
            self.assertEqual(reads(log(record("a", "".join(rows[:8])))), [1])
            self.assertEqual(reads(log(record("a", "".join(rows)))), LIMIT)
            self.assertEqual(reads(log(record("a", "".join(rows)), record("b"))), LIMIT)
            self.assertEqual(reads(log(record("b"), record("a", "".join(rows)))), LIMIT)

    def test_8_of_each_in_each_record(self):
        rows = "".join(
            ["arg x;"] * 8 + [f"in i{i} 1;" for i in range(8)] + [f"out o{i} 1;" for i in range(8)]
        )
        self.assertEqual(reads(log(record("a", rows), record("b", rows))), [2])


class Refusals(unittest.TestCase):
    def test_slots(self):
        for k in (0, 1, 2, 3):
            self.assertEqual(ask_last(read(k, EXAMPLE)), [2])
        for k in (-1, 4, -HUGE, HUGE, -4, 256):
            self.assertEqual(ask_last(read(k, EXAMPLE)), SLOT)

    def test_slot_is_first(self):
        for text in (padded(EMPTY, 4097), "x", f"end {MOST + 1};"):
            self.assertEqual(ask_last(read(4, text)), SLOT)

    def test_long_before_form_and_limit(self):
        self.assertEqual(reads("?" * 4097), LONG)
        self.assertEqual(reads(padded(f"end {MOST + 1};", 4097)), LONG)

    def test_form_before_limit(self):
        self.assertEqual(reads(f"end {MOST + 1}"), FORM)
        self.assertEqual(reads("".join(record(f"a{i}") for i in range(33))), FORM)
        self.assertEqual(reads(log(record("a", "arg x;" * 9)) + "?"), FORM)
        self.assertEqual(reads(f"end {MOST + 1}; x"), FORM)

    def test_a_refused_read_leaves_the_log_as_it_was(self):
        text = [0] + raw("end 5;\n")
        for refused in (padded(EMPTY, 4097), "x", "end 0", f"end {MOST + 1};", log(record("a", "arg b;" * 9))):
            self.assertEqual(ask(read(2, "end 5;"), read(2, refused), plain(2))[2], text)
            self.assertEqual(ask(read(2, refused), plain(2))[1], [-2])
        self.assertEqual(
            ask(read(0, "end 5;"), read(-1, EMPTY), read(4, EMPTY), plain(0), plain(3), plain(1)),
            [[0], SLOT, SLOT, text, [-2], [-2]],
        )

    def test_a_new_log_takes_the_place_of_the_old_one(self):
        self.assertEqual(
            ask(read(1, EXAMPLE), read(1, EMPTY), plain(1), plain(0)), [[2], [0], [0] + raw("end 0;\n"), [-2]]
        )


if __name__ == "__main__":
    unittest.main()
