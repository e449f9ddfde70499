"""Promise 2."""

import re
import unittest

from tests.support import EMPTY, EXAMPLE, FAULTY_LOG, ask, ask_last, log, plain, read, record, where

MOST = 1000000000


def found(text):
    return ask_last(where(text))


class Where(unittest.TestCase):
    def test_logs(self):
        for text in (EMPTY, EXAMPLE, FAULTY_LOG, "end 0;# up to the text's end", EMPTY + " " * 4090):
            self.assertEqual(found(text), [0, 0])

    def test_long(self):
        self.assertEqual(found(EMPTY + " " * 4090), [0, 0])
        self.assertEqual(found(EMPTY + " " * 4091), [3, 0])
        self.assertEqual(found("end 0; " + "?" * 4090), [3, 0])
        self.assertEqual(found(f"end {MOST + 1}; " + " " * 4090), [3, 0])

    def test_limit(self):
        for text in (
            f"end {MOST + 1};",
            log(record("a", "arg x;" * 9)),
            log(record("a", "in x 1;" * 9)),
            log(record("a", "out x 1;" * 9)),
            log(*[record("a")] * 33),
            log(record("a", status=MOST + 1)),
        ):
            self.assertEqual(found(text), [5, 0])

    def test_form_before_limit(self):
        self.assertEqual(found(f"end {MOST + 1};;"), [4, 15])
        text = "".join([record("a")] * 33)
        self.assertEqual(found(text), [4, len(text)])

    def test_a_token_that_cannot_stand(self):
        for text, place in (
            ("x", 0),
            ("  x", 2),
            ("; end 0;", 0),
            ("en", 0),
            ("end x;", 4),
            ("end 0 0;", 6),
            ("end 1a;", 5),
            ("end 0; end 0;", 7),
            ("end 0;;", 6),
            ("run run {", 4),
            ("run a tool", 6),
            ("run a { exit", 8),
            ("run a { tool t; in x;", 20),
            ("run a { tool t; out x 1; in", 25),
            ("run a { tool t; in x 1; arg", 24),
            ("run a { tool t; out x 1; arg", 25),
            ("run a { tool t; tool", 16),
            ("run a { tool t; exit 0; exit", 24),
            ("run a { tool t; exit 0; } }", 26),
            ("# x\n x", 5),
        ):
            self.assertEqual(found(text), [4, place], text)

    def test_a_word_that_is_too_long_for_a_name(self):
        self.assertEqual(found("run " + "x" * 33 + " {"), [4, 4])
        self.assertEqual(found("run " + "x" * 32 + " {"), [4, 38])

    def test_where_no_token_begins(self):
        for text, place in (
            ("?", 0),
            ("end ?", 4),
            ("end 0;?", 6),
            ("end 0; \x00", 7),
            ("end -1;", 4),
            ("end 01;", 4),
            ("end 00;", 4),
            ("end 0\x0b;", 5),
            ("run a/b:c-d.e_f+", 15),
            ("run -a {", 4),
            ("run /a {", 4),
            ("run :a {", 4),
            ("run a\xff {", 5),
            ("run a { tool t; in x 007; }", 21),
            ("#\r\n?", 3),
        ):
            self.assertEqual(found(text), [4, place], text)

    def test_a_text_that_ends_too_early(self):
        for text in (
            "", " ", "\n\n", "# end 0;", "# end 0;\n", "end", "end ", "end 0", "end 0 # ;", "run", "run a", "run a {",
            "run a { tool", "run a { tool t", "run a { tool t;", "run a { tool t; arg", "run a { tool t; arg b",
            "run a { tool t; in x", "run a { tool t; in x 1", "run a { tool t; in x 1;", "run a { tool t; out x 1;",
            "run a { tool t; exit", "run a { tool t; exit 0", "run a { tool t; exit 0;", "run a { tool t; exit 0; }",
        ):
            self.assertEqual(found(text), [4, len(text)], text)

    def test_a_text_of_4096_bytes_that_ends_too_early(self):
        self.assertEqual(found("end 0" + " " * 4091), [4, 4096])
        self.assertEqual(found("end 0" + " " * 4092), [3, 0])

    def test_the_first_from_the_left(self):
        self.assertEqual(found("end x ?"), [4, 4])
        self.assertEqual(found("end ? x"), [4, 4])
        self.assertEqual(found("run run ? {"), [4, 4])
        self.assertEqual(found("? x"), [4, 0])
        self.assertEqual(found("x ?"), [4, 0])
        self.assertEqual(found("run a { x"), [4, 8])
        self.assertEqual(found("run a { 01 x"), [4, 8])

    def test_nothing_is_changed(self):
        self.assertEqual(
            ask(where(EXAMPLE), plain(0), read(0, EMPTY), plain(0), where(EXAMPLE), where("x"), plain(0))[3:],
            [[0] + [ord(sign) for sign in "end 0;\n"], [0, 0], [4, 0], [0] + [ord(sign) for sign in "end 0;\n"]],
        )


# A letter for each kind of token, how such a token is written, and the form of a log over these letters.
KINDS = {
    "r": "run", "k": "kept", "e": "end", "t": "tool", "a": "arg", "i": "in", "o": "out", "x": "exit",
    "n": "name", "0": "7", "l": "l" * 33, ";": ";", "{": "{", "}": "}",
}
FORM = re.compile(r"([rk]n\{tn;(an;)*(in0;)*(on0;)*x0;\})*e0;")
WHOLE = "rn{tn;an;in0;on0;x0;}e0;"


def can_go_on(kinds):
    """Whether a log begins so: if one does, an end of WHOLE makes one of it."""
    return any(FORM.fullmatch(kinds + WHOLE[i:]) for i in range(len(WHOLE) + 1))


def expected(kinds):
    place = 0
    for i in range(len(kinds)):
        if not can_go_on(kinds[:i + 1]):
            return [4, place]
        place += len(KINDS[kinds[i]]) + 1
    return [0, 0] if FORM.fullmatch(kinds) else [4, place]


class EveryStep(unittest.TestCase):
    def check(self, kinds):
        text = "".join(KINDS[kind] + " " for kind in kinds)
        self.assertEqual(found(text), expected(kinds), text)

    def test_each_token_changed_added_or_left_out(self):
        for base in (WHOLE, "kn{tn;x0;}" + WHOLE, "rn{tn;an;an;in0;in0;on0;on0;x0;}e0;", "rn{tn;on0;x0;}e0;", "e0;"):
            for i in range(len(base) + 1):
                self.check(base[:i])
                self.check(base[:i] + base[i + 1:])
                for kind in KINDS:
                    self.check(base[:i] + kind + base[i:])
                    self.check(base[:i] + kind + base[i + 1:])


if __name__ == "__main__":
    unittest.main()
