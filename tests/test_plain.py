"""Promise 3."""

import unittest

from tests.support import (
    EMPTY, EXAMPLE, FAULTY_LOG, HUGE, NONE, SLOT, ask, ask_last, log, plain, raw, read, record,
)

WHOLE = """kept a/b:c {
  tool cc;
  arg o2;
  arg c;
  arg o2;
  in x 1;
  in y 1000000000;
  out z 0;
  out w 42;
  exit 3;
}
run _ {
  tool ld;
  exit 0;
}
end 9;
"""


def shown(text):
    return ask_last(read(0, text), plain(0))


class Plain(unittest.TestCase):
    def test_no_records(self):
        self.assertEqual(shown(EMPTY), [0] + raw("end 0;\n"))
        self.assertEqual(shown("#\n end\n1000000000 ;#"), [0] + raw("end 1000000000;\n"))

    def test_every_part(self):
        self.assertEqual(shown(WHOLE), [0] + raw(WHOLE))

    def test_blanks_and_remarks_are_gone(self):
        tight = (
            "kept a/b:c{tool cc;arg o2;arg c;arg o2;in x 1;in y 1000000000;out z 0;out w 42;exit 3;}#!\n"
            "run _{tool ld;exit 0;}end 9;"
        )
        self.assertEqual(shown(tight), [0] + raw(WHOLE))
        self.assertEqual(shown(tight.replace(";", "#;\n\t;\r\n ")), [0] + raw(WHOLE))

    def test_arguments_alone_inputs_alone_outputs_alone(self):
        for row in ("arg b;", "in x 12;", "out y 300;"):
            self.assertEqual(
                shown(log(record("a", row))), [0] + raw(f"run a {{\n  tool t;\n  {row}\n  exit 0;\n}}\nend 1;\n")
            )

    def test_a_log_that_is_not_sound(self):
        text = "run a {\n  tool t;\n  in x 1;\n  exit 0;\n}\nrun b {\n  tool t;\n  out x 1;\n  exit 0;\n}\nend 7;\n"
        self.assertEqual(shown(FAULTY_LOG), [0] + raw(text))

    def test_the_largest_log(self):
        text = log(*[record(f"a{i}", "arg x;" * 8 if i < 20 else "") for i in range(32)])
        answer = shown(text)
        self.assertEqual("".join(bytes(answer[1:]).decode().split()), "".join(text.split()))

    def test_it_is_read_as_the_same_log(self):
        once = bytes(shown(EXAMPLE)[1:]).decode()
        self.assertEqual(shown(once), [0] + raw(once))

    def test_refusals(self):
        for k in (-1, 4, HUGE, -HUGE):
            self.assertEqual(ask_last(read(0, EXAMPLE), read(3, EXAMPLE), plain(k)), SLOT)
        self.assertEqual(ask(plain(0), plain(3), read(0, EMPTY), plain(1)), [NONE, NONE, [0], NONE])

    def test_nothing_is_changed(self):
        answers = ask(read(0, WHOLE), plain(0), plain(4), plain(1), plain(0))
        self.assertEqual(answers[1], answers[4])


if __name__ == "__main__":
    unittest.main()
