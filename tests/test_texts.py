"""[3] and [30]: texts of programs and of data."""

import unittest

from partedlanes.errors import BadData, BadProgram, BadText
from partedlanes.lanes import Data
from partedlanes.programs import Program
from partedlanes.texts import format_data, format_program, parse_data, parse_program
from tests.helpers import STRANGE, refused
from tests.literal import chances, some_data, some_program
from tests.test_roads import NO_PROGRAMS

KINDS = ("any", "all", "same")
ROWS = [("set", "x", 1), ("copy", "x", "y"), ("take", "y"), ("if", "x", 0, 11, 10), ("go", 0), ("group", "see", None),
        ("group", "b", 5), ("meet", "abcdefgh"), ("any", "x", 2, "y"), ("all", "y", 0, "x"), ("same", "x", "y"), ("end",)]
TEXT = """values 3
registers x y
set x 1
copy x y
take y
if x 0 11 10
go 0
group see -
group b 5
meet abcdefgh
any x 2 y
all y 0 x
same x y
end
"""
SMALL = "values 2\nregisters x\ngroup a -\nif x 1 0 1\n"
NO_TEXTS = (*STRANGE, True, False, 0, 1, 12, (), [], {}, ("values 2",), ["values 2", "registers x", "end"], b"-",
            SMALL.encode(), Data(1), Program([("end",)]))

# Signs that are digits, blanks or letters elsewhere, and such as stand beside the right ones.
SIGNS = "\n\r\t\f\v -+_.,;#:0129azAZ\0\x1c\x85\xa0\xad\xb2\xbd\u0661\u0967\u2028\u3000\uff11\uff41\u0430"


class TestPrograms(unittest.TestCase):
    def test_each_kind_of_row(self):
        program = Program(ROWS, registers=("x", "y"), values=3)
        self.assertEqual(format_program(program), TEXT)
        self.assertEqual(parse_program(TEXT), program)

    def test_registers_and_values(self):
        for registers in (("x",), ("abcdefgh",), ("x", "y"), ("set", "end"), ("values", "meet")):
            for values in (2, 3):
                program = Program([("take", registers[-1])], registers=registers, values=values)
                words = " ".join(registers)
                self.assertEqual(format_program(program), f"values {values}\nregisters {words}\ntake {registers[-1]}\n")
                self.assertEqual(parse_program(format_program(program)), program)

    def test_twenty_four_rows_with_long_words(self):
        row = ("group", "abcdefgh", 23)
        program = Program([*[row] * 23, ("if", "abcdefgh", 2, 23, 24)], registers=("abcdefgh", "ijklmnop"), values=3)
        self.assertEqual(parse_program(format_program(program)), program)
        text = format_program(program).replace("group abcdefgh 23\n", "group abcdefgh 23\n" * 2, 1)
        refused(self, BadText, text, lambda: parse_program(text))

    def test_any_programs(self):
        for chance in chances(300):
            program = some_program(chance, 24, KINDS)
            text = format_program(program)
            self.assertEqual(parse_program(text), program)
            self.assertEqual(format_program(parse_program(text)), text)

    def test_wrong_programs(self):
        for program in (*NO_PROGRAMS, TEXT, Data(1)):
            refused(self, BadProgram, program, lambda: format_program(program))

    def test_no_texts(self):
        for text in NO_TEXTS:
            refused(self, BadText, text, lambda: parse_program(text))

    def test_texts_otherwise_by_one_sign(self):
        for text in (TEXT, SMALL):
            for place in range(len(text) + 1):
                for bent in [text[:place] + text[place + 1:],
                             *[text[:place] + sign + text[place:] for sign in SIGNS],
                             *[text[:place] + sign + text[place + 1:] for sign in SIGNS]]:
                    self.is_read_just_so(bent)

    def is_read_just_so(self, text):
        """A text is refused, or it is what is written for the program that is read."""
        try:
            program = parse_program(text)
        except BadText as error:
            self.assertIs(error.value, text)
        else:
            self.assertEqual(format_program(program), text)

    def test_texts_that_are_refused(self):
        rows = SMALL.split("\n")
        wrong = [
            "", "\n", "-", "values 2", "values 2\n", "values 2\nregisters x", "values 2\nregisters x\n", SMALL[:-1],
            SMALL + "\n", "\n" + SMALL, SMALL + " ", SMALL.replace("\n", "\r\n"), SMALL.replace("\n", "\r"),
            SMALL.replace(" ", "  ", 1), SMALL.replace("x\n", "x \n"), SMALL.replace("group", " group"),
            SMALL.replace(" ", "\t"), SMALL.upper(), SMALL.replace("2", "02"), SMALL.replace("2", "+2"),
            SMALL.replace("2", "4"), SMALL.replace("2", "1"), SMALL.replace("2", "-"), SMALL.replace("2", "two"),
            SMALL.replace("2", "\u0662"), SMALL.replace("x 1", "x 01"), SMALL.replace("x 1", "x +1"),
            SMALL.replace("x 1", "x -1"), SMALL.replace("x 1", "x 2"), SMALL.replace("x 1", "x 1.0"),
            SMALL.replace("0 1\n", "0 -\n"), SMALL.replace("-", "None"), SMALL.replace("-", "0 "), SMALL.replace(" -", ""),
            SMALL.replace("0 1\n", "0 5\n"), SMALL.replace("if", "of"), SMALL.replace("x\n", "x x\n"),
            SMALL.replace("x\n", "x y z\n"), SMALL.replace("x\n", "X\n"), SMALL.replace("x\n", "\n"),
            SMALL.replace("registers x", "registers"), SMALL.replace("registers", "register"),
            SMALL.replace("values", "value"), "values 2 2\nregisters x\nend\n", "values\nregisters x\nend\n",
            "values 2\nregisters y\ntake x\n", "values 2\nregisters x\nend\n\n", "values 2\nregisters x\n\nend\n",
            "registers x\nvalues 2\nend\n", "values 2\nregisters x\ngo 99\n", "values 2\nregisters x\ngo 1" + "0" * 2900,
            "values 2\nregisters x\nend", "values 2\nregisters x\nend -\n", "values 2\nregisters x\ntake -\n",
            *["\n".join(rows[:place] + rows[place + 1:]) for place in range(2)],
        ]
        for text in wrong:
            refused(self, BadText, text, lambda: parse_program(text))

    def test_lines_left_out(self):
        lines = TEXT.splitlines(keepends=True)
        for place in range(len(lines)):
            self.is_read_just_so("".join(lines[:place] + lines[place + 1:]))
        for place in range(2):
            text = "".join(lines[:place] + lines[place + 1:])
            refused(self, BadText, text, lambda: parse_program(text))

    def test_texts_of_three_thousand_signs_and_one_more(self):
        for many in (2999, 3000, 3001, 10 ** 6):
            for text in (SMALL.ljust(many), SMALL.ljust(many, "\n"), "1" * many, "-" * many):
                refused(self, BadText, text, lambda: parse_program(text))

    def test_names_of_arguments(self):
        self.assertEqual(format_program(program=parse_program(text=SMALL)), SMALL)


class TestData(unittest.TestCase):
    def test_what_is_written(self):
        for data, text in ((Data(), "-"), (Data(0, 0), "-"), (Data(1), "1"), (Data(0, 2, 0, 1, 0), "0201"),
                           (Data(*[2] * 60), "2" * 60), (Data(*[0] * 59, 1), "0" * 59 + "1")):
            self.assertEqual(format_data(data), text)
            self.assertEqual(parse_data(text), data)
            self.assertIsInstance(parse_data(text), Data)

    def test_any_data(self):
        for chance in chances(200):
            data = some_data(chance, 3, 60)
            self.assertEqual(parse_data(format_data(data)), data)

    def test_texts_that_are_refused(self):
        for text in (*NO_TEXTS, "", "0", "10", "00", "1 ", " 1", "1\n", "-1", "1-", "--", "- ", "3", "13", "a", "1a", "+1",
                     "1,1", "1 1", "Data(1)", "None", "0" * 60, "1" * 61, "1" * 60 + "-", "0" * 60 + "1", "2" * 1000,
                     "\u0661", "\uff11", "\xb2", "1\u0661", "\u0661" * 2, "1\0", "\0", "1_1", "1.", "1\u200b"):
            refused(self, BadText, text, lambda: parse_data(text))

    def test_wrong_data(self):
        for data in (*STRANGE, (), (1,), [1], "1", "-", 1, True, Program([("end",)])):
            refused(self, BadData, data, lambda: format_data(data))

    def test_names_of_arguments(self):
        self.assertEqual(format_data(data=parse_data(text="021")), "021")


if __name__ == "__main__":
    unittest.main()
