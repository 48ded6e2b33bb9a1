"""[3], [4], [5] and the first paragraph of [6]: rows, programs and ways."""

import unittest

from partedlanes.errors import BadJoins, BadNumber, BadRegisters, BadRow, BadRows
from partedlanes.programs import Program
from tests.helpers import NO_INTEGERS, STRANGE, Everything, error_of, refused

# One row of each kind, right for registers x and y, three values and 24 rows.
RIGHT = (
    ("set", "x", 2), ("set", "y", 0), ("copy", "x", "y"), ("copy", "y", "y"), ("take", "y"),
    ("if", "x", 2, 0, 24), ("if", "y", 0, 24, 0), ("go", 0), ("go", 24), ("group", "a", None),
    ("group", "abcdefgh", 0), ("group", "z", 23), ("meet", "word"), ("any", "x", 1, "y"), ("all", "y", 2, "y"),
    ("same", "x", "y"), ("end",),
)

# Each right kind of row, bent in one of its places.
WRONG = (
    ("set",), ("set", "x"), ("set", "x", 2, 0), ("set", "z", 1), ("set", 0, 1), ("set", "x", 3), ("set", "x", -1),
    ("set", "x", True), ("set", "x", False), ("set", "x", 1.0), ("set", "x", "1"), ("set", "x", None),
    ["set", "x", 1], ("set", "x", (1,)), ("set", ["x"], 1),
    ("copy", "x"), ("copy", "x", "z"), ("copy", "z", "x"), ("copy", "x", 0), ("copy", "x", "y", "x"),
    ["copy", "x", "y"], ("take",), ("take", "z"), ("take", 0), ("take", "x", "y"), ("take", None), ["take", "x"],
    ("if", "x", 1, 0), ("if", "x", 1, 0, 0, 0), ("if", "z", 1, 0, 0), ("if", "x", 3, 0, 0), ("if", "x", True, 0, 0),
    ("if", "x", 1, 25, 0), ("if", "x", 1, -1, 0), ("if", "x", 1, True, 0), ("if", "x", 1, None, 0),
    ("if", "x", 1, 0, 25), ("if", "x", 1, 0, -1), ("if", "x", 1, 0, False), ("if", "x", 1, 0, None),
    ["if", "x", 1, 0, 0], ("go",), ("go", 25), ("go", -1), ("go", False), ("go", None), ("go", 0, 0), ["go", 0],
    ("go", 0.0), ("group", "a"), ("group", "a", 24), ("group", "a", -1), ("group", "a", True), ("group", "a", "0"),
    ("group", "a", 0, 0), ("group", "", 0), ("group", "abcdefghi", 0), ("group", "A", 0), ("group", "a b", 0),
    ("group", "a1", 0), ("group", "\u00e9", 0), ("group", None, None), ("group", 1, None), ["group", "a", None],
    ("group", b"a", None), ("meet",), ("meet", ""), ("meet", "a", "b"), ("meet", 1), ("meet", None), ["meet", "a"],
    ("meet", "under_"), ("any", "x", 1), ("any", "x", 1, "z"), ("any", "z", 1, "x"), ("any", "x", 3, "x"),
    ("any", "x", True, "x"), ("any", "x", 1, 0), ("any", "x", 1, "x", "x"), ["any", "x", 1, "x"],
    ("all", "x", 1), ("all", "x", 1, "z"), ("all", "z", 1, "x"), ("all", "x", -1, "x"), ("all", "x", False, "x"),
    ["all", "x", 1, "x"], ("same", "x"), ("same", "x", "z"), ("same", "z", "x"), ("same", "x", 1),
    ("same", "x", "y", "x"), ["same", "x", "y"], ("end", 0), ("end", None), ["end"], (), [], "end", ("END",),
    ("set ", "x", 1), ("loop",), (None,), (0,), (("end",),), (["end"],), 0, True, "", {"end": 0}, *STRANGE,
    (Everything(),), (Everything(), "x"), ("set", Everything(), 1), ("go", Everything()), ("meet", Everything()),
    ("group", "a", Everything()),
)


def wide(rows=None):
    """A program of 24 rows, two registers and three values."""
    return Program(rows or [("end",)] * 24, registers=("x", "y"), values=3)


class TestRows(unittest.TestCase):
    def test_right_rows(self):
        for row in RIGHT:
            for index in (0, 11, 23):
                rows = [("end",)] * 24
                rows[index] = row
                program = wide(rows)
                self.assertEqual(program[index], row)
                self.assertEqual(program.rows, tuple(rows))

    def test_wrong_rows(self):
        for row in WRONG:
            for index in (0, 11, 23):
                rows = [("end",)] * 24
                rows[index] = row
                self.assertEqual(error_of(self, BadRow, lambda: wide(rows)), index)

    def test_the_first_wrong_row_is_told(self):
        self.assertEqual(error_of(self, BadRow, lambda: Program([("end",), ("go", 9), ("go", 8), ()])), 1)

    def test_rows_hang_on_registers_values_and_end(self):
        self.assertEqual(error_of(self, BadRow, lambda: Program([("set", "x", 2)])), 0)
        self.assertEqual(len(Program([("set", "x", 2)], values=3)), 1)
        self.assertEqual(error_of(self, BadRow, lambda: Program([("take", "x")], registers=("y",))), 0)
        self.assertEqual(error_of(self, BadRow, lambda: Program([("end",), ("go", 3)])), 1)
        self.assertEqual(Program([("end",), ("go", 2)]).ways(1), [2])
        self.assertEqual(error_of(self, BadRow, lambda: Program([("end",), ("group", "a", 2)])), 1)


class TestProgram(unittest.TestCase):
    def test_registers(self):
        for registers in (("x",), ("abcdefgh",), ("x", "y"), ("set", "end"), ("a", "aa")):
            self.assertEqual(Program([("end",)], registers=registers).registers, registers)
        wrong = ((), ("x", "x"), ("x", "y", "z"), ["x"], "x", "xy", ("X",), ("",), ("abcdefghi",), (1,), (None,),
                 ("x", 1), ("x", "y "), (("x",),), {"x": 1}, 1, True, (Everything(),), *STRANGE)
        for registers in wrong:
            refused(self, BadRegisters, registers, lambda: Program([("end",)], registers=registers))

    def test_values(self):
        for values in (2, 3):
            self.assertEqual(Program([("end",)], values=values).size, values)
        for values in (0, 1, 4, -2, 10 ** 30, *NO_INTEGERS):
            refused(self, BadNumber, values, lambda: Program([("end",)], values=values))

    def test_number_of_rows(self):
        for many in (1, 2, 23, 24):
            for kind in (list, tuple):
                program = Program(kind([("end",)] * many))
                self.assertEqual([len(program), program.end, len(program.rows)], [many, many, many])
        for rows in ([], (), [("end",)] * 25, (("end",),) * 25, {0: ("end",)}, "end", 1, True, *STRANGE):
            refused(self, BadRows, rows, lambda: Program(rows))

    def test_order_of_exceptions(self):
        error_of(self, BadRegisters, lambda: Program(None, registers=None, values=None))
        error_of(self, BadNumber, lambda: Program(None, values=None))
        error_of(self, BadRows, lambda: Program(None))
        error_of(self, BadRows, lambda: Program([None] * 25))
        error_of(self, BadRow, lambda: Program([None] * 24))

    def test_arguments_are_named(self):
        program = Program(rows=[("end",)], registers=("a",), values=3)
        self.assertEqual([program.registers, program.size], [("a",), 3])
        self.assertRaises(TypeError, lambda: Program([("end",)], ("x",)))
        self.assertEqual(program.ways(index=0), [1])
        self.assertEqual(program.with_row(index=0, row=("go", 1)).rows, (("go", 1),))
        self.assertEqual(program.with_joins(joins={}), program)

    def test_defaults(self):
        program = Program([("take", "x")])
        self.assertEqual([program.registers, program.size], [("x",), 2])

    def test_kinds_of_properties(self):
        program = Program([("end",)])
        self.assertIsInstance(program.rows, tuple)
        self.assertIsInstance(program.registers, tuple)

    def test_reading_by_index(self):
        program = Program([("go", 1), ("end",)])
        self.assertEqual([program[0], program[1]], [("go", 1), ("end",)])
        for index in (-1, 2, 10 ** 20, *NO_INTEGERS):
            refused(self, BadNumber, index, lambda: program[index])

    def test_a_program_is_not_gone_over(self):
        self.assertRaises(TypeError, lambda: list(Program([("end",)])))

    def test_numbers_of_rows_by_kind(self):
        program = wide([*RIGHT, ("end",), *[("end",)] * 6])
        self.assertEqual(program.branches(), [5, 6])
        self.assertEqual(program.steering(), [13, 14, 15])
        self.assertEqual(program.groups(), [9, 10, 11])
        self.assertEqual(program.meets(), [12])
        plain = Program([("end",)])
        self.assertEqual([plain.branches(), plain.steering(), plain.groups(), plain.meets()], [[], [], [], []])

    def test_is_plain(self):
        self.assertIs(Program([("group", "a", None), ("meet", "b"), ("take", "x")]).is_plain(), True)
        for row in (("any", "x", 0, "x"), ("all", "x", 0, "x"), ("same", "x", "x")):
            self.assertIs(Program([("end",), row]).is_plain(), False)

    def test_classes(self):
        self.assertEqual(Program([("end",)]).classes(), [(0,), (1,)])
        self.assertEqual(Program([("end",)], values=3).classes(), [(0,), (1,), (2,)])
        two = Program([("end",)], registers=("b", "a"))
        self.assertEqual(two.classes(), [(0, 0), (0, 1), (1, 0), (1, 1)])
        self.assertEqual(wide().classes(), [(a, b) for a in range(3) for b in range(3)])

    def test_equality(self):
        rows = [("set", "x", 1)]
        self.assertEqual(Program(rows), Program(tuple(rows)))
        self.assertFalse(Program(rows) != Program(rows))
        self.assertNotEqual(Program(rows), Program([("set", "x", 0)]))
        self.assertNotEqual(Program(rows), Program(rows * 2))
        self.assertNotEqual(Program(rows), Program(rows, values=3))
        self.assertNotEqual(Program(rows), Program(rows, registers=("x", "y")))
        for other in (rows, tuple(rows), "program", None, 1, Everything()):
            self.assertIs(Program(rows) == other, False)
            self.assertIs(Program(rows) != other, True)

    def test_what_was_handed_in_may_change(self):
        rows = [("take", "x"), ("end",)]
        program = Program(rows)
        rows[0] = ("end",)
        rows.append(None)
        self.assertEqual(program.rows, (("take", "x"), ("end",)))

    def test_lists_that_are_told_are_new(self):
        program = Program([("if", "x", 1, 0, 1), ("any", "x", 1, "x"), ("group", "a", None), ("meet", "a")])
        tellers = (program.branches, program.steering, program.groups, program.meets, program.classes,
                   lambda: program.ways(0))
        for teller in tellers:
            told = teller()
            self.assertIsInstance(told, list)
            before = list(told)
            told.append(None)
            self.assertEqual(teller(), before)


class TestWithRow(unittest.TestCase):
    def test_another_row(self):
        program = Program([("take", "x"), ("go", 0), ("end",)], registers=("x", "y"), values=3)
        other = program.with_row(1, ("set", "y", 2))
        self.assertEqual(other.rows, (("take", "x"), ("set", "y", 2), ("end",)))
        self.assertEqual([other.registers, other.size], [("x", "y"), 3])
        self.assertEqual(program.rows, (("take", "x"), ("go", 0), ("end",)))
        self.assertEqual(program.with_row(0, ("end",)).rows[0], ("end",))
        self.assertEqual(program.with_row(2, ("go", 3)).rows[2], ("go", 3))
        self.assertEqual(program.with_row(2, ("end",)), program)

    def test_wrong_arguments(self):
        program = wide()
        for index in (-1, 24, *NO_INTEGERS):
            refused(self, BadNumber, index, lambda: program.with_row(index, ("end",)))
        for row in WRONG:
            refused(self, BadRow, row, lambda: program.with_row(0, row))
        error_of(self, BadNumber, lambda: program.with_row(24, None))
        self.assertEqual(program, wide())


class TestWithJoins(unittest.TestCase):
    def setUp(self):
        self.rows = (("if", "x", 1, 0, 1), ("if", "x", 0, 3, 3), ("go", 0))
        self.program = Program(self.rows)

    def test_other_joins(self):
        joins = {1: 0, 0: 3}
        other = self.program.with_joins(joins)
        self.assertEqual(other.rows, (("if", "x", 1, 0, 3), ("if", "x", 0, 3, 0), ("go", 0)))
        self.assertEqual(joins, {1: 0, 0: 3})
        self.assertEqual(self.program.rows, self.rows)
        self.assertEqual(self.program.with_joins({1: 2}).rows[1], ("if", "x", 0, 3, 2))
        self.assertEqual(self.program.with_joins({}), self.program)

    def test_other_joins_keep_registers_and_values(self):
        other = wide([("if", "x", 1, 0, 1)]).with_joins({0: 0})
        self.assertEqual([other.registers, other.size], [("x", "y"), 3])

    def test_wrong_joins(self):
        wrong = ({2: 0}, {3: 0}, {-1: 0}, {0: 4}, {0: -1}, {0: None}, {0: True}, {True: 0}, {False: 0}, {0: "1"},
                 {"0": 1}, {0.0: 1}, {1.0: 1}, {0: 1.0}, {0: 1, 2: 0}, {None: 0}, {(): 0}, {0: Everything()},
                 {Everything(): 0}, [(0, 1)], [], (), "", 0, *STRANGE)
        for joins in wrong:
            refused(self, BadJoins, joins, lambda: self.program.with_joins(joins))
        self.assertEqual(self.program.rows, self.rows)


class TestWays(unittest.TestCase):
    def test_ways_of_each_kind(self):
        rows = [("set", "x", 1), ("copy", "x", "y"), ("take", "x"), ("group", "a", None), ("meet", "a"),
                ("any", "x", 1, "y"), ("all", "x", 1, "y"), ("same", "x", "y")]
        program = Program(rows, registers=("x", "y"))
        for index in range(8):
            self.assertEqual(program.ways(index), [index + 1])

    def test_ways_of_branches(self):
        program = Program([("if", "x", 1, 3, 3), ("if", "x", 1, 0, 3), ("if", "x", 1, 3, 0)])
        self.assertEqual([program.ways(0), program.ways(1), program.ways(2)], [[1, 3], [0, 2], [3]])

    def test_a_branch_to_itself(self):
        self.assertEqual(Program([("if", "x", 1, 0, 1)]).ways(0), [0, 1])

    def test_ways_of_goes_and_ends(self):
        program = Program([("go", 2), ("go", 1), ("go", 0), ("go", 5), ("end",)])
        self.assertEqual([program.ways(index) for index in range(5)], [[2], [1], [0], [5], [5]])

    def test_wrong_numbers(self):
        program = Program([("end",)])
        for index in (-1, 1, 2, *NO_INTEGERS):
            refused(self, BadNumber, index, lambda: program.ways(index))


if __name__ == "__main__":
    unittest.main()
