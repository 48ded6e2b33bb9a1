"""[3] and [8]: data, and lanes alone."""

import unittest

from partedlanes.errors import BadData, BadNumber, BadProgram
from partedlanes.lanes import Alone, Data
from partedlanes.programs import Program
from tests.helpers import NO_INTEGERS, STRANGE, Everything, error_of, refused

WRONG_LISTS = ([3], [-1], [True], [False, 1], [1.0], ["1"], [None], [[1]], [(1,)], [Everything()], [0] * 61,
               [1, 0, 2, 3])


class TestData(unittest.TestCase):
    def test_zeros_at_the_end_are_dropped(self):
        self.assertEqual(Data(0, 1, 0, 0).digits, (0, 1))
        self.assertEqual(Data().digits, ())
        self.assertEqual(Data(0, 0, 0).digits, ())
        self.assertEqual(Data(2, 0, 1).digits, (2, 0, 1))
        self.assertEqual([len(Data(0, 1, 0, 0)), len(Data()), len(Data(0)), len(Data(1, 1))], [2, 0, 0, 2])

    def test_wrong_values(self):
        for values in WRONG_LISTS:
            self.assertEqual(error_of(self, BadData, lambda: Data(*values)), tuple(values))
        for value in (*STRANGE, (1,), [1], "0"):
            told = error_of(self, BadData, lambda: Data(1, value))
            self.assertIsInstance(told, tuple)
            self.assertIs(told[1], value)

    def test_at_most_sixty_values_zeros_counted(self):
        self.assertEqual(Data(*[0] * 60).digits, ())
        self.assertEqual(Data(*[2] * 60).digits, (2,) * 60)
        self.assertEqual(error_of(self, BadData, lambda: Data(*[0] * 61)), (0,) * 61)
        self.assertEqual(error_of(self, BadData, lambda: Data(*[1] * 61)), (1,) * 61)

    def test_of(self):
        self.assertEqual(Data.of([1, 0, 2, 0]), Data(1, 0, 2))
        self.assertEqual(Data.of((0, 1)), Data(0, 1))
        self.assertEqual(Data.of([]), Data())
        self.assertEqual(Data.of(values=[1]), Data(1))
        self.assertEqual(len(Data.of([1] * 60)), 60)
        for values in WRONG_LISTS:
            self.assertEqual(error_of(self, BadData, lambda: Data.of(values)), tuple(values))
        for values in (*STRANGE, "01", 1, True, {0: 1}, Data(1)):
            refused(self, BadData, values, lambda: Data.of(values))

    def test_a_list_that_was_handed_in_may_change(self):
        values = [1, 2]
        data = Data.of(values)
        values[0] = 0
        self.assertEqual(data.digits, (1, 2))

    def test_reading(self):
        data = Data(1, 0, 2, 0)
        self.assertEqual([data[index] for index in (0, 1, 2, 3, 4, 59, 60, 10 ** 30)], [1, 0, 2, 0, 0, 0, 0, 0])
        self.assertEqual(Data()[0], 0)
        for index in (-1, -3, *NO_INTEGERS):
            refused(self, BadNumber, index, lambda: data[index])

    def test_data_are_not_gone_over(self):
        self.assertRaises(TypeError, lambda: list(Data(1)))

    def test_equality(self):
        self.assertEqual(Data(1, 0), Data(1))
        self.assertIs(Data(1) != Data(1, 0, 0), False)
        self.assertNotEqual(Data(1), Data(1, 1))
        self.assertNotEqual(Data(0, 1), Data(1))
        for other in ((1,), [1], "Data(1)", 1, None, Everything()):
            self.assertIs(Data(1) == other, False)
            self.assertIs(Data(1) != other, True)

    def test_shown(self):
        self.assertEqual(repr(Data(1, 0, 1)), "Data(1, 0, 1)")
        self.assertEqual(repr(Data(1, 0, 0)), "Data(1)")
        self.assertEqual(repr(Data()), "Data()")
        self.assertEqual(repr([Data(0, 2)]), "[Data(0, 2)]")


class TestSums(unittest.TestCase):
    def test_sums(self):
        self.assertEqual(Data(0, 1, 0) + Data(1, 0), Data(0, 1, 1))
        self.assertEqual(Data(0, 1) + [0, 1], Data(0, 1, 0, 1))
        self.assertEqual(Data(0, 1) + (2,), Data(0, 1, 2))
        self.assertEqual([1, 0, 0] + Data(0, 1), Data(1, 0, 1))
        self.assertEqual((2, 0) + Data(1), Data(2, 1))
        self.assertEqual([] + Data() + (), Data())
        self.assertEqual(Data(1) + [0, 0] + [1], Data(1, 1))

    def test_nothing_is_changed(self):
        one, other, values = Data(1), Data(2), [0, 1]
        total = one
        total += other
        self.assertEqual([one, other, total], [Data(1), Data(2), Data(1, 2)])
        self.assertEqual([one + values, values + one], [Data(1, 0, 1), Data(0, 1, 1)])
        self.assertEqual([one, values], [Data(1), [0, 1]])

    def test_the_other_one_is_of_another_kind(self):
        for other in (*STRANGE, 1, True, 0, "1", "", {0: 1}, Alone(LOOP, Data())):
            refused(self, BadData, other, lambda: Data(1) + other)
            refused(self, BadData, other, lambda: other + Data(1))

    def test_one_that_answers_by_itself(self):
        class Answers:
            def __add__(self, other):
                return "answered"

            def __mul__(self, other):
                return "answered"

            def __radd__(self, other):
                return "not asked"

        self.assertEqual([Answers() + Data(1), Answers() * Data(1)], ["answered", "answered"])
        other = Answers()
        refused(self, BadData, other, lambda: Data(1) + other)

    def test_wrong_lists_on_either_side(self):
        for values in WRONG_LISTS:
            refused(self, BadData, values, lambda: Data(1) + values)
            refused(self, BadData, values, lambda: values + Data(1))
            refused(self, BadData, values, lambda: Data() + values)
            refused(self, BadData, values, lambda: values + Data())

    def test_limit_of_data_and_data(self):
        thirty = Data(*[1] * 30)
        self.assertEqual(len(thirty + thirty), 60)
        long = Data(*[1] * 31)
        refused(self, BadData, long, lambda: thirty + long)
        refused(self, BadData, thirty, lambda: long + thirty)
        zeros = Data(*[1] * 30, *[0] * 30)
        self.assertEqual(zeros + zeros, Data(*[1] * 60))

    def test_zeros_at_the_end_of_a_list_on_the_right_count(self):
        fine = [0] * 59
        self.assertEqual(Data(1) + fine, Data(1))
        over = [0] * 60
        refused(self, BadData, over, lambda: Data(1) + over)
        self.assertEqual(Data() + over, Data())
        self.assertEqual(Data(0, 0) + over, Data())

    def test_zeros_at_the_end_of_a_list_on_the_left_do_not_count(self):
        self.assertEqual([1] + [0] * 59 + Data(1), Data(1, 1))
        self.assertEqual([0] * 60 + Data(*[2] * 60), Data(*[2] * 60))
        over = [0, 1]
        refused(self, BadData, over, lambda: over + Data(*[2] * 59))
        self.assertEqual(len([0, 1] + Data(*[2] * 58)), 60)


class TestTimes(unittest.TestCase):
    def test_times(self):
        self.assertEqual(Data(1, 0, 2, 0) * 2, Data(1, 0, 2, 1, 0, 2))
        self.assertEqual(2 * Data(1, 0), Data(1, 1))
        self.assertEqual(3 * Data(0, 2), Data(0, 2, 0, 2, 0, 2))
        self.assertEqual([Data(1) * 0, 0 * Data(1), 1 * Data(1, 2)], [Data(), Data(), Data(1, 2)])

    def test_limits(self):
        self.assertEqual(len(Data(1) * 60), 60)
        self.assertEqual(len(30 * Data(0, 1)), 60)
        self.assertEqual(Data(0) * 60, Data())
        self.assertEqual(error_of(self, BadData, lambda: Data(0, 1) * 31), 31)
        self.assertEqual(error_of(self, BadData, lambda: 60 * Data(1, 1)), 60)
        self.assertEqual(error_of(self, BadNumber, lambda: Data() * 61), 61)
        self.assertEqual(error_of(self, BadNumber, lambda: 61 * Data(1, 1)), 61)

    def test_wrong_numbers(self):
        for times in (-1, 61, *NO_INTEGERS):
            refused(self, BadNumber, times, lambda: Data(1) * times)
            refused(self, BadNumber, times, lambda: times * Data(1))
        one = Data(1)
        refused(self, BadNumber, one, lambda: Data(2) * one)


LOOP = Program([("take", "x"), ("if", "x", 1, 3, 3), ("go", 0), ("end",)])


class TestAlone(unittest.TestCase):
    def test_example_of_the_document(self):
        lane = Alone(LOOP, Data(0, 0, 1))
        told = [lane.go(20), lane.many_taken, Data(0, 1) + [0, 1], 2 * Data(1, 0)]
        self.assertEqual(told, [[0, 1, 2, 0, 1, 2, 0, 1, 3], 3, Data(0, 1, 0, 1), Data(1, 1)])

    def test_beginning(self):
        lane = Alone(Program([("end",)], registers=("x", "y"), values=3), Data(2))
        self.assertEqual([lane.row, lane.registers, lane.many_taken], [0, (0, 0), 0])
        self.assertIsInstance(lane.registers, tuple)

    def test_step_by_step(self):
        lane = Alone(LOOP, Data(0, 1))
        self.assertEqual([lane.step(), lane.row, lane.registers, lane.many_taken], [0, 1, (0,), 1])
        self.assertEqual([lane.step(), lane.row], [1, 2])
        self.assertEqual([lane.step(), lane.row], [2, 0])
        self.assertEqual([lane.step(), lane.row, lane.registers, lane.many_taken], [0, 1, (1,), 2])
        self.assertEqual([lane.step(), lane.row], [1, 3])
        self.assertEqual([lane.step(), lane.row], [3, 4])

    def test_a_lane_that_has_ended(self):
        lane = Alone(LOOP, Data(1))
        lane.go(9)
        before = lane.copy()
        self.assertEqual([lane.step(), lane.go(5), lane.row], [None, [], 4])
        self.assertEqual(lane, before)
        self.assertEqual([lane.registers, lane.many_taken], [(1,), 1])

    def test_an_end_in_the_middle(self):
        lane = Alone(Program([("go", 2), ("go", 0), ("end",), ("go", 3)]), Data())
        self.assertEqual([lane.go(9), lane.row], [[0, 2], 4])

    def test_rows_that_change_registers(self):
        rows = [("take", "b"), ("copy", "a", "b"), ("set", "b", 1), ("copy", "b", "b"), ("set", "a", 0)]
        lane = Alone(Program(rows, registers=("a", "b"), values=3), Data(2))
        seen = []
        while lane.step() is not None:
            seen.append(lane.registers)
        self.assertEqual(seen, [(0, 2), (2, 2), (2, 1), (2, 1), (0, 1)])

    def test_takes_behind_the_last_value(self):
        lane = Alone(Program([("take", "x"), ("go", 0)]), Data(1))
        self.assertEqual(lane.go(4), [0, 1, 0, 1])
        self.assertEqual([lane.registers, lane.many_taken], [(0,), 2])

    def test_branches(self):
        program = Program([("if", "x", 0, 2, 3), ("end",), ("if", "x", 1, 0, 3), ("end",)])
        self.assertEqual(Alone(program, Data()).go(9), [0, 2, 3])

    def test_groups_and_meetings_go_on(self):
        program = Program([("group", "a", 0), ("meet", "b"), ("group", "c", None)])
        self.assertEqual(Alone(program, Data()).go(9), [0, 1, 2])

    def test_rows_that_steer_see_the_lane_alone(self):
        for kind in ("any", "all"):
            rows = [("take", "x"), (kind, "x", 2, "y"), (kind, "y", 0, "x"), (kind, "x", 1, "x")]
            program = Program(rows, registers=("x", "y"), values=3)
            lane = Alone(program, Data(2))
            lane.go(2)
            self.assertEqual(lane.registers, (2, 1))
            lane.go(1)
            self.assertEqual(lane.registers, (0, 1))
            lane.go(1)
            self.assertEqual(lane.registers, (0, 1))
            self.assertEqual(lane.go(1), [])
        lane = Alone(Program([("take", "x"), ("same", "x", "x")], values=3), Data(2))
        lane.go(2)
        self.assertEqual(lane.registers, (1,))

    def test_go(self):
        lane = Alone(LOOP, Data())
        self.assertEqual(lane.go(0), [])
        self.assertEqual(len(lane.go(1000)), 1000)
        self.assertEqual(lane.go(most=1), [1])
        before = lane.copy()
        for most in (-1, 1001, *NO_INTEGERS):
            refused(self, BadNumber, most, lambda: lane.go(most))
        self.assertEqual(lane, before)

    def test_copies_go_on_by_themselves(self):
        lane = Alone(LOOP, Data(0, 1))
        lane.go(4)
        other = lane.copy()
        self.assertEqual(lane, other)
        self.assertEqual(other.go(9), [1, 3])
        self.assertNotEqual(lane, other)
        self.assertEqual([lane.row, lane.registers, lane.many_taken], [1, (1,), 2])
        lane.go(9)
        self.assertEqual(lane, other)

    def test_equality(self):
        self.assertEqual(Alone(LOOP, Data(1)), Alone(LOOP, Data(1, 0)))
        self.assertNotEqual(Alone(LOOP, Data(1)), Alone(LOOP, Data(1, 1)))
        self.assertNotEqual(Alone(LOOP, Data(1)), Alone(LOOP.with_row(3, ("go", 4)), Data(1)))
        stay = Program([("go", 0)])
        lane = Alone(stay, Data())
        lane.go(3)
        self.assertEqual(lane, Alone(stay, Data()))
        turn = Program([("take", "x"), ("go", 0)])
        lane = Alone(turn, Data())
        lane.go(2)
        self.assertNotEqual(lane, Alone(turn, Data()))
        lane = Alone(turn, Data(1))
        lane.go(2)
        self.assertNotEqual(lane.registers, Alone(turn, Data(1)).registers)
        change = Program([("copy", "x", "y"), ("set", "y", 1), ("go", 0)], registers=("x", "y"))
        lane, other = Alone(change, Data()), Alone(change, Data())
        lane.go(3)
        self.assertEqual([lane.row, lane.many_taken, lane.registers], [0, 0, (0, 1)])
        self.assertNotEqual(lane, other)
        other.go(6)
        self.assertNotEqual(lane, other)
        lane.go(3)
        self.assertEqual(lane, other)
        for other in (None, 1, LOOP, Data(1), Everything()):
            self.assertIs(Alone(LOOP, Data(1)) == other, False)

    def test_wrong_programs_and_data(self):
        for program in (*STRANGE, [("end",)], (("end",),), "program", 1, Data(1)):
            refused(self, BadProgram, program, lambda: Alone(program, None))
        two = Data(0, 2)
        for data in (*STRANGE, two, [1], (1,), [], "1", 1, LOOP):
            refused(self, BadData, data, lambda: Alone(LOOP, data))
        wide = Program([("take", "x")], values=3)
        self.assertEqual(Alone(program=wide, data=two).go(3), [0])


if __name__ == "__main__":
    unittest.main()
