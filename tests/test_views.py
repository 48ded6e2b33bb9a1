"""[2], [3] and [22]: what groups can see."""

import unittest
from unittest import mock

from partedlanes import showings
from partedlanes.errors import BadNumber, BadProgram, BadRule, TooMany
from partedlanes.lanes import Data
from partedlanes.machines import Machine
from partedlanes.programs import Program
from partedlanes.sets import Sets
from partedlanes.views import can_stand_in_sets, is_stand, is_view, lanes_for, lanes_that_stand, results, views
from tests.helpers import NO_INTEGERS, STRANGE, Everything, error_of, refused
from tests.literal import chances, some_data
from tests.literal_scenes import STEERING, Rules, fellows, forward_program, leavers
from tests.test_roads import NO_PROGRAMS, NO_RULES
from tests.test_sets import BOTH, EXAMPLE, ONE, RULES, ZERO, programs

SEEING = ("group", "meet", *STEERING)
STUCK = Program([("take", "x"), ("if", "x", 1, 3, 4), ("meet", "one"), ("meet", "two"), ("end",)])
STEERED = Program([("take", "x"), ("any", "x", 1, "y"), ("group", "a", None), ("same", "x", "y"), ("all", "x", 1, "x")],
                  registers=("x", "y"))

# All that raise as Sets; where a row is asked for it is the meeting of the example.
AS_SETS = (views, results, can_stand_in_sets, lanes_that_stand,
           lambda program, **more: lanes_for(program, 5, ZERO, **more))

# No crowds of a program with one register and two values.
NO_CROWDS = (*STRANGE, (), [], [(0,)], "", "crowd", 0, 1, True, (0,), ([0],), ((0, 0),), ((2,),), ((-1,),), ((True,),),
             ((0.0,),), ((0,), (0,)), ((1,), (0,)), (Everything(),), ((Everything(),),), ((),))

# No data of a program with two values.
NO_DATAS = (*STRANGE, [], (), Data(), [None], [Data(2)], [Data(1), Data(0, 2)], (Data(), Everything()), [Data()] * 41,
            (Data(),) * 41, [(1,)], {0: Data()}, "data", 1, True)


def watched(program, datas, rule, most=1000):
    """What a machine does, as tuples (row, crowd), and whether it stands in the end."""
    machine = Machine(program, datas, rule=rule)
    seen = []
    for _ in range(most):
        kinds = [machine.registers_of(lane) for lane in range(len(datas))]
        done = machine.step()
        if done[0] != "done":
            return seen, done == ("stands",)
        seen.append((done[1], tuple(sorted({kinds[lane] for lane in done[2]}))))
    return seen, False


def rounds(ahead, row):
    """A program that does this row, at ahead + 3, when a lane takes 2: behind 21 steps for each 0 and 3 for each 1."""
    return Program([
        *[("set", "x", 0)] * ahead, ("take", "x"), ("if", "x", 0, ahead + 4, 23 + ahead),
        ("if", "x", 1, ahead, 23 + ahead), row, *[("set", "x", 0)] * 18, ("go", ahead)], values=3)


def slow(many):
    """A program whose lanes are at row many + 9 with y 0 and 2 at once only when each took six times so many values.

    Lanes go round together; behind the takes y becomes 1 from 0, 2 from 1, and 0 or 1 from 2. Those that took 2 last
    leave the others. Nothing ever ends, so that there are few arrivals.
    """
    end = many + 11
    return Program([
        *[("take", "x")] * many, ("if", "x", 2, many + 9, end), ("if", "y", 1, many + 7, 0),
        ("if", "y", 0, many + 5, 0), ("copy", "y", "x"), ("go", 0), ("set", "y", 1), ("go", 0), ("set", "y", 2),
        ("go", 0), ("group", "a", None), ("go", many + 9)], registers=("x", "y"), values=3)


LONG = [0] * 47 + [1] * 3
APART = ((2, 0), (2, 2))


class TestArguments(unittest.TestCase):
    def test_exceptions_of_sets(self):
        for function in AS_SETS:
            for program in NO_PROGRAMS:
                refused(self, BadProgram, program, lambda: function(program, rule=None, limit=None))
            for rule in NO_RULES:
                refused(self, BadRule, rule, lambda: function(EXAMPLE, rule=rule, limit=None))
            for limit in (0, -1, 20001, *NO_INTEGERS):
                refused(self, BadNumber, limit, lambda: function(EXAMPLE, limit=limit))
            self.assertEqual(error_of(self, TooMany, lambda: function(EXAMPLE, limit=25)), 25)
            function(EXAMPLE, rule="first", limit=26)
            self.assertRaises(TypeError, lambda: function(EXAMPLE, "told"))

    def test_rows_of_lanes_for(self):
        for row in (-1, 0, 1, 3, 6, 7, *NO_INTEGERS):
            refused(self, BadNumber, row, lambda: lanes_for(EXAMPLE, row, None))
        self.assertEqual(error_of(self, TooMany, lambda: lanes_for(EXAMPLE, None, None, limit=25)), 25)
        self.assertEqual(error_of(self, BadNumber, lambda: lanes_for(EXAMPLE, 0, None, limit=0)), 0)
        for row in range(5):
            if STEERED.rows[row][0] in SEEING:
                self.assertIsNone(lanes_for(STEERED, row, None))
            else:
                error_of(self, BadNumber, lambda: lanes_for(STEERED, row, None))

    def test_exceptions_of_is_view(self):
        for program in NO_PROGRAMS:
            refused(self, BadProgram, program, lambda: is_view(program, None, None, None, rule=None))
        for rule in NO_RULES:
            refused(self, BadRule, rule, lambda: is_view(EXAMPLE, None, None, None, rule=rule))
        for row in (-1, 0, 1, 3, 6, 7, *NO_INTEGERS):
            refused(self, BadNumber, row, lambda: is_view(EXAMPLE, row, None, None))

    def test_exceptions_of_is_stand(self):
        for program in NO_PROGRAMS:
            refused(self, BadProgram, program, lambda: is_stand(program, None, rule=None))
        for rule in NO_RULES:
            refused(self, BadRule, rule, lambda: is_stand(EXAMPLE, None, rule=rule))

    def test_names_of_arguments(self):
        self.assertEqual(views(program=STUCK, rule="told", limit=50), {2: [], 3: []} | views(STUCK))
        self.assertEqual(results(program=STUCK, rule="first", limit=50), {})
        self.assertIs(can_stand_in_sets(program=STUCK, rule="told", limit=50), True)
        datas = lanes_for(program=EXAMPLE, row=2, crowd=ZERO, rule="told", limit=50)
        self.assertIs(is_view(program=EXAMPLE, row=2, crowd=ZERO, datas=datas, rule="told"), True)
        datas = lanes_that_stand(program=STUCK, rule="told", limit=50)
        self.assertIs(is_stand(program=STUCK, datas=datas, rule="told"), True)
        for call in (lambda: is_stand(STUCK, datas, "told"), lambda: is_view(EXAMPLE, 2, ZERO, datas, "told"),
                     lambda: lanes_for(EXAMPLE, 2, ZERO, "told")):
            self.assertRaises(TypeError, call)


class TestViews(unittest.TestCase):
    def test_example(self):
        self.assertEqual(views(EXAMPLE), {2: [ZERO], 4: [ONE], 5: [ZERO, BOTH, ONE]})
        self.assertEqual(list(views(EXAMPLE)), [2, 4, 5])

    def test_rows_that_nobody_does(self):
        program = Program([("end",), ("group", "a", None), ("any", "x", 1, "x"), ("meet", "all")])
        self.assertEqual(views(program), {1: [], 2: [], 3: []})
        self.assertEqual(results(program), {2: []})
        for row in (1, 2, 3):
            self.assertIsNone(lanes_for(program, row, ZERO))

    def test_a_meeting_sees_only_what_goes_on(self):
        rows = [("take", "x"), ("if", "x", 1, 3, 4), ("meet", "a"), ("go", 4), ("group", "b", None)]
        for rule in RULES:
            self.assertEqual(views(Program(rows), rule=rule), {2: [ZERO], 4: [ZERO, ONE]})
            self.assertIs(can_stand_in_sets(Program(rows), rule=rule), True)
        rows[2] = ("group", "a", None)
        self.assertEqual(views(Program(rows)), {2: [ZERO], 4: [ZERO, BOTH, ONE]})
        self.assertIs(can_stand_in_sets(Program(rows)), False)

    def test_a_meeting_that_sees_unlike_crowds_with_lanes_outside(self):
        rows = [("take", "x"), ("same", "x", "y"), ("if", "x", 1, 4, 5), ("meet", "a"), ("go", 5), ("end",)]
        program = Program(rows, registers=("x", "y"))
        self.assertIn((3, 5, ((0, 0),), True), Sets(program))
        self.assertEqual(views(program)[3], [((0, 1),)])
        self.assertIsNone(lanes_for(program, 3, ((0, 0),)))

    def test_rows_that_steer(self):
        kinds = [((0, 0),), ((0, 0), (1, 0)), ((1, 0),)]
        told = views(STEERED)
        self.assertEqual([list(told), told[1]], [[1, 2, 3, 4], kinds])
        self.assertEqual(told[2], [((0, 0),), ((0, 1), (1, 1)), ((1, 1),)])
        self.assertEqual(results(STEERED), {1: [0, 1], 3: [0, 1], 4: [0, 1]})

    def test_results_that_are_always_one(self):
        program = Program([("set", "x", 1), ("any", "x", 1, "x"), ("same", "x", "x"), ("all", "x", 0, "x")])
        self.assertEqual(results(program), {1: [1], 2: [1], 3: [0]})

    def test_lists_and_dicts_are_new(self):
        told = views(EXAMPLE)
        told[2].append(1)
        told.clear()
        self.assertEqual(views(EXAMPLE)[2], [ZERO])

    def test_beside_the_table_of_scenes(self):
        for _, program, rule in programs(60):
            told = views(program, rule=rule)
            table = Rules(program, rule).least()
            rows = [index for index, row in enumerate(program.rows) if row[0] in SEEING]
            self.assertEqual(list(told), rows)
            for row in rows:
                meeting = program.rows[row][0] == "meet"
                crowds = {scene[2] for scene in table if scene[0] == row and not (meeting and scene[3])}
                self.assertEqual(told[row], sorted(crowds))
            stuck = any(program.rows[scene[0]][0] == "meet" and scene[3] for scene in table)
            self.assertIs(can_stand_in_sets(program, rule=rule), stuck)

    def test_beside_machines(self):
        stood = 0
        for chance, program, rule in programs(100):
            told, gets = views(program, rule=rule), results(program, rule=rule)
            self.assertEqual(list(gets), program.steering())
            for _ in range(3):
                datas = [some_data(chance, program.size, 8) for _ in range(chance.choice([1, 2, 3, 7]))]
                seen, stands = watched(program, datas, rule, 80)
                for row, crowd in seen:
                    if row in told:
                        self.assertIn(crowd, told[row])
                    if row in gets:
                        self.assertIn(self.result(program, row, crowd), gets[row])
                stood += stands
                self.assertTrue(not stands or can_stand_in_sets(program, rule=rule))
        self.assertGreater(stood, 3)

    def result(self, program, row, crowd):
        place = program.registers.index(program.rows[row][-1])
        return Rules(program, "told").crowds(program.rows[row], crowd).pop()[0][place]

    def test_each_result_is_one_of_a_crowd(self):
        for _, program, rule in programs(60):
            told, gets = views(program, rule=rule), results(program, rule=rule)
            for row in gets:
                self.assertEqual(gets[row], sorted({self.result(program, row, crowd) for crowd in told[row]}))


class TestLanes(unittest.TestCase):
    def test_example(self):
        self.assertEqual(lanes_for(EXAMPLE, 2, ZERO), [Data()])
        self.assertEqual(lanes_for(EXAMPLE, 4, ONE), [Data(1)])
        self.assertEqual(sorted(len(data) for data in lanes_for(EXAMPLE, 5, BOTH)), [0, 1])
        self.assertIsNone(lanes_for(EXAMPLE, 2, ONE))
        self.assertEqual(sorted(len(data) for data in lanes_that_stand(STUCK)), [0, 1])
        self.assertIsNone(lanes_that_stand(EXAMPLE))

    def test_values_that_are_no_crowds(self):
        for crowd in NO_CROWDS:
            self.assertIsNone(lanes_for(EXAMPLE, 5, crowd))

    def test_what_can_be_seen_is_shown(self):
        shown = 0
        for chance, program, rule in programs(100):
            for row, crowds in views(program, rule=rule).items():
                kinds = program.classes()
                for crowd in chance.sample(crowds, min(len(crowds), 4)):
                    datas = lanes_for(program, row, crowd, rule=rule)
                    self.assertIn((row, crowd), watched(program, datas, rule)[0], (program.rows, rule))
                    self.assertIs(is_view(program, row, crowd, datas, rule=rule), True)
                    shown += 1
                crowd = tuple(sorted(chance.sample(kinds, chance.randint(1, len(kinds)))))
                self.assertIs(lanes_for(program, row, crowd, rule=rule) is None, crowd not in crowds)
        self.assertGreater(shown, 500)

    def test_what_can_stand_is_shown(self):
        stood = 0
        for _, program, rule in programs(100):
            datas = lanes_that_stand(program, rule=rule)
            self.assertIs(datas is not None, can_stand_in_sets(program, rule=rule))
            if datas is not None:
                self.assertIs(watched(program, datas, rule)[1], True)
                self.assertIs(is_stand(program, datas, rule=rule), True)
                stood += 1
        self.assertGreater(stood, 10)

    def test_arms_that_need_several_lanes(self):
        for levels in (1, 2, 3, 4):
            program, row = fellows(levels)
            self.assertNotEqual(views(program)[row], [])
            for crowd in views(program)[row]:
                datas = lanes_for(program, row, crowd)
                self.assertEqual(len(datas), 2 ** levels)
                self.assertIs(is_view(program, row, crowd, datas), True)
                self.assertIs(is_view(program, row, crowd, datas[1:]), False)

    def test_lanes_that_have_to_leave(self):
        for way, value in ((9, 0), (9, 1), (10, 0), (10, 1), (11, 0), (11, 1)):
            program = leavers(way, value)
            self.assertEqual(views(program)[8], [((0, 0),), ((0, 0), (1, 0)), ((1, 0),)])
            for crowd in views(program)[8]:
                datas = lanes_for(program, 8, crowd)
                self.assertEqual([len(datas), is_view(program, 8, crowd, datas)], [1 + len(crowd), True])

    def test_just_sixty_values(self):
        datas = lanes_for(slow(10), 19, APART, limit=20000)
        self.assertEqual([len(data) for data in datas], [60, 60])
        self.assertIs(is_view(slow(10), 19, APART, datas), True)

    def test_more_than_sixty_values(self):
        self.assertIn(APART, views(slow(11), limit=20000)[20])
        self.assertEqual(error_of(self, TooMany, lambda: lanes_for(slow(11), 20, APART, limit=20000)), 40)
        error_of(self, BadNumber, lambda: lanes_for(slow(11), 19, APART, limit=20000))

    def test_more_steps_than_may_be(self):
        datas = lanes_for(EXAMPLE, 5, BOTH)
        self.assertEqual(watched(EXAMPLE, datas, "told")[0][5], (5, BOTH))
        with mock.patch.object(showings, "MOST_STEPS", 6):
            self.assertEqual(lanes_for(EXAMPLE, 5, BOTH), datas)
        with mock.patch.object(showings, "MOST_STEPS", 5):
            self.assertEqual(error_of(self, TooMany, lambda: lanes_for(EXAMPLE, 5, BOTH)), 40)
        datas = lanes_that_stand(STUCK)
        self.assertEqual(Machine(STUCK, datas).go(9)[2:], [("stands",)])
        with mock.patch.object(showings, "MOST_STEPS", 3):
            self.assertEqual(lanes_that_stand(STUCK), datas)
        with mock.patch.object(showings, "MOST_STEPS", 2):
            self.assertEqual(error_of(self, TooMany, lambda: lanes_that_stand(STUCK)), 40)
        # Those that come to the meeting wait for three rows of the others.
        rows = [("take", "x"), ("if", "x", 1, 5, 6), ("set", "x", 0), ("set", "x", 0), ("go", 6), ("meet", "a"), ("end",)]
        datas = lanes_that_stand(Program(rows))
        self.assertEqual(Machine(Program(rows), datas).go(9)[5:], [("stands",)])
        with mock.patch.object(showings, "MOST_STEPS", 6):
            self.assertEqual(lanes_that_stand(Program(rows)), datas)
        with mock.patch.object(showings, "MOST_STEPS", 5):
            self.assertEqual(error_of(self, TooMany, lambda: lanes_that_stand(Program(rows))), 40)

    def test_more_lanes_than_may_be(self):
        with mock.patch.object(showings, "MOST_LANES", 1):
            self.assertEqual(len(lanes_for(EXAMPLE, 2, ZERO)), 1)
            self.assertEqual(error_of(self, TooMany, lambda: lanes_for(EXAMPLE, 5, BOTH)), 1)
            self.assertEqual(error_of(self, TooMany, lambda: lanes_that_stand(STUCK)), 1)


class TestIsView(unittest.TestCase):
    def test_data_that_show_it_and_that_do_not(self):
        self.assertIs(is_view(EXAMPLE, 5, BOTH, [Data(1), Data(0)]), True)
        self.assertIs(is_view(EXAMPLE, 5, BOTH, (Data(1), Data(0), Data(1))), True)
        self.assertIs(is_view(EXAMPLE, 5, BOTH, [Data(1), Data(1)]), False)
        self.assertIs(is_view(EXAMPLE, 2, BOTH, [Data(1), Data(0)]), False)
        self.assertIs(is_view(EXAMPLE, 2, ZERO, [Data(1), Data(0)]), True)
        self.assertIs(is_view(EXAMPLE, 5, BOTH, [Data(1)] * 39 + [Data()]), True)
        self.assertIs(is_view(EXAMPLE, 5, BOTH, [Data(1)] * 40 + [Data()]), False)

    def test_other_values(self):
        for datas in NO_DATAS:
            self.assertIs(is_view(EXAMPLE, 5, BOTH, datas), False)
            self.assertIs(is_stand(STUCK, datas), False)
        for crowd in NO_CROWDS:
            self.assertIs(is_view(EXAMPLE, 5, crowd, [Data(1), Data(0)]), False)
            for datas in NO_DATAS:
                self.assertIs(is_view(EXAMPLE, 5, crowd, datas), False)

    def test_rules(self):
        rows = [("take", "x"), ("if", "x", 1, 3, 6), ("go", 4), ("go", 4), ("group", "a", None), ("end",)]
        datas = [Data(1), Data(0)]
        self.assertIs(is_view(Program(rows), 4, BOTH, datas), False)
        self.assertIs(is_view(Program(rows), 4, BOTH, datas, rule="told"), False)
        self.assertIs(is_view(Program(rows), 4, BOTH, datas, rule="first"), True)

    def test_crowds_are_those_ahead_of_the_row(self):
        datas = [Data(1), Data(0)]
        self.assertIs(is_view(STEERED, 1, ((0, 0), (1, 0)), datas), True)
        self.assertIs(is_view(STEERED, 1, ((0, 1), (1, 1)), datas), False)
        self.assertIs(is_view(STEERED, 2, ((0, 1), (1, 1)), datas), True)

    def test_meetings_that_do_not_go_on(self):
        self.assertIs(is_view(STUCK, 2, ZERO, [Data(0), Data(1)]), False)
        self.assertIs(is_view(STUCK, 2, ZERO, [Data(0), Data(0)]), True)
        self.assertIs(is_stand(STUCK, [Data(0), Data(1)]), True)
        self.assertIs(is_stand(STUCK, [Data(0), Data(0)]), False)
        self.assertIs(is_stand(STUCK, (Data(1), Data(0), Data(1)), rule="first"), True)

    def test_within_just_a_thousand_steps(self):
        data = Data(*LONG, 2)
        for ahead, expected in ((0, True), (1, False)):
            program = rounds(ahead, ("group", "a", None))
            self.assertIs(is_view(program, ahead + 3, ((2,),), [data]), expected)
            seen, _ = watched(program, [data], "told", 1001)
            self.assertEqual([place for place, (row, _) in enumerate(seen) if row == ahead + 3], [999 + ahead])

    def test_stands_within_just_a_thousand_steps(self):
        datas = [Data(*LONG, 2), Data(*LONG)]
        for ahead, expected in ((0, True), (1, False)):
            program = rounds(ahead, ("meet", "a"))
            machine = Machine(program, datas)
            machine.go(999 + ahead)
            self.assertEqual([machine.state(), len(machine)], ["stands", 2])
            self.assertIs(is_stand(program, datas), expected)

    def test_beside_machines(self):
        found = {True: 0, False: 0}
        for chance, program, rule in programs(60):
            kinds = program.classes()
            for _ in range(3):
                datas = [some_data(chance, program.size, 8) for _ in range(chance.choice([1, 2, 3]))]
                seen, stands = watched(program, datas, rule)
                self.assertIs(is_stand(program, datas, rule=rule), stands)
                for row in views(program, rule=rule):
                    crowd = tuple(sorted(chance.sample(kinds, min(len(kinds), chance.choice([1, 1, 2])))))
                    expected = (row, crowd) in seen
                    found[expected] += 1
                    self.assertIs(is_view(program, row, crowd, datas, rule=rule), expected)
        self.assertGreater(min(found.values()), 50)


class TestTime(unittest.TestCase):
    def test_any_programs_of_24_rows(self):
        for chance in chances(10):
            program = forward_program(chance, 24, chance.choice([0, 0.2]), (("x", "y"), 3))
            for limit in (4000, 20000):
                try:
                    told = views(program, limit=limit)
                except TooMany as error:
                    self.assertEqual(error.value, limit)
                    continue
                for row in told:
                    for crowd in chance.sample(told[row], min(len(told[row]), 1)):
                        datas = lanes_for(program, row, crowd, limit=limit)
                        self.assertIs(is_view(program, row, crowd, datas), True)


if __name__ == "__main__":
    unittest.main()
