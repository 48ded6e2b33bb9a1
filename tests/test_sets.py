"""[2], [3], [20], [21] and [26]: sets."""

import unittest

from partedlanes.costs import Costs
from partedlanes.errors import BadNumber, BadProgram, BadRule, NoScene, TooMany
from partedlanes.machines import Machine
from partedlanes.programs import Program
from partedlanes.roads import unnested
from partedlanes.sets import Sets
from partedlanes.showings import datas_of
from partedlanes.treks import carry, cheapest_leads, trek_along
from partedlanes.weaves import Weave
from tests.helpers import NO_INTEGERS, STRANGE, Everything, error_of, refused
from tests.literal import chances, some_data, some_program
from tests.literal_scenes import STEERING, Rules, forward_program, many_pairs
from tests.test_roads import NO_PROGRAMS, NO_RULES

RULES = ("told", "first")
ZERO, ONE, BOTH = ((0,),), ((1,),), ((0,), (1,))
EXAMPLE = Program([("take", "x"), ("if", "x", 1, 4, 5), ("group", "low", None), ("go", 5), ("group", "high", None),
                   ("meet", "all")])
SMALL = Program([("take", "x"), ("end",)])

# Any values that are no scenes of a program with one register and two values, counted or not; some look like one.
NO_COUNTED = (
    *STRANGE, "scene", 1, True, (), [], {}, (0, 2, ZERO), (0, 2, ZERO, False, 0), [0, 2, ZERO, False],
    (False, 2, ZERO, False), (0, True, ZERO, False), (0.0, 2, ZERO, False), (0, 2, ZERO, 0), (0, 2, ZERO, None),
    (0, 2, ZERO, Everything()), (Everything(), 2, ZERO, False), (0, 2, Everything(), False), (0, 2, [(0,)], False),
    (0, 2, ([0],), False), (0, 2, (), False), (0, 2, ((),), False), (0, 2, ((False,),), False),
    (0, 2, ((0.0,),), False),
    (0, 2, ((0, 0),), False), (0, 2, (0,), False), (0, 2, ((2,),), False), (0, 2, ((-1,),), False),
    (1, 2, ((1,), (0,)), False), (2, 2, ZERO, False), (2, 1, ZERO, False),
    (-1, 2, ZERO, False), (0, 3, ZERO, False), (0, -1, ZERO, False), (1, 1, ZERO, False),
    (0, 2, (Everything(),), False),
)
NO_SCENES = (*NO_COUNTED, (1, 2, ((0,), (0,)), False), (1, 2, ((0,), (1,), (1,)), False))


# Programs in which lanes that part from others that end go on as all that are left, so that scenes with the end as their
# join and no lanes outside come of arms, also of arms of arms, and of nothing else.
LEFT = [
    Program([("take", "x"), ("set", "y", 1), ("group", "see", None), ("meet", "all"), ("same", "x", "y"),
             ("if", "x", 0, 7, 7), ("if", "y", 0, 7, 7)], registers=("x", "y")),
    Program([("take", "x"), ("same", "x", "y"), ("group", "see", None), ("if", "y", 0, 4, 0), ("if", "x", 1, 7, 7),
             ("any", "x", 1, "y"), ("copy", "y", "x")], registers=("x", "y")),
    Program([("take", "x"), ("same", "x", "y"), ("if", "y", 1, 0, 0), ("if", "x", 1, 10, 9), ("take", "x"),
             ("same", "x", "y"), ("if", "y", 1, 4, 4), ("if", "x", 1, 10, 10), ("group", "a", None),
             ("group", "b", None)], registers=("x", "y")),
    Program([("take", "x"), ("if", "x", 1, 5, 5), ("take", "x"), ("if", "x", 0, 0, 3), ("if", "x", 1, 5, 5)]),
    Program([("take", "y"), ("if", "y", 0, 7, 5), ("take", "y"), ("take", "y"), ("if", "y", 0, 7, 7), ("go", 0), ("end",)],
            registers=("x", "y")),
]


def leaving_programs(many):
    """Some programs whose branches often lead to the end, or rejoin there, with both rules."""
    for chance in chances(many):
        program = forward_program(chance, 7, 0.1, chance.choice([(("x",), 2), (("x",), 3), (("x", "y"), 2)]))
        rows = [(*row[:3], chance.choice([row[3], program.end]), chance.choice([row[4], row[3], program.end]))
                if row[0] == "if" else row for row in program.rows]
        rows = [("same", program.registers[0], program.registers[-1]) if row[0] == "group" and chance.random() < 0.5
                else row for row in rows]
        program = Program(rows, registers=program.registers, values=program.size)
        for rule in RULES:
            yield chance, program, rule


def programs(many, most=11):
    """Some programs, with rows that steer and without, and both rules."""
    for chance in chances(many):
        kinds = chance.choice([(), STEERING])
        program = forward_program(chance, most, chance.choice([0, 0, 0.1, 0.3]))
        if chance.random() < 0.3:
            program = some_program(chance, 9, kinds)
        if len(program.classes()) < 9:
            for rule in RULES:
                yield chance, program, rule


def told(table):
    """A table as a dict."""
    return dict(table)


def arrivals_seen(machine, crowd_of, most=60):
    """The scenes to which a machine comes, and with which crowds their entries come to their ends.

    Tuples (scene, arrival), arrival None as long as it is not there.
    """
    watched = []
    for _ in range(most):
        pile = machine.pile()
        alive = machine.alive()
        # An entry is over when the pile is no higher than what was below it, the lowest one when nobody is alive.
        for height, scene, lanes in watched:
            if len(pile) <= height or not alive:
                yield (scene, crowd_of(machine, [lane for lane in lanes if lane in alive]))
        watched = [entry for entry in watched if entry[0] < len(pile) and alive]
        if not alive:
            return
        row, join, lanes = pile[-1]
        scene = (row, join, crowd_of(machine, lanes), len(lanes) < len(alive))
        yield (scene, None)
        watched.append((len(pile) - 1, scene, lanes))
        if machine.step()[0] != "done":
            return


def costs_of(costs, scene):
    """The arrivals of a scene, and what they cost."""
    costs._need(scene)
    costs._settle()
    return costs.sure[scene]


def uncounted(machine, lanes):
    return tuple(sorted({machine.registers_of(lane) for lane in lanes}))


class TestArguments(unittest.TestCase):
    def test_wrong_programs(self):
        for program in NO_PROGRAMS:
            refused(self, BadProgram, program, lambda: Sets(program, rule=None, limit=None))

    def test_wrong_rules(self):
        for rule in NO_RULES:
            refused(self, BadRule, rule, lambda: Sets(SMALL, rule=rule, limit=None))

    def test_wrong_limits(self):
        for limit in (0, -1, 20001, *NO_INTEGERS):
            for rule in RULES:
                refused(self, BadNumber, limit, lambda: Sets(SMALL, rule=rule, limit=limit))

    def test_limits(self):
        self.assertEqual(error_of(self, TooMany, lambda: Sets(SMALL, limit=1)), 1)
        self.assertEqual(len(Sets(SMALL, limit=20000)), 4)

    def test_just_so_many_scenes_and_arrivals(self):
        for _, program, rule in programs(40):
            sets = Sets(program, rule=rule)
            many = len(sets) + sum(len(sets.arrivals(scene)) for scene in sets.scenes())
            self.assertEqual(Sets(program, rule=rule, limit=many).table(), sets.table())
            self.assertEqual(error_of(self, TooMany, lambda: Sets(program, rule=rule, limit=many - 1)), many - 1)

    def test_default_limit(self):
        rows = [("take", "x"), ("take", "y")]
        wide = Program([*rows * 4, ("end",)], registers=("x", "y"), values=3)
        many = Sets(wide, limit=20000)
        count = len(many) + sum(len(many.arrivals(scene)) for scene in many.scenes())
        self.assertGreater(count, 4000)
        self.assertEqual(error_of(self, TooMany, lambda: Sets(wide)), 4000)
        self.assertEqual(error_of(self, TooMany, lambda: Sets(wide, rule="first", limit=4000)), 4000)

    def test_names_of_arguments(self):
        sets = Sets(program=SMALL, rule="first", limit=100)
        self.assertRaises(TypeError, lambda: Sets(SMALL, "told"))
        self.assertRaises(TypeError, lambda: Sets(SMALL, rule="told", values=2))
        self.assertEqual(sets.arrivals(scene=(0, 2, ZERO, False)), [()])

    def test_told_is_the_rule_if_none_is_handed_in(self):
        program = Program([("take", "x"), ("if", "x", 1, 3, 5), ("go", 4), ("go", 4), ("group", "a", None)])
        self.assertEqual(Sets(program).table(), Sets(program, rule="told").table())
        self.assertNotEqual(Sets(program).table(), Sets(program, rule="first").table())


class TestResults(unittest.TestCase):
    def test_no_scene(self):
        sets = Sets(SMALL)
        for value in (*NO_SCENES, (0, 2, ONE, False), (0, 2, ZERO, True), (1, 0, ZERO, False), (-1, 2, ZERO, False)):
            self.assertIs(value in sets, False)
            refused(self, NoScene, value, lambda: sets.arrivals(value))

    def test_scenes(self):
        sets = Sets(SMALL)
        scenes = [(0, 2, ZERO, False), (1, 2, ZERO, False), (1, 2, BOTH, False), (1, 2, ONE, False)]
        self.assertEqual([sets.scenes(), len(sets)], [scenes, 4])
        self.assertEqual([sets.arrivals(scene) for scene in scenes], [[()]] * 4)
        self.assertTrue(all((scene in sets) is True for scene in scenes))
        self.assertEqual(sets.table(), [(scene, [()]) for scene in scenes])
        self.assertTrue(all(scene[3] is False for scene in sets.scenes()))

    def test_all_lists_are_new(self):
        sets = Sets(SMALL)
        for get in (sets.scenes, sets.table, sets.rounds, lambda: sets.arrivals((0, 2, ZERO, False))):
            before = list(get())
            get().append(1)
            self.assertEqual(get(), before)
        sets.table()[0][1].append(1)
        self.assertEqual(sets.table()[0][1], [()])

    def test_example(self):
        table = told(Sets(EXAMPLE).table())
        self.assertEqual(table[(2, 5, ZERO, True)], [ZERO])
        self.assertEqual(table[(4, 5, ONE, True)], [ONE])
        self.assertEqual(table[(4, 6, ONE, False)], [()])
        self.assertEqual(table[(5, 6, BOTH, False)], [()])
        self.assertEqual(len(table), 13)

    def test_all_is_ascending(self):
        for _, program, rule in programs(30):
            sets = Sets(program, rule=rule)
            self.assertEqual(sets.scenes(), sorted(sets.scenes()))
            self.assertEqual([scene for scene, _ in sets.table()], sets.scenes())
            for scene, arrivals in sets.table():
                self.assertEqual(arrivals, sorted(set(arrivals)))
                self.assertEqual(sets.arrivals(scene), arrivals)
                self.assertEqual(list(scene[2]), sorted(set(scene[2])))
            self.assertEqual(len(sets), len(sets.scenes()))

    def test_equal_calls(self):
        for _, program, rule in programs(10):
            self.assertEqual(Sets(program, rule=rule).table(), Sets(program, rule=rule).table())


class TestRows(unittest.TestCase):
    def table(self, rows, rule="told", **more):
        return told(Sets(Program(rows, **more), rule=rule).table())

    def crowds(self, rows, row, **more):
        """The crowds with which lanes come to a row, the scenes of the first entry."""
        return sorted(scene[2] for scene in self.table(rows, **more) if scene[0] == row and scene[1] == len(rows))

    def test_a_take_leaves_any_nonempty_set(self):
        self.assertEqual(self.crowds([("take", "x"), ("end",)], 1), [ZERO, BOTH, ONE])
        self.assertEqual(len(self.crowds([("take", "x"), ("end",)], 1, values=3)), 7)

    def test_a_take_of_several_classes(self):
        rows = [("take", "y"), ("take", "x"), ("end",)]
        crowds = self.crowds(rows, 2, registers=("x", "y"))
        # Of each class with a value of y any nonempty set is left, of one that is not there none.
        self.assertEqual(len(crowds), 3 + 3 + 9)
        self.assertIn(((0, 0), (0, 1), (1, 0), (1, 1)), crowds)
        self.assertIn(((0, 1), (1, 0)), crowds)

    def test_a_take_puts_classes_together(self):
        self.assertEqual(self.crowds([("take", "x"), ("take", "x"), ("end",)], 2), [ZERO, BOTH, ONE])

    def test_a_take_ahead_of_the_end(self):
        self.assertEqual(self.table([("take", "x")]), {(0, 1, ZERO, False): [()]})

    def test_a_take_ahead_of_the_join(self):
        rows = [("take", "x"), ("if", "x", 1, 3, 4), ("take", "x"), ("take", "x"), ("group", "a", None)]
        table = self.table(rows)
        self.assertEqual(table[(3, 4, ONE, True)], [ZERO, BOTH, ONE])
        self.assertEqual(self.crowds(rows, 4), [ZERO, BOTH, ONE])

    def test_rows_that_change_registers(self):
        start = [("take", "x"), ("take", "y")]
        for row, left in ((("set", "x", 1), ((1, 0), (1, 1))), (("copy", "x", "y"), ((0, 0), (1, 1))),
                          (("any", "x", 1, "y"), ((0, 1), (1, 1))), (("all", "x", 1, "y"), ((0, 0), (1, 0))),
                          (("same", "x", "y"), ((0, 0), (1, 0))), (("group", "a", None), None), (("go", 3), None)):
            crowds = self.crowds([*start, row, ("end",)], 3, registers=("x", "y"))
            self.assertIn(left or ((0, 0), (0, 1), (1, 0), (1, 1)), crowds, row)

    def test_rows_that_steer_see_the_crowd(self):
        start = [("take", "x")]
        for row, left in ((("any", "x", 1, "x"), [ZERO, ONE]), (("all", "x", 1, "x"), [ZERO, ONE]),
                          (("same", "x", "x"), [ZERO, ONE])):
            self.assertEqual(self.crowds([*start, row, ("end",)], 2), left)
        rows = [("take", "x"), ("same", "x", "y"), ("end",)]
        self.assertEqual(self.crowds(rows, 2, registers=("x", "y")), [((0, 0), (1, 0)), ((0, 1),), ((1, 1),)])

    def test_rows_that_end(self):
        for row in (("end",), ("go", 2), ("set", "x", 0), ("meet", "a"), ("if", "x", 0, 2, 0), ("if", "x", 1, 2, 0)):
            table = self.table([("go", 1), row])
            self.assertEqual(table, {(0, 2, ZERO, False): [()], (1, 2, ZERO, False): [()]}, row)

    def test_a_meeting_with_lanes_outside(self):
        rows = [("take", "x"), ("if", "x", 1, 3, 4), ("meet", "a"), ("go", 4), ("end",)]
        table = self.table(rows)
        self.assertEqual(table[(2, 4, ZERO, True)], [])
        self.assertEqual(table[(2, 5, ZERO, False)], [()])
        self.assertNotIn((3, 4, ZERO, True), table)
        # As the first arm never comes to its end, the second one never begins.
        self.assertNotIn((3, 4, ONE, True), table)
        self.assertNotIn((4, 5, BOTH, False), table)

    def test_a_join_that_is_that_of_the_entry(self):
        rows = [("take", "x"), ("if", "x", 1, 6, 7), ("take", "x"), ("if", "x", 1, 5, 7), ("go", 7), ("go", 7),
                ("go", 7), ("end",)]
        table = self.table(rows)
        self.assertEqual(table[(3, 7, BOTH, True)], [BOTH])
        self.assertEqual(table[(2, 7, ZERO, True)], [ZERO, BOTH, ONE])
        self.assertNotIn((7, 7, BOTH, True), table)

    def test_a_join_that_is_another_row(self):
        rows = [("take", "x"), ("if", "x", 1, 7, 8), ("take", "x"), ("if", "x", 1, 5, 6), ("go", 6), ("set", "x", 0),
                ("go", 8), ("go", 8), ("end",)]
        table = self.table(rows)
        self.assertEqual(table[(4, 6, ZERO, True)], [ZERO])
        self.assertEqual(table[(5, 6, ONE, True)], [ZERO])
        self.assertEqual(table[(6, 8, ZERO, True)], [ZERO])
        self.assertEqual(table[(3, 8, BOTH, True)], [ZERO])
        self.assertEqual(table[(2, 8, ZERO, True)], [ZERO])

    def test_a_join_that_is_the_end(self):
        rows = [("take", "x"), ("if", "x", 1, 4, 6), ("group", "a", None), ("end",), ("group", "b", None), ("end",)]
        table = self.table(rows)
        self.assertEqual(table[(1, 6, BOTH, False)], [()])
        self.assertEqual(table[(2, 6, ZERO, True)], [()])
        # The lanes of the first arm have ended by then.
        self.assertIn((4, 6, ONE, False), table)
        self.assertNotIn((4, 6, ONE, True), table)

    def test_the_end_as_the_join_within_another_entry(self):
        rows = [("take", "x"), ("if", "x", 1, 7, 8), ("take", "x"), ("if", "x", 1, 6, 9), ("group", "a", None),
                ("end",), ("end",), ("go", 8), ("group", "b", None)]
        table = self.table(rows)
        self.assertEqual(table[(3, 8, BOTH, True)], [()])
        self.assertEqual(table[(6, 9, ONE, True)], [()])
        self.assertEqual(table[(3, 8, ZERO, True)], [()])
        self.assertIn((7, 8, ONE, False), table)
        self.assertNotIn((7, 8, ONE, True), table)

    def test_an_arm_that_no_lane_leaves(self):
        rows = [("take", "x"), ("if", "x", 1, 3, 4), ("go", 2), ("go", 4), ("group", "a", None)]
        table = self.table(rows)
        self.assertEqual([table[(2, 4, ZERO, True)], table[(1, 5, BOTH, False)]], [[], []])
        self.assertNotIn((3, 4, ONE, True), table)
        rows = [("take", "x"), ("if", "x", 1, 3, 4), ("go", 4), ("go", 3), ("group", "a", None)]
        table = self.table(rows)
        self.assertEqual([table[(2, 4, ZERO, True)], table[(3, 4, ONE, True)]], [[ZERO], []])
        self.assertEqual(table[(1, 5, BOTH, False)], [])
        self.assertEqual([scene for scene in table if scene[0] == 4], [(4, 5, ZERO, False)])

    def test_lanes_that_end_in_an_arm(self):
        rows = [("take", "x"), ("if", "x", 1, 3, 4), ("end",), ("go", 4), ("group", "a", None)]
        table = self.table(rows)
        self.assertEqual(table[(2, 4, ZERO, True)], [()])
        self.assertEqual([table[(3, 4, ONE, False)], table[(4, 5, ONE, False)]], [[ONE], [()]])
        self.assertNotIn((3, 4, ONE, True), table)
        self.assertNotIn((4, 5, BOTH, False), table)

    def test_a_way_to_the_end_itself(self):
        rows = [("take", "x"), ("if", "x", 1, 4, 3), ("take", "x"), ("group", "a", None)]
        table = self.table(rows)
        self.assertIn((2, 3, ZERO, False), table)
        self.assertNotIn((2, 3, ZERO, True), table)
        rows = [("take", "x"), ("if", "x", 1, 0, 0)]
        self.assertEqual(self.table(rows)[(1, 2, BOTH, False)], [()])

    def test_arms_that_are_at_the_join_at_once(self):
        rows = [("take", "x"), ("if", "x", 1, 3, 2), ("go", 4), ("go", 2), ("end",)]
        table = self.table(rows)
        self.assertEqual(sorted(scene for scene in table if scene[1] == 2), [(3, 2, ONE, True)])
        self.assertIn((2, 5, BOTH, False), table)

    def test_a_branch_whose_ways_are_one_parts_nobody(self):
        table = self.table([("take", "x"), ("if", "x", 1, 2, 3), ("group", "a", None), ("end",)])
        self.assertIn((2, 4, BOTH, False), table)
        self.assertEqual([scene for scene in table if scene[1] == 3], [])

    def test_joins_that_do_not_nest(self):
        rows = [("take", "x"), ("if", "x", 1, 5, 6), ("take", "x"), ("if", "x", 1, 6, 4), ("go", 6), ("go", 6),
                ("go", 7), ("group", "a", None)]
        program = Program(rows)
        self.assertNotEqual(unnested(program, "told"), [])
        table = self.table(rows)
        # The lanes at the outer join are in the inner entry, and go on alone.
        self.assertIn((6, 4, ONE, True), table)
        self.assertEqual(table, {scene: sorted(arrivals) for scene, arrivals in Rules(program, "told").least().items()})


class TestLeastTables(unittest.TestCase):
    def test_what_the_document_says_word_by_word(self):
        sizes = []
        for _, program, rule in programs(200):
            table = Rules(program, rule).least()
            expected = {scene: sorted(arrivals) for scene, arrivals in table.items()}
            self.assertEqual(told(Sets(program, rule=rule).table()), expected, (program.rows, rule))
            sizes.append(len(table))
        self.assertGreater(max(sizes), 60)

    def test_what_machines_come_to(self):
        ends = 0
        for chance, program, rule in programs(150):
            table = told(Sets(program, rule=rule).table())
            for _ in range(3):
                datas = [some_data(chance, program.size, 8) for _ in range(chance.choice([1, 2, 2, 3, 5, 12]))]
                for scene, arrival in arrivals_seen(Machine(program, datas, rule=rule), uncounted):
                    self.assertIn(scene, table, (program.rows, rule))
                    if arrival is not None:
                        ends += 1
                        self.assertIn(arrival, table[scene], (program.rows, rule))
        self.assertGreater(ends, 500)

    def test_all_that_is_told_comes_with_some_lanes(self):
        shown = 0
        for chance, program, rule in programs(100):
            sketch = Sets(program, rule=rule).sketch
            all_told = [(scene, arrival) for scene in sketch.all_scenes() for arrival in (None, *sketch.arrivals(scene))]
            for scene, arrival in chance.sample(all_told, min(len(all_told), 30)):
                self.show(program, rule, sketch, scene, arrival)
                shown += 1
        self.assertGreater(shown, 3000)

    def beside_the_words(self, program, rule):
        """The table, and the least limit that is enough for it."""
        least = Rules(program, rule).least()
        self.assertEqual(Sets(program, rule=rule).table(), sorted((scene, sorted(least[scene])) for scene in least))
        many = sum(1 + len(least[scene]) for scene in least)
        self.assertEqual(len(Sets(program, rule=rule, limit=many)), len(least))
        self.assertEqual(error_of(self, TooMany, lambda: Sets(program, rule=rule, limit=many - 1)), many - 1)

    def test_lanes_that_are_left(self):
        for program in LEFT:
            for rule in RULES:
                self.beside_the_words(program, rule)
        self.assertIn((8, 10, ((0, 0),), False), Sets(LEFT[2]))

    def test_branches_that_lead_to_the_end(self):
        arms = 0
        for _, program, rule in leaving_programs(150):
            self.beside_the_words(program, rule)
            arms += Sets(program, rule=rule).sketch.arms is not None
        self.assertGreater(arms, 80)

    def show(self, program, rule, sketch, scene, arrival):
        """A machine comes to the scene, and then with the arrival to its end."""
        plot = sketch.full_plot()
        weave, costs = Weave(plot), Costs(plot)
        carry(costs, trek_along(costs, cheapest_leads(costs, sketch.start, {scene: True}, None)[1]), weave)
        if arrival is None:
            weave.visit(scene[0])
        else:
            self.assertIn(arrival, costs_of(costs, scene))
            carry(costs, [("finish", scene, arrival)], weave)
            if arrival > 0:
                weave.visit(scene[1])
        machine = Machine(program, datas_of(weave.takings()), rule=rule)
        crowd = None if arrival is None else plot.crowds.crowd_of(arrival)
        seen = arrivals_seen(machine, uncounted, 1000)
        self.assertTrue((plot.tell(scene), crowd) in seen, (program.rows, rule, scene, crowd))



class TestEnds(unittest.TestCase):
    def test_can_end(self):
        for rule in RULES:
            self.assertIs(Sets(EXAMPLE, rule=rule).can_end(), True)
            self.assertIs(Sets(Program([("go", 0)]), rule=rule).can_end(), False)
            loop = Program([("take", "x"), ("if", "x", 1, 3, 3), ("go", 0), ("end",)])
            self.assertIs(Sets(loop, rule=rule).can_end(), True)

    def test_rounds(self):
        self.assertEqual(Sets(EXAMPLE).rounds(), [])
        self.assertEqual(Sets(Program([("go", 0)])).rounds(), [(0, 1, ZERO, False)])
        program = Program([("take", "x"), ("if", "x", 1, 3, 4), ("meet", "a"), ("go", 4), ("end",)])
        self.assertEqual(Sets(program).rounds(), [(1, 5, BOTH, False), (2, 4, ZERO, True)])
        program = Program([("take", "x"), ("if", "x", 1, 3, 2), ("end",), ("go", 3)])
        self.assertEqual(Sets(program).rounds(),
                         [(1, 4, BOTH, False), (1, 4, ONE, False), (3, 2, ONE, True), (3, 4, ONE, False)])

    def test_they_are_the_scenes_without_arrivals(self):
        some = 0
        for _, program, rule in programs(60):
            sets = Sets(program, rule=rule)
            self.assertEqual(sets.rounds(), [scene for scene, arrivals in sets.table() if not arrivals])
            self.assertIs(sets.can_end(), () in sets.arrivals(Rules(program, rule).first()))
            some += len(sets.rounds())
        self.assertGreater(some, 10)


class TestTime(unittest.TestCase):
    def test_programs_of_24_rows(self):
        wide = {"registers": ("x", "y"), "values": 3}
        loop = [("take", "x"), ("take", "y"), *[("group", "a", None)] * 21, ("go", 0)]
        for rule in RULES:
            # All 511 crowds come to each row.
            self.assertEqual(len(Sets(Program(loop, **wide), rule=rule, limit=20000)), 24 * 511)
            self.assertEqual(error_of(self, TooMany, lambda: Sets(Program(loop, **wide), rule=rule)), 4000)

    def test_a_program_whose_arms_have_many_arrivals(self):
        for rule in RULES:
            self.assertGreater(len(Sets(many_pairs(), rule=rule, limit=20000)), 2000)

    def test_any_programs_of_24_rows(self):
        for chance in chances(12):
            program = forward_program(chance, 24, chance.choice([0, 0.2]), (("x", "y"), 3))
            for limit in (4000, 20000):
                try:
                    self.assertLessEqual(len(Sets(program, limit=limit)), limit)
                except TooMany as error:
                    self.assertEqual(error.value, limit)


if __name__ == "__main__":
    unittest.main()
