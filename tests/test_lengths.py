"""[2], [3] and [24]: greatest numbers of steps."""

import unittest
from unittest import mock

from partedlanes import showings
from partedlanes.errors import BadNumber, BadProgram, BadRule, NoScene, TooMany
from partedlanes.lanes import Data
from partedlanes.lengths import Steps, is_longer, is_ring, is_steps_table, lanes_for_most, leads
from partedlanes.machines import Machine
from partedlanes.programs import Program
from partedlanes.sets import Sets
from tests.helpers import NO_INTEGERS, STRANGE, Everything, error_of, refused
from tests.literal import chances, some_data
from tests.literal_scenes import Rules, forward_program, many_pairs
from tests.test_roads import NO_PROGRAMS, NO_RULES
from tests.test_sets import BOTH, EXAMPLE, NO_SCENES, ONE, RULES, SMALL, ZERO, programs
from tests.test_tables import some_crowd, with_place
from tests.test_views import LONG, NO_DATAS, rounds

LOOP = Program([("take", "x"), ("if", "x", 1, 3, 3), ("go", 0), ("end",)])
STUCK = Program([("take", "x"), ("if", "x", 1, 4, 5), ("meet", "a"), ("go", 5), ("go", 5), ("take", "x")])
SMALL_TABLE = [((0, 2, ZERO, False), 2, [((), 2)]), ((1, 2, ZERO, False), 1, [((), 1)]),
               ((1, 2, BOTH, False), 1, [((), 1)]), ((1, 2, ONE, False), 1, [((), 1)])]

# All that raise as Sets.
AS_SETS = (
    Steps, lanes_for_most, lambda program, **more: leads(program, (0, 6, ZERO, False), **more),
    lambda program, **more: is_ring(program, None, **more),
)


def steps_and_waits(machine, most=1000):
    """How many steps a machine does, and how long a lane of it waits."""
    last, wait = {}, 0
    for number in range(most):
        done = machine.step()
        if done[0] != "done":
            return number, wait
        for lane in done[2]:
            wait = max(wait, number - last.get(lane, number) - 1)
            last[lane] = number
    return most, wait


def endings(many, most=11):
    """Some programs and rules by which there is a greatest number of steps."""
    for chance, program, rule in programs(many, most):
        if not Steps(program, rule=rule).is_endless():
            yield chance, program, rule


class TestArguments(unittest.TestCase):
    def test_exceptions_of_sets(self):
        for function in AS_SETS:
            for program in NO_PROGRAMS:
                refused(self, BadProgram, program, lambda: function(program, rule=None, limit=None))
            for rule in NO_RULES:
                refused(self, BadRule, rule, lambda: function(EXAMPLE, rule=rule, limit=None))
            for limit in (0, -1, 20001, *NO_INTEGERS):
                refused(self, BadNumber, limit, lambda: function(EXAMPLE, limit=limit))
            self.assertEqual(error_of(self, TooMany, lambda: function(EXAMPLE, limit=25)), 25)
            function(EXAMPLE, rule="first", limit=26)
            self.assertRaises(TypeError, lambda: function(EXAMPLE, "told"))

    def test_exceptions_of_is_steps_table(self):
        for program in NO_PROGRAMS:
            refused(self, BadProgram, program, lambda: is_steps_table(program, None, None))
        for rule in NO_RULES:
            refused(self, BadRule, rule, lambda: is_steps_table(SMALL, rule, None))

    def test_exceptions_of_is_longer(self):
        for program in NO_PROGRAMS:
            refused(self, BadProgram, program, lambda: is_longer(program, None, None, rule=None))
        for rule in NO_RULES:
            refused(self, BadRule, rule, lambda: is_longer(EXAMPLE, None, None, rule=rule))
        for steps in (-1, 1001, *NO_INTEGERS):
            refused(self, BadNumber, steps, lambda: is_longer(EXAMPLE, None, steps))

    def test_names_of_arguments(self):
        steps = Steps(program=SMALL, rule="told", limit=50)
        scene = (0, 2, ZERO, False)
        self.assertEqual(steps.numbers(scene=scene), [((), 2)])
        self.assertEqual(len(leads(program=SMALL, scene=scene, rule="told", limit=50)), 3)
        self.assertIs(is_ring(program=SMALL, value=[scene], rule="told", limit=50), False)
        self.assertIs(is_steps_table(program=SMALL, rule="told", value=SMALL_TABLE), True)
        datas = lanes_for_most(program=SMALL, rule="told", limit=50)
        self.assertIs(is_longer(program=SMALL, datas=datas, steps=1, rule="told"), True)
        self.assertRaises(TypeError, lambda: is_longer(SMALL, datas, 1, "told"))

    def test_no_scene(self):
        for program in (SMALL, Program([("take", "x"), ("go", 0)])):
            steps = Steps(program)
            for value in (*NO_SCENES, (0, 2, ONE, True), (0, 1, ZERO, False), (-1, 2, ZERO, False)):
                self.assertIs(value in steps, False)
                refused(self, NoScene, value, lambda: steps[value])
                refused(self, NoScene, value, lambda: steps.numbers(value))
                refused(self, NoScene, value, lambda: leads(program, value))


class TestSteps(unittest.TestCase):
    def test_small(self):
        steps = Steps(SMALL)
        self.assertEqual([steps.greatest, steps.wait, steps.ring(), steps.is_endless()], [2, 0, None, False])
        self.assertEqual(steps.table(), SMALL_TABLE)
        self.assertEqual([steps[(0, 2, ZERO, False)], len(steps)], [2, 4])
        self.assertEqual(steps.numbers((1, 2, BOTH, False)), [((), 1)])
        self.assertIs((1, 2, BOTH, False) in steps, True)

    def test_example(self):
        steps = Steps(EXAMPLE)
        # take, branch, low, go, high, meeting; those that are first wait for one step, the others for two.
        self.assertEqual([steps.greatest, steps.wait], [6, 2])
        self.assertEqual(steps.numbers((2, 5, ZERO, True)), [(ZERO, 2)])
        self.assertEqual([steps[(4, 5, ONE, True)], steps[(1, 6, BOTH, False)], steps[(1, 6, ONE, False)]], [1, 5, 3])

    def test_nobody_waits_who_does_not_go_on(self):
        # Lanes that take 1 wait for those that take 0, and then the machine stands.
        rows = [("take", "x"), ("if", "x", 1, 4, 5), ("take", "x"), ("meet", "a"), ("go", 5), ("end",)]
        steps = Steps(Program(rows))
        self.assertEqual([steps.greatest, steps.wait, steps[(1, 6, BOTH, False)]], [6, 0, 2])
        rows[3] = ("go", 5)
        self.assertEqual(Steps(Program(rows)).wait, 2)
        rows[4] = ("meet", "a")
        steps = Steps(Program(rows))
        self.assertEqual([steps.wait, steps[(1, 6, BOTH, False)]], [0, 3])

    def test_a_second_arm_that_stands(self):
        rows = [("take", "x"), ("if", "x", 1, 4, 7), ("take", "x"), ("go", 7), ("take", "x"), ("meet", "a"), ("go", 7),
                ("end",)]
        steps = Steps(Program(rows))
        # The branch, two rows of the first arm, and one of the second arm, whose lanes have waited for two.
        self.assertEqual([steps.wait, steps[(1, 8, BOTH, False)], steps[(4, 7, ONE, True)]], [2, 4, 1])
        table = steps.table()
        place = [entry[0] for entry in table].index((1, 8, BOTH, False))
        for length, expected in ((3, False), (4, True)):
            table[place] = (table[place][0], length, [])
            self.assertIs(is_steps_table(Program(rows), "told", table), expected)

    def test_lanes_that_end_do_not_wait(self):
        rows = [("take", "x"), ("if", "x", 1, 4, 6), ("end",), ("end",), ("take", "x"), ("take", "x")]
        steps = Steps(Program(rows))
        self.assertEqual([steps.greatest, steps.wait], [5, 1])
        rows[1] = ("if", "x", 1, 6, 6)
        self.assertEqual([Steps(Program(rows)).greatest, Steps(Program(rows)).wait], [3, 0])

    def test_lanes_that_wait_at_the_join_of_the_entry(self):
        # Those that leave at row 1 or 3 wait for all others, and go on with them at row 7.
        rows = [("take", "x"), ("if", "x", 1, 6, 7), ("take", "x"), ("if", "x", 1, 5, 7), ("go", 7), ("go", 7),
                ("go", 7), ("end",)]
        steps = Steps(Program(rows))
        self.assertEqual([steps.greatest, steps.wait], [8, 4])

    def test_meetings_that_stand(self):
        steps = Steps(STUCK)
        self.assertEqual([steps[(2, 5, ZERO, True)], steps.numbers((2, 5, ZERO, True))], [0, []])
        self.assertEqual([steps[(1, 6, BOTH, False)], steps.numbers((1, 6, BOTH, False))], [1, []])
        self.assertEqual([steps.greatest, steps[(2, 6, ZERO, False)]], [5, 3])

    def test_endless(self):
        steered = Program([("take", "x"), ("any", "x", 1, "x"), ("if", "x", 1, 0, 3)])
        for program in (LOOP, Program([("go", 0)]), steered):
            for rule in RULES:
                steps = Steps(program, rule=rule)
                self.assertIs(steps.is_endless(), True)
                self.assertEqual([steps.greatest, steps.wait, steps.table()], [None, None, None])
                self.assertIs(is_ring(program, steps.ring(), rule=rule), True)
                self.assertIsNone(lanes_for_most(program, rule=rule))
                self.assertEqual(len(steps), len(Sets(program, rule=rule)))
                for scene in Sets(program, rule=rule).scenes():
                    self.assertIs(scene in steps, True)
                    self.assertEqual([steps[scene], steps.numbers(scene)], [None, None])

    def test_lists_are_new(self):
        steps = Steps(SMALL)
        for get in (steps.table, lambda: steps.numbers((0, 2, ZERO, False)), Steps(LOOP).ring):
            before = list(get())
            get().append(1)
            self.assertEqual(get(), before)
        steps.table()[0][2].append(1)
        self.assertEqual(steps.table(), SMALL_TABLE)

    def test_steps_are_not_gone_over(self):
        self.assertRaises(TypeError, lambda: list(Steps(SMALL)))

    def test_by_the_words_of_the_document(self):
        ends = {True: 0, False: 0}
        for _, program, rule in programs(100):
            rules = Rules(program, rule)
            table = rules.least()
            steps = Steps(program, rule=rule)
            endless = rules.is_endless(table)
            ends[endless] += 1
            self.assertIs(steps.is_endless(), endless, (program.rows, rule))
            self.assertEqual(len(steps), len(table))
            if not endless:
                lengths, numbers = rules.longest(table)
                expected = [(scene, lengths[scene], sorted(numbers[scene].items())) for scene in sorted(table)]
                self.assertEqual(steps.table(), expected, (program.rows, rule))
                self.assertEqual(steps.greatest, lengths[rules.first()])
                for scene, length, told in expected:
                    self.assertEqual([steps[scene], steps.numbers(scene)], [length, told])
        self.assertGreater(min(ends.values()), 20)

    def test_beside_machines(self):
        waits = []
        for chance, program, rule in endings(80):
            steps = Steps(program, rule=rule)
            seen = []
            for _ in range(80):
                datas = [some_data(chance, program.size, 8) for _ in range(chance.choice([1, 2, 2, 3, 4, 7, 12]))]
                seen.append(steps_and_waits(Machine(program, datas, rule=rule)))
            self.assertLessEqual(max(done for done, _ in seen), steps.greatest, (program.rows, rule))
            self.assertLessEqual(max(wait for _, wait in seen), steps.wait, (program.rows, rule))
            waits.append(max(wait for _, wait in seen) == steps.wait)
        self.assertGreater(sum(waits), len(waits) * 0.95)


class TestLeads(unittest.TestCase):
    def test_arms_and_the_rest(self):
        self.assertEqual(leads(EXAMPLE, (1, 6, BOTH, False)),
                         [(2, 5, ZERO, True), (4, 5, ONE, True), (5, 6, BOTH, False)])
        self.assertEqual(leads(EXAMPLE, (1, 6, ONE, False)), [(4, 6, ONE, False)])
        self.assertEqual(leads(EXAMPLE, (0, 6, ZERO, False)),
                         [(1, 6, ZERO, False), (1, 6, BOTH, False), (1, 6, ONE, False)])
        self.assertEqual(leads(EXAMPLE, (3, 5, ZERO, True)), [])
        self.assertEqual(leads(STUCK, (1, 6, BOTH, False)), [(2, 5, ZERO, True)])
        self.assertEqual(leads(STUCK, (2, 5, ZERO, True)), [])

    def test_by_the_words_of_the_document(self):
        for chance, program, rule in programs(60):
            rules = Rules(program, rule)
            table = rules.least()
            for scene in chance.sample(sorted(table), min(len(table), 8)):
                expected = sorted(rules.leads(scene, table))
                self.assertEqual(leads(program, scene, rule=rule), expected, (program.rows, rule))


class TestRings(unittest.TestCase):
    RING = [(0, 4, ZERO, False), (1, 4, ZERO, False), (2, 4, ZERO, False)]

    def test_rings(self):
        self.assertIs(is_ring(LOOP, self.RING), True)
        self.assertIs(is_ring(LOOP, self.RING[1:] + self.RING[:1]), True)
        self.assertIs(is_ring(LOOP, self.RING * 2), True)
        self.assertIs(is_ring(Program([("go", 0)]), [(0, 1, ZERO, False)]), True)
        inner = [(0, 3, ZERO, True), (1, 3, ZERO, True), (2, 3, ZERO, True)]
        self.assertIs(is_ring(LOOP, inner), True)
        self.assertIs(is_ring(LOOP, [*inner[:2], self.RING[2]]), False)

    def test_no_rings(self):
        for value in (self.RING[:2], self.RING[::-1], self.RING[:1], [], tuple(self.RING), dict.fromkeys(self.RING),
                      [*self.RING, (3, 4, ONE, False)], [list(scene) for scene in self.RING], *STRANGE, "ring", 1,
                      True):
            self.assertIs(is_ring(LOOP, value), False)
        for scene in (*NO_SCENES, (0, 4, ONE, True), (0, 4, ZERO, 0), (0, 4, ((False,),), False)):
            self.assertIs(is_ring(LOOP, [scene]), False)
            self.assertIs(is_ring(LOOP, [*self.RING, scene]), False)
            self.assertIs(is_ring(LOOP, [scene, *self.RING[1:]]), False)
        self.assertIs(is_ring(EXAMPLE, [(0, 6, ZERO, False)]), False)

    def test_any_scenes(self):
        found = {True: 0, False: 0}
        for chance, program, rule in programs(60):
            steps = Steps(program, rule=rule)
            rules = Rules(program, rule)
            table = rules.least()
            some = [chance.choice(sorted(table)) for _ in range(chance.randint(1, 2))]
            for value in (steps.ring() or some, some):
                expected = all(later in rules.leads(scene, table) for scene, later in zip(value, value[1:] + value[:1]))
                found[expected] += 1
                self.assertIs(is_ring(program, value, rule=rule), expected)
        self.assertGreater(min(found.values()), 10)


class TestTables(unittest.TestCase):
    def check(self, value, expected=False):
        self.assertIs(is_steps_table(SMALL, "told", value), expected)

    def test_no_tables(self):
        for value in (*STRANGE, tuple(SMALL_TABLE), "table", 1, True, [], {}):
            self.check(value)
        first, length, numbers = SMALL_TABLE[0]
        for entry in (*STRANGE, [first, length, numbers], (first, length), (first, length, numbers, 0), first, (), "",
                      1):
            self.check(with_place(SMALL_TABLE, 0, entry))
            self.check([*SMALL_TABLE, entry])
        for scene in NO_SCENES:
            self.check(with_place(SMALL_TABLE, 0, (scene, length, numbers)))
            self.check([*SMALL_TABLE, (scene, length, numbers)])
        for wrong in (*NO_INTEGERS, -1, 1, "2"):
            self.check(with_place(SMALL_TABLE, 0, (first, wrong, numbers)))
        for wrong in (*NO_INTEGERS, -1):
            self.check(with_place(SMALL_TABLE, 3, (SMALL_TABLE[3][0], wrong, [((), 1)])))

    def test_no_numbers(self):
        first = SMALL_TABLE[0][0]
        for wrong in (*STRANGE, (((), 2),), {(): 2}, "", 2, True, []):
            self.check(with_place(SMALL_TABLE, 0, (first, 2, wrong)))
        for entry in (*STRANGE, [(), 2], ((),), ((), 2, 0), "", 2, ((), -1), ((), 2.0), ((), True), ((), None),
                      ([], 2), (Everything(), 2), (((0, 0),), 2), ((0,), 2), (((True,),), 2), (((1,), (0,)), 2)):
            self.check(with_place(SMALL_TABLE, 0, (first, 2, [entry])))
            self.check(with_place(SMALL_TABLE, 0, (first, 2, [((), 2), entry])))
        self.check(with_place(SMALL_TABLE, 0, (first, 2, [((), 2), (ONE, 0)])), True)
        self.check(with_place(SMALL_TABLE, 0, (first, 2, [((), 2), ((), 2)])))
        self.check(with_place(SMALL_TABLE, 0, (first, 2, [((), 2), ((), 1)])))

    def test_tables(self):
        self.check(SMALL_TABLE, True)
        self.check(SMALL_TABLE[::-1], True)
        self.check([*SMALL_TABLE, SMALL_TABLE[0]])
        self.check(SMALL_TABLE[1:])
        self.check(SMALL_TABLE[:3])
        first = SMALL_TABLE[0][0]
        for length, number, expected in ((2, 2, True), (3, 2, True), (3, 3, True), (2, 3, False), (2, 1, False),
                                         (1, 2, False), (1, 1, False), (10 ** 30, 10 ** 29, True)):
            self.check(with_place(SMALL_TABLE, 0, (first, length, [((), number)])), expected)
        # A longer way behind makes the first one longer, too.
        later = SMALL_TABLE[1][0]
        self.check(with_place(SMALL_TABLE, 1, (later, 2, [((), 1)])))
        self.check(with_place(SMALL_TABLE, 1, (later, 2, [((), 2)])))
        greater = with_place(SMALL_TABLE, 1, (later, 2, [((), 2)]))
        self.check(with_place(greater, 0, (first, 3, [((), 3)])), True)
        self.check(with_place(greater, 0, (first, 3, [((), 2)])))
        self.check(with_place(SMALL_TABLE, 1, (later, 2, [((), 1), (ZERO, 2)])))

    def test_rings_have_no_table(self):
        scenes = Sets(LOOP).scenes()
        table = [(scene, 1000 + place, [(arrival, 1000) for arrival in Sets(LOOP).arrivals(scene)])
                 for place, scene in enumerate(scenes)]
        self.assertIs(is_steps_table(LOOP, "told", table), False)

    def test_a_scene_that_does_no_step(self):
        table = Steps(STUCK).table()
        self.assertIs(is_steps_table(STUCK, "told", table), True)
        place = [entry[0] for entry in table].index((2, 5, ZERO, True))
        self.assertEqual(table[place][1:], (0, []))
        place = [entry[0] for entry in table].index((5, 6, ONE, False))
        self.assertIs(is_steps_table(STUCK, "told", with_place(table, place, (table[place][0], 0, [((), 0)]))), False)

    def test_tables_of_steps(self):
        for chance, program, rule in endings(60):
            table = Steps(program, rule=rule).table()
            self.assertIs(is_steps_table(program, rule, table), True)
            self.assertIs(is_steps_table(program, rule, chance.sample(table, len(table))), True)
            place = chance.randrange(len(table))
            scene, length, numbers = table[place]
            self.assertIs(is_steps_table(program, rule, table[:place] + table[place + 1:]), False)
            if length > 0:
                other = with_place(table, place, (scene, length - 1, numbers))
                self.assertIs(is_steps_table(program, rule, other), False)
            for at, (arrival, number) in enumerate(numbers):
                for left in ([(arrival, number - 1)], []):
                    other = with_place(table, place, (scene, length, [*numbers[:at], *left, *numbers[at + 1:]]))
                    self.assertIs(is_steps_table(program, rule, other), False)

    def test_greater_ones(self):
        found = {True: 0, False: 0}
        for chance, program, rule in endings(100, 9):
            rules = Rules(program, rule)
            table = {scene: [length, dict(numbers)] for scene, length, numbers in Steps(program, rule=rule).table()}
            for _ in range(3):
                entry = table[chance.choice(sorted(table))]
                entry[0] += chance.choice([0, 1, 1, 3])
                if entry[1] and chance.random() < 0.4:
                    entry[1][chance.choice(sorted(entry[1]))] += 1
                if chance.random() < 0.2:
                    entry[1].setdefault(some_crowd(chance, program), chance.choice([0, 0, 1]))
                row, join = chance.randrange(program.end), chance.randint(0, program.end)
                if row != join and chance.random() < 0.2:
                    table.setdefault((row, join, some_crowd(chance, program), False), [chance.randint(0, 9), {}])
                if chance.random() < 0.6:
                    self.raise_all(rules, table)
                value = [(scene, length, list(numbers.items())) for scene, (length, numbers) in table.items()]
                expected = self.is_right(rules, table)
                found[expected] += 1
                self.assertIs(is_steps_table(program, rule, value), expected, (program.rows, rule, value))
        self.assertGreater(min(found.values()), 60)

    def asked(self, rules, table):
        """All that has to be told: (scene, "length" or an arrival or a scene, what it has to be at least)."""
        numbers = {scene: told for scene, (_, told) in table.items()}
        for scene, (_, told) in table.items():
            stuck = rules.program.rows[scene[0]][0] == "meet" and scene[3]
            yield scene, "length", max([0 if stuck else 1, *told.values()])
            for kind, what, steps in rules.asks(scene, numbers):
                yield scene, what, steps
                if kind == "leads":
                    yield scene, "length", steps + table.get(what, (0,))[0]

    def is_right(self, rules, table):
        for scene, what, least in self.asked(rules, table):
            if what == "length":
                right = table[scene][0] >= least
            elif len(what) == 4 and isinstance(what[0], int):
                right = what in table
            else:
                right = table[scene][1].get(what, -1) >= least
            if not right:
                return False
        return True

    def raise_all(self, rules, table):
        """Tells greater lengths and numbers, as often as some have to be, if that comes to an end."""
        for _ in range(30):
            for scene, what, least in list(self.asked(rules, table)):
                if what == "length":
                    table[scene][0] = max(table[scene][0], least)
                elif len(what) == 4 and isinstance(what[0], int):
                    table.setdefault(what, [0, {}])
                else:
                    table[scene][1][what] = max(table[scene][1].get(what, 0), least)


class TestMost(unittest.TestCase):
    def test_example(self):
        datas = lanes_for_most(EXAMPLE)
        self.assertEqual(sorted(len(data) for data in datas), [0, 1])
        self.assertEqual(steps_and_waits(Machine(EXAMPLE, datas)), (6, 2))
        datas = lanes_for_most(STUCK)
        self.assertEqual(steps_and_waits(Machine(STUCK, datas))[0], 5)

    def test_machines_do_just_so_many_steps(self):
        lanes = set()
        for _, program, rule in endings(150):
            datas = lanes_for_most(program, rule=rule)
            greatest = Steps(program, rule=rule).greatest
            self.assertEqual(steps_and_waits(Machine(program, datas, rule=rule))[0], greatest, (program.rows, rule))
            self.assertIs(is_longer(program, datas, greatest, rule=rule), False)
            self.assertIs(is_longer(program, datas, greatest - 1, rule=rule), True)
            lanes.add(len(datas))
        self.assertTrue({1, 2, 3} <= lanes)

    def halves(self, many):
        """A program whose lanes part in two again and again, so that two to the power of many lanes do most steps."""
        rows = []
        for place in range(many):
            first, join = 3 * place, 4 * many - place
            rows += [("take", "x"), ("if", "x", 1, first + 3, join), ("go", join if place == many - 1 else first + 3)]
        return Program([*rows, *[("set", "x", 0)] * many])

    def test_more_than_forty_lanes(self):
        program = self.halves(5)
        datas = lanes_for_most(program)
        self.assertEqual(len(datas), 32)
        # The innermost part has five rows, one around it twice as many and four more, the outermost one of these less.
        self.assertEqual(steps_and_waits(Machine(program, datas))[0], 139)
        self.assertEqual(Steps(program).greatest, 139)
        self.assertEqual(Steps(self.halves(6)).greatest, 283)
        self.assertEqual(error_of(self, TooMany, lambda: lanes_for_most(self.halves(6))), 40)

    def test_steps_are_not_bounded(self):
        with mock.patch.object(showings, "MOST_STEPS", 3):
            self.assertEqual(steps_and_waits(Machine(EXAMPLE, lanes_for_most(EXAMPLE)))[0], 6)

    def test_more_values_than_may_be(self):
        # The second lane has to leave at just the last take.
        rows = [*[("take", "x")] * 5, ("if", "x", 1, 7, 8), ("set", "x", 0), ("set", "x", 0)]
        self.assertEqual(sorted(len(data) for data in lanes_for_most(Program(rows))), [0, 5])
        with mock.patch.object(showings, "MOST_VALUES", 4):
            self.assertEqual(error_of(self, TooMany, lambda: lanes_for_most(Program(rows))), 40)


class TestIsLonger(unittest.TestCase):
    def test_other_values(self):
        for datas in NO_DATAS:
            self.assertIs(is_longer(EXAMPLE, datas, 0), False)

    def test_just_so_many_steps_and_one_less(self):
        datas = [Data(1), Data(0)]
        for rule in RULES:
            self.assertEqual([is_longer(EXAMPLE, datas, steps, rule=rule) for steps in (0, 5, 6, 7, 1000)],
                             [True, True, False, False, False])
        self.assertEqual([is_longer(STUCK, tuple(datas), steps) for steps in (1, 2, 3)], [True, False, False])

    def test_a_thousand_steps(self):
        for ahead in (0, 1):
            program = rounds(ahead, ("go", 23 + ahead))
            steps = steps_and_waits(Machine(program, [Data(*LONG, 2)]), 1100)[0]
            self.assertEqual(steps, 1000 + ahead)
            self.assertIs(is_longer(program, [Data(*LONG, 2)], 999), True)
            self.assertIs(is_longer(program, [Data(*LONG, 2)], 1000), ahead == 1)
        self.assertIs(is_longer(LOOP, [Data()], 1000), True)

    def test_beside_machines(self):
        for chance, program, rule in programs(40):
            datas = [some_data(chance, program.size, 8) for _ in range(chance.choice([1, 2, 3]))]
            done = steps_and_waits(Machine(program, datas, rule=rule), 40)[0]
            for steps in (done - 1, done):
                expected = steps_and_waits(Machine(program, datas, rule=rule), steps + 1)[0] > steps
                self.assertIs(is_longer(program, datas, max(steps, 0), rule=rule), expected or steps < 0)


class TestTime(unittest.TestCase):
    def test_a_program_whose_arms_have_many_arrivals(self):
        steps = Steps(many_pairs(), limit=20000)
        # Two takes, the branch, two rows of each arm, and the group operation.
        self.assertEqual([steps.greatest, steps.wait], [8, 2])
        self.assertIs(is_steps_table(many_pairs(), "told", steps.table()), True)

    def test_any_programs_of_24_rows(self):
        for chance in chances(10):
            program = forward_program(chance, 24, chance.choice([0, 0, 0.1]), (("x", "y"), 3))
            for limit in (4000, 20000):
                try:
                    steps = Steps(program, limit=limit)
                except TooMany as error:
                    self.assertEqual(error.value, limit)
                    continue
                if not steps.is_endless():
                    self.assertIs(is_steps_table(program, "told", steps.table()), True)
                    datas = lanes_for_most(program, limit=limit)
                    self.assertEqual(steps_and_waits(Machine(program, datas))[0], steps.greatest)
                else:
                    self.assertIs(is_ring(program, steps.ring(), limit=limit), True)


if __name__ == "__main__":
    unittest.main()
