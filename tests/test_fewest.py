"""[2], [3], [25] and [26]: counted scenes, and the fewest lanes."""

import itertools
import unittest
from unittest import mock

from partedlanes import showings
from partedlanes.counts import most_counted
from partedlanes.errors import BadNumber, BadProgram, BadRule, NoScene, TooMany
from partedlanes.fewest import Counted, fewest_lanes, fewest_that_stand, is_counted_table
from partedlanes.lanes import Data
from partedlanes.machines import Machine
from partedlanes.programs import Program
from partedlanes.sets import Sets
from partedlanes.views import can_stand_in_sets, is_stand, is_view, lanes_for, lanes_that_stand, views
from tests.helpers import NO_INTEGERS, STRANGE, Everything, error_of, refused
from tests.literal import chances, some_data
from tests.literal_scenes import Rules, fellows, forward_program, leavers
from tests.test_roads import NO_PROGRAMS, NO_RULES
from tests.test_sets import (BOTH, EXAMPLE, NO_COUNTED, ONE, SMALL, ZERO, arrivals_seen, leaving_programs,
                             programs)
from tests.test_tables import with_place
from tests.test_views import NO_CROWDS, STUCK, watched

TABLE = [((0, 2, ((0,), (0,)), False), [()]), ((1, 2, ((0,), (0,)), False), [()]),
         ((1, 2, ((0,), (1,)), False), [()]), ((1, 2, ((1,), (1,)), False), [()])]
FIRST = TABLE[0][0]
WIDE = Program([("take", "x"), ("take", "y"), ("group", "a", None)], registers=("x", "y"), values=3)

FELLOWS, LAST = fellows(2)


def counted(machine, lanes):
    return tuple(sorted(machine.registers_of(lane) for lane in lanes))


def size(sets):
    """How many scenes and arrivals there are together."""
    return sum(1 + len(arrivals) for _, arrivals in sets.table())


def uncounted(scene):
    return (*scene[:2], tuple(sorted(set(scene[2]))), scene[3])


class TestArguments(unittest.TestCase):
    def test_exceptions_of_counted(self):
        for program in NO_PROGRAMS:
            refused(self, BadProgram, program, lambda: Counted(program, None, rule=None, limit=None))
        for rule in NO_RULES:
            refused(self, BadRule, rule, lambda: Counted(SMALL, None, rule=rule, limit=None))
        for lanes in (0, -1, 9, 40, *NO_INTEGERS):
            refused(self, BadNumber, lanes, lambda: Counted(SMALL, lanes, limit=None))
        for limit in (0, -1, 20001, *NO_INTEGERS):
            refused(self, BadNumber, limit, lambda: Counted(SMALL, 2, limit=limit))
        self.assertEqual(error_of(self, TooMany, lambda: Counted(SMALL, 2, limit=7)), 7)
        self.assertEqual(len(Counted(SMALL, 2, limit=8)), 4)
        self.assertEqual(len(Counted(SMALL, 2, limit=20000)), 4)

    def test_just_so_many_scenes_and_arrivals(self):
        for _, program, rule in programs(30):
            for lanes in (1, 3):
                sets = Counted(program, lanes, rule=rule, limit=20000)
                many = size(sets)
                self.assertEqual(len(Counted(program, lanes, rule=rule, limit=many)), len(sets))
                error_of(self, TooMany, lambda: Counted(program, lanes, rule=rule, limit=many - 1))

    def test_default_limit(self):
        rows = [("take", "x"), ("take", "y"), *[("group", "a", None)] * 22]
        program = Program(rows, registers=("x", "y"))
        self.assertEqual(error_of(self, TooMany, lambda: Counted(program, 8)), 4000)
        # 9 crowds of 8 lanes behind the first take, 165 behind the second one.
        self.assertEqual(len(Counted(program, 8, limit=20000)), 1 + 9 + 22 * 165)

    def test_exceptions_of_is_counted_table(self):
        for program in NO_PROGRAMS:
            refused(self, BadProgram, program, lambda: is_counted_table(program, None, None, TABLE))
        for rule in NO_RULES:
            refused(self, BadRule, rule, lambda: is_counted_table(SMALL, None, rule, TABLE))
        for lanes in (0, -1, 9, *NO_INTEGERS):
            refused(self, BadNumber, lanes, lambda: is_counted_table(SMALL, lanes, "told", TABLE))

    def test_exceptions_of_fewest(self):
        for function in (fewest_that_stand, lambda program, **more: fewest_lanes(program, None, None, **more)):
            for program in NO_PROGRAMS:
                refused(self, BadProgram, program, lambda: function(program, rule=None, limit=None))
            for rule in NO_RULES:
                refused(self, BadRule, rule, lambda: function(EXAMPLE, rule=rule, limit=None))
            for limit in (0, 20001, *NO_INTEGERS):
                refused(self, BadNumber, limit, lambda: function(EXAMPLE, limit=limit))
            self.assertEqual(error_of(self, TooMany, lambda: function(EXAMPLE, limit=25)), 25)
        for row in (-1, 0, 1, 3, 6, 7, *NO_INTEGERS):
            refused(self, BadNumber, row, lambda: fewest_lanes(EXAMPLE, row, None))

    def test_names_of_arguments(self):
        sets = Counted(program=SMALL, lanes=2, rule="told", limit=50)
        self.assertEqual(sets.arrivals(scene=FIRST), [()])
        self.assertIs(is_counted_table(program=SMALL, lanes=2, rule="told", value=TABLE), True)
        self.assertEqual(fewest_lanes(program=EXAMPLE, row=2, crowd=ZERO, rule="told", limit=50), (1, [Data()]))
        self.assertIsNone(fewest_that_stand(program=EXAMPLE, rule="told", limit=50))
        for call in (lambda: Counted(SMALL, 2, "told"), lambda: fewest_lanes(EXAMPLE, 2, ZERO, "told"),
                     lambda: fewest_that_stand(EXAMPLE, "told")):
            self.assertRaises(TypeError, call)


class TestCounted(unittest.TestCase):
    def test_small(self):
        sets = Counted(SMALL, 2)
        self.assertEqual([sets.table(), len(sets), sets.can_end(), sets.rounds()], [TABLE, 4, True, []])
        self.assertEqual(sets.scenes(), [scene for scene, _ in TABLE])
        for scene, arrivals in TABLE:
            self.assertEqual([scene in sets, sets.arrivals(scene)], [True, arrivals])
        self.assertEqual([len(Counted(SMALL, lanes)) for lanes in (1, 2, 3, 8)], [3, 4, 5, 10])
        self.assertEqual(len(Counted(WIDE, 2)), 1 + 6 + 45)

    def test_no_scene(self):
        sets = Counted(SMALL, 2)
        for value in (*NO_COUNTED, (0, 2, ZERO, False), (1, 2, ((0,), (0,)), True), (1, 2, ((1,), (0,)), False),
                      (1, 2, ((0,), (0,), (0,)), False)):
            self.assertIs(value in sets, False)
            refused(self, NoScene, value, lambda: sets.arrivals(value))

    def test_one_lane_is_never_parted(self):
        for _, program, rule in programs(30):
            for scene in Counted(program, 1, rule=rule).scenes():
                self.assertEqual([len(scene[2]), scene[1], scene[3]], [1, program.end, False])

    def test_arms(self):
        table = dict(Counted(EXAMPLE, 3).table())
        self.assertEqual(table[(2, 5, ((0,), (0,)), True)], [((0,), (0,))])
        self.assertEqual(table[(4, 5, ONE, True)], [ONE])
        self.assertEqual(table[(5, 6, ((0,), (0,), (1,)), False)], [()])
        self.assertNotIn((5, 6, BOTH, False), table)
        self.assertNotIn((2, 5, ((0,), (0,), (0,)), True), table)

    def test_lanes_that_end_in_an_arm(self):
        rows = [("take", "x"), ("if", "x", 1, 3, 4), ("end",), ("go", 4), ("group", "a", None)]
        table = dict(Counted(Program(rows), 3).table())
        crowds = [scene[2] for scene in table if scene[0] == 4]
        self.assertEqual(sorted(crowds), [((1,),), ((1,), (1,)), ((1,), (1,), (1,))])

    def test_can_end_and_rounds(self):
        # A lane that is alone goes round for ever, two can part.
        rows = [("take", "x"), ("same", "x", "y"), ("if", "y", 1, 2, 2), ("end",)]
        program = Program(rows, registers=("x", "y"))
        self.assertEqual([Counted(program, lanes).can_end() for lanes in (1, 2, 3)], [False, True, True])
        self.assertEqual(len(Counted(program, 1).rounds()), len(Counted(program, 1)))
        self.assertIn((2, 4, ((0, 1), (0, 1)), False), Counted(program, 2).rounds())
        self.assertNotIn((2, 4, ((0, 0), (1, 0)), False), Counted(program, 2).rounds())

    def test_lists_are_new(self):
        sets = Counted(SMALL, 2)
        for get in (sets.scenes, sets.table, sets.rounds, lambda: sets.arrivals(FIRST)):
            before = list(get())
            get().append(1)
            self.assertEqual(get(), before)
        sets.table()[0][1].append(1)
        self.assertEqual(sets.table(), TABLE)

    def test_what_the_document_says_word_by_word(self):
        rounds = 0
        for chance, program, rule in programs(120, 10):
            lanes = chance.choice([1, 2, 3, 3])
            rules = Rules(program, rule, counted=True)
            table = rules.least(lanes)
            sets = Counted(program, lanes, rule=rule, limit=20000)
            self.assertEqual(dict(sets.table()), {scene: sorted(arrivals) for scene, arrivals in table.items()})
            self.assertEqual(sets.scenes(), sorted(table))
            self.assertIs(sets.can_end(), () in table[rules.first(lanes)])
            self.assertEqual(sets.rounds(), [scene for scene in sorted(table) if not table[scene]])
            rounds += len(sets.rounds())
        self.assertGreater(rounds, 50)

    def test_what_machines_of_just_so_many_lanes_come_to(self):
        ends = 0
        for chance, program, rule in programs(60, 9):
            for lanes in (1, 2, 3, 8):
                try:
                    table = dict(Counted(program, lanes, rule=rule, limit=20000).table())
                except TooMany:
                    self.assertEqual(lanes, 8)
                    continue
                for _ in range(2):
                    datas = [some_data(chance, program.size, 8) for _ in range(lanes)]
                    for scene, arrival in arrivals_seen(Machine(program, datas, rule=rule), counted):
                        self.assertIn(scene, table, (program.rows, rule))
                        if arrival is not None:
                            ends += 1
                            self.assertIn(arrival, table[scene], (program.rows, rule))
        self.assertGreater(ends, 500)

    def test_uncounted_they_are_among_those_of_sets(self):
        for _, program, rule in programs(60):
            sets = set(Sets(program, rule=rule).scenes())
            for lanes in (1, 2, 4):
                scenes = Counted(program, lanes, rule=rule, limit=20000).scenes()
                self.assertLessEqual({uncounted(scene) for scene in scenes}, sets)

    def test_enough_lanes_show_all_of_sets(self):
        for _, program, rule in programs(40, 7):
            scenes = Sets(program, rule=rule).scenes()
            if len(scenes) < 30:
                left = set(scenes)
                for lanes in range(1, 7):
                    left -= {uncounted(scene) for scene in Counted(program, lanes, rule=rule, limit=20000).scenes()}
                self.assertEqual(left, set())


class TestTables(unittest.TestCase):
    def check(self, value, expected=False, lanes=2):
        self.assertIs(is_counted_table(SMALL, lanes, "told", value), expected)

    def test_tables(self):
        self.check(TABLE, True)
        self.check(TABLE[::-1], True)
        self.check(TABLE[1:])
        for place in range(4):
            self.check([*TABLE[:place], *TABLE[place + 1:]])
            self.check(with_place(TABLE, place, (TABLE[place][0], [])))
        self.check(TABLE, False, 1)
        self.check(TABLE, False, 3)
        self.check([*TABLE, TABLE[0]])

    def test_tables_of_several_numbers_of_lanes(self):
        one, two, three = [Counted(SMALL, lanes).table() for lanes in (1, 2, 3)]
        self.check([*one, *two], True, 1)
        self.check([*two, *one], True, 2)
        self.check([*two, *one], False, 3)
        self.check([*one, *two, *three], True, 3)
        self.check([*two, *three[1:]], True, 2)
        self.check([*two, *three[:2]], False, 2)
        ten = [((0, 2, ((0,),) * 10, False), [()])]
        tens = [((1, 2, ((0,),) * many + ((1,),) * (10 - many), False), [()]) for many in range(11)]
        self.check([*two, *ten, *tens], True, 2)
        self.check([*two, *ten, *tens[:10]], False, 2)

    def test_other_values(self):
        for value in (*STRANGE, tuple(TABLE), dict.fromkeys(scene for scene, _ in TABLE), "table", 1, True, []):
            self.check(value)
        for entry in (*STRANGE, list(TABLE[0]), TABLE[0][:1], (*TABLE[0], 0), TABLE[0][0], "", 1, ()):
            self.check(with_place(TABLE, 0, entry))
            self.check([*TABLE, entry])
        for scene in NO_COUNTED:
            self.check([*TABLE, (scene, [()])])
        for arrivals in (*STRANGE, (), ((),), "", {}, 1, True):
            self.check(with_place(TABLE, 0, (FIRST, arrivals)))
        for crowd in (*STRANGE, [], ((1,), (0,)), ((True,),), ((0,), Everything()), ((2,),), (0,), ((0, 0),), "", 0):
            self.check(with_place(TABLE, 0, (FIRST, [(), crowd])))
        self.check(with_place(TABLE, 0, (FIRST, [(), ((0,), (0,)), ONE, ((0,),) * 9])), True)

    def test_tables_of_counted(self):
        for chance, program, rule in programs(80, 9):
            lanes = chance.choice([1, 2, 3])
            table = Counted(program, lanes, rule=rule, limit=20000).table()
            self.assertIs(is_counted_table(program, lanes, rule, table), True)
            place = chance.randrange(len(table))
            scene, arrivals = table[place]
            self.assertIs(is_counted_table(program, lanes, rule, table[:place] + table[place + 1:]), False)
            if arrivals:
                less = with_place(table, place, (scene, arrivals[1:]))
                self.assertIs(is_counted_table(program, lanes, rule, less), False)
            more = dict(Counted(program, 2, rule=rule, limit=20000).table()) | dict(table)
            self.assertIs(is_counted_table(program, lanes, rule, list(more.items())), True)


class TestFewest(unittest.TestCase):
    def test_example(self):
        self.assertEqual(fewest_lanes(EXAMPLE, 2, ZERO), (1, [Data()]))
        self.assertEqual(fewest_lanes(EXAMPLE, 4, ONE), (1, [Data(1)]))
        many, datas = fewest_lanes(EXAMPLE, 5, BOTH)
        self.assertEqual([many, sorted(len(data) for data in datas)], [2, [0, 1]])
        self.assertIsNone(fewest_lanes(EXAMPLE, 2, ONE))
        many, datas = fewest_that_stand(STUCK)
        self.assertEqual([many, sorted(len(data) for data in datas)], [2, [0, 1]])
        self.assertIsNone(fewest_that_stand(EXAMPLE))

    def test_as_many_lanes_as_classes(self):
        kinds = WIDE.classes()
        for many in (1, 2, 5):
            crowd = tuple(kinds[:many])
            found, datas = fewest_lanes(WIDE, 2, crowd, limit=20000)
            self.assertEqual([found, is_view(WIDE, 2, crowd, datas)], [many, True])

    def test_just_eight_lanes_and_more(self):
        for levels in (1, 2, 3):
            program, row = fellows(levels)
            crowd = views(program)[row][0]
            found, datas = fewest_lanes(program, row, crowd, limit=20000)
            self.assertEqual([found, is_view(program, row, crowd, datas)], [2 ** levels, True])
        program, row = fellows(4)
        crowd = views(program)[row][0]
        self.assertIsNone(fewest_lanes(program, row, crowd, limit=20000))
        datas = lanes_for(program, row, crowd)
        self.assertEqual([len(datas), is_view(program, row, crowd, datas)], [16, True])

    def test_lanes_that_are_not_in_the_crowd(self):
        for crowd in views(FELLOWS)[LAST]:
            found, datas = fewest_lanes(FELLOWS, LAST, crowd)
            self.assertEqual([found, len(datas), is_view(FELLOWS, LAST, crowd, datas)], [4, 4, True])
        rows = [("take", "x"), ("if", "x", 1, 4, 5), ("take", "x"), ("meet", "a"), ("go", 5), ("end",)]
        self.assertEqual(fewest_that_stand(Program(rows))[0], 2)
        # Those at the meeting have to be two.
        rows = [("take", "x"), ("if", "x", 1, 6, 7), ("take", "x"), ("same", "x", "x"), ("if", "x", 1, 7, 7),
                ("meet", "a"), ("go", 7), ("end",)]
        found, datas = fewest_that_stand(Program(rows))
        self.assertEqual([found, is_stand(Program(rows), datas)], [3, True])

    def test_lanes_that_have_to_leave(self):
        for way, value in ((9, 0), (9, 1), (10, 0), (10, 1), (11, 0), (11, 1)):
            program = leavers(way, value)
            for crowd in views(program)[8]:
                found, datas = fewest_lanes(program, 8, crowd)
                self.assertEqual([found, is_view(program, 8, crowd, datas)], [1 + len(crowd), True])

    def test_any_value_for_the_crowd(self):
        for crowd in NO_CROWDS:
            self.assertIsNone(fewest_lanes(EXAMPLE, 5, crowd))

    def test_tables_that_are_needed(self):
        program = Program([("take", "x"), ("take", "x"), ("group", "a", None)])
        self.assertEqual([size(Counted(program, lanes)) for lanes in (1, 2, 3)], [10, 14, 18])
        self.assertEqual(size(Sets(program)), 14)
        self.assertEqual(fewest_lanes(program, 2, BOTH, limit=14)[0], 2)
        error_of(self, TooMany, lambda: fewest_lanes(program, 2, ZERO, limit=13))
        program = FELLOWS
        limit = size(Counted(program, 4, limit=20000))
        self.assertGreater(limit, size(Sets(program)))
        crowd = views(program)[LAST][0]
        self.assertEqual(fewest_lanes(program, LAST, crowd, limit=limit)[0], 4)
        less = limit - 1
        self.assertEqual(error_of(self, TooMany, lambda: fewest_lanes(program, LAST, crowd, limit=less)), less)
        # None is needed for what Sets shows not to be there, or what is no crowd.
        self.assertIsNone(fewest_lanes(program, LAST, ((1, 0),), limit=limit - 1))
        self.assertIsNone(fewest_lanes(program, LAST, "crowd", limit=limit - 1))
        self.assertIsNone(fewest_that_stand(program, limit=limit - 1))
        self.assertEqual(fewest_lanes(program, 1, ((0, 0),), limit=limit - 1)[0], 1)

    def test_tables_of_fewer_lanes_are_needed_too(self):
        program = Program([("take", "x"), ("group", "a", None), ("meet", "b")], values=3)
        crowd = ((0,), (1,), (2,))
        sizes = [size(Counted(program, lanes)) for lanes in (1, 2, 3)]
        self.assertEqual([sizes, size(Sets(program))], [[14, 26, 42], 30])
        self.assertEqual(error_of(self, TooMany, lambda: fewest_lanes(program, 1, crowd, limit=41)), 41)
        self.assertEqual(fewest_lanes(program, 1, crowd, limit=42)[0], 3)
        self.assertEqual(fewest_lanes(program, 1, crowd[:2], limit=30)[0], 2)

    def test_tables_that_are_needed_by_any_programs(self):
        found = {"many": 0, "none": 0, "shown": 0}
        for chance, program, rule in [*programs(40, 8), *leaving_programs(40)]:
            sets = Sets(program, rule=rule, limit=20000)
            sizes = [size(sets), *[size(Counted(program, lanes, rule=rule, limit=20000)) for lanes in (1, 2, 3)]]
            questions = [(row, crowd) for row, crowds in views(program, rule=rule, limit=20000).items() for crowd in crowds]
            for row, crowd in [*chance.sample(questions, min(len(questions), 3)), (None, None)]:
                def ask(limit):
                    if row is None:
                        return fewest_that_stand(program, rule=rule, limit=limit)
                    return fewest_lanes(program, row, crowd, rule=rule, limit=limit)

                shown = ask(20000)
                for limit in {size + more for size in sizes for more in (-1, 0)}:
                    # Tables of 1, 2 and so on lanes are needed, until one shows it.
                    needed = sizes[:1] if shown is None else sizes[:1 + shown[0]]
                    if shown is not None and shown[0] > 3 and max(needed) <= limit:
                        continue
                    if max(needed) > limit:
                        found["many"] += 1
                        self.assertEqual(error_of(self, TooMany, lambda: ask(limit)), limit)
                    else:
                        found["none" if shown is None else "shown"] += 1
                        self.assertEqual(ask(limit) and ask(limit)[0], shown and shown[0])
        self.assertGreater(min(found.values()), 50, found)

    def test_tables_have_no_more_than_is_reckoned(self):
        near = 0
        for _, program, rule in [*programs(40, 8), *leaving_programs(40)]:
            sketch = Sets(program, rule=rule, limit=20000).sketch
            for lanes in (1, 2, 3, 4):
                many = size(Counted(program, lanes, rule=rule, limit=20000))
                reckoned = most_counted(sketch, lanes)
                self.assertLessEqual(many, reckoned, (program.rows, rule, lanes))
                near += reckoned <= 2 * many
        self.assertGreater(near, 200)

    def test_lanes_that_were_found_first_are_not_the_fewest(self):
        program = Program([("take", "x"), ("if", "x", 2, 7, 7), ("take", "x"), ("same", "x", "x"), ("if", "x", 0, 7, 7),
                           ("group", "see", None), ("set", "x", 0), ("all", "x", 2, "x"), ("meet", "all"),
                           ("if", "x", 1, 3, 10)], values=3)
        crowd = ((0,), (2,))
        self.assertEqual(len(lanes_for(program, 7, crowd)), 3)
        number, datas = fewest_lanes(program, 7, crowd)
        self.assertEqual([number, is_view(program, 7, crowd, datas)], [2, True])
        for rows in ([("take", "x"), ("if", "x", 0, 3, 6), ("same", "x", "x"), ("if", "x", 0, 5, 5), ("copy", "x", "x"),
                      ("meet", "all"), ("if", "x", 1, 7, 7)],
                     [("take", "x"), ("take", "x"), ("if", "x", 0, 4, 7), ("take", "x"), ("if", "x", 2, 7, 1),
                      ("if", "x", 0, 8, 8), ("if", "x", 2, 8, 8), ("meet", "all")]):
            program = Program(rows, values=3)
            self.assertEqual(len(lanes_that_stand(program)), 3)
            number, datas = fewest_that_stand(program)
            self.assertEqual([number, is_stand(program, datas)], [2, True])

    def test_too_many_steps_and_values(self):
        datas = fewest_lanes(EXAMPLE, 5, BOTH)
        with mock.patch.object(showings, "MOST_STEPS", 6):
            self.assertEqual(fewest_lanes(EXAMPLE, 5, BOTH), datas)
        with mock.patch.object(showings, "MOST_STEPS", 5):
            self.assertEqual(error_of(self, TooMany, lambda: fewest_lanes(EXAMPLE, 5, BOTH)), 40)
        with mock.patch.object(showings, "MOST_STEPS", 2):
            self.assertEqual(error_of(self, TooMany, lambda: fewest_that_stand(STUCK)), 40)
        with mock.patch.object(showings, "MOST_VALUES", 0):
            self.assertEqual(error_of(self, TooMany, lambda: fewest_that_stand(STUCK)), 40)

    def test_what_is_told_shows_it(self):
        found = set()
        for chance, program, rule in programs(80, 10):
            for row, crowds in views(program, rule=rule).items():
                for crowd in chance.sample(crowds, min(len(crowds), 3)):
                    many, datas = fewest_lanes(program, row, crowd, rule=rule, limit=20000)
                    self.assertEqual(len(datas), many)
                    self.assertIn((row, crowd), watched(program, datas, rule)[0], (program.rows, rule))
                    self.assertIs(is_view(program, row, crowd, datas, rule=rule), True)
                    found.add(many)
            told = fewest_that_stand(program, rule=rule, limit=20000)
            self.assertIs(told is not None, can_stand_in_sets(program, rule=rule))
            if told is not None:
                self.assertEqual(len(told[1]), told[0])
                self.assertIs(is_stand(program, told[1], rule=rule), True)
        self.assertTrue({1, 2, 3} <= found)

    def test_fewer_lanes_cannot(self):
        for _, program, rule in programs(40, 8):
            values = [Data(*digits) for digits in itertools.product(range(program.size), repeat=3)]
            seen, stands = set(), False
            for datas in [[one] for one in values] + [list(pair) for pair in itertools.combinations(values, 2)]:
                rows, stood = watched(program, datas, rule, 30)
                for row, crowd in rows:
                    seen.add((row, crowd, len(datas)))
                stands = stands or stood
            for row, crowds in views(program, rule=rule).items():
                for crowd in crowds:
                    many = fewest_lanes(program, row, crowd, rule=rule, limit=20000)[0]
                    self.assertTrue(many <= 1 or (row, crowd, 1) not in seen)
                    self.assertTrue(many <= 2 or (row, crowd, 2) not in seen)
            if stands:
                self.assertLessEqual(fewest_that_stand(program, rule=rule, limit=20000)[0], 2)


class TestTime(unittest.TestCase):
    def test_any_programs_of_24_rows(self):
        for chance in chances(8):
            program = forward_program(chance, 24, chance.choice([0, 0.2]), (("x", "y"), 3))
            for limit in (4000, 20000):
                for lanes in (1, 2, 8):
                    try:
                        table = Counted(program, lanes, limit=limit).table()
                        self.assertIs(is_counted_table(program, lanes, "told", table), True)
                    except TooMany as error:
                        self.assertEqual(error.value, limit)
                try:
                    told = views(program, limit=limit)
                    for row in told:
                        for crowd in chance.sample(told[row], min(len(told[row]), 1)):
                            fewest_lanes(program, row, crowd, limit=limit)
                except TooMany as error:
                    self.assertEqual(error.value, limit)


if __name__ == "__main__":
    unittest.main()
