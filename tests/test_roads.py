"""[3], [6] and [7]: first common rows, joins, and whether they nest."""

import unittest

from partedlanes.errors import BadNumber, BadProgram, BadRule
from partedlanes.programs import Program
from partedlanes.roads import first_common, joins_of, unnested
from tests.helpers import NO_INTEGERS, STRANGE, refused
from tests.literal import chances, some_program

NO_PROGRAMS = (*STRANGE, [("end",)], (("end",),), "program", 1, True)
NO_RULES = (*STRANGE, "least", "greatest", "", "Told", "told ", b"told", ("told",), ["first"], 0, True)


def branch(to, join):
    """A branch that hangs on x."""
    return ("if", "x", 1, to, join)


class TestFirstCommon(unittest.TestCase):
    def test_ways_that_meet(self):
        program = Program([branch(3, 0), ("take", "x"), ("go", 4), ("set", "x", 0), ("group", "a", None)])
        self.assertEqual(first_common(program, 0), 4)

    def test_one_way_is_the_row_where_they_meet(self):
        self.assertEqual(first_common(Program([branch(2, 0), ("take", "x"), ("end",), ("end",)]), 0), 2)
        self.assertEqual(first_common(Program([branch(1, 0), ("take", "x")]), 0), 1)
        self.assertEqual(first_common(Program([branch(2, 0), ("go", 3), ("end",), ("go", 2)]), 0), 2)

    def test_ways_that_meet_only_at_the_end(self):
        self.assertEqual(first_common(Program([branch(2, 0), ("end",), ("end",)]), 0), 3)
        self.assertEqual(first_common(Program([branch(1, 0)]), 0), 1)
        self.assertEqual(first_common(Program([branch(2, 0), ("go", 3), ("take", "x")]), 0), 3)

    def test_ways_that_meet_at_an_end_row(self):
        self.assertEqual(first_common(Program([branch(2, 0), ("go", 3), ("take", "x"), ("end",), ("take", "x")]), 0), 3)

    def test_no_road_comes_to_the_end(self):
        self.assertEqual(first_common(Program([branch(2, 0), ("go", 0), ("go", 0)]), 0), 3)
        self.assertEqual(first_common(Program([branch(0, 0), ("go", 0)]), 0), 2)

    def test_only_one_way_comes_to_the_end(self):
        rows = [branch(3, 0), ("take", "x"), ("go", 1), ("set", "x", 0), ("group", "a", None)]
        self.assertEqual(first_common(Program(rows), 0), 3)

    def test_a_lesser_number_than_the_branch(self):
        rows = [("go", 3), ("take", "x"), ("end",), branch(5, 0), ("go", 1), ("go", 1)]
        self.assertEqual(first_common(Program(rows), 3), 1)

    def test_a_loop(self):
        program = Program([("take", "x"), branch(3, 0), ("go", 0), ("end",)])
        self.assertEqual(first_common(program, 1), 3)
        back = Program([("take", "x"), branch(0, 0), ("group", "a", None)])
        self.assertEqual(first_common(back, 1), 2)

    def test_the_first_of_several(self):
        rows = [branch(3, 0), ("take", "x"), ("go", 5), ("go", 5), ("end",), ("go", 7), ("end",), ("go", 6)]
        self.assertEqual(first_common(Program(rows), 0), 5)

    def test_whatever_registers_have(self):
        # The value 1 never comes, but the road is there.
        rows = [("set", "x", 0), branch(4, 0), ("take", "x"), ("go", 5), ("end",), ("group", "a", None)]
        self.assertEqual(first_common(Program(rows), 1), 6)

    def test_wrong_arguments(self):
        program = Program([branch(1, 0), ("take", "x"), ("go", 0)])
        for other in NO_PROGRAMS:
            refused(self, BadProgram, other, lambda: first_common(other, None))
        for index in (1, 2, 3, -1, *NO_INTEGERS):
            refused(self, BadNumber, index, lambda: first_common(program, index))
        self.assertEqual(first_common(program=program, index=0), 3)

    def test_against_all_roads(self):
        for chance in chances(300):
            program = some_program(chance, 9)
            for index in program.branches():
                self.assertEqual(first_common(program, index), slow_first_common(program, index), program.rows)


class TestJoins(unittest.TestCase):
    def setUp(self):
        self.program = Program([branch(2, 3), ("take", "x"), branch(0, 1), ("end",)])

    def test_both_rules(self):
        self.assertEqual(joins_of(self.program, "told"), {0: 3, 2: 1})
        self.assertEqual(joins_of(self.program, "first"), {0: 2, 2: 3})
        self.assertEqual(joins_of(Program([("end",)]), "told"), {})
        self.assertEqual(joins_of(program=Program([("end",)]), rule="first"), {})

    def test_dicts_are_new(self):
        for rule in ("told", "first"):
            told = joins_of(self.program, rule)
            told.clear()
            self.assertEqual(len(joins_of(self.program, rule)), 2)

    def test_wrong_arguments(self):
        for function in (joins_of, unnested):
            for program in NO_PROGRAMS:
                refused(self, BadProgram, program, lambda: function(program, None))
            for rule in NO_RULES:
                refused(self, BadRule, rule, lambda: function(self.program, rule))


class TestNested(unittest.TestCase):
    def test_an_if_within_an_if(self):
        rows = [branch(5, 6), branch(4, 4), ("take", "x"), ("go", 4), ("go", 6), ("take", "x"), ("end",)]
        self.assertEqual(unnested(Program(rows), "told"), [])
        self.assertEqual(unnested(Program(rows), "first"), [])

    def test_one_that_rejoins_too_late(self):
        rows = [branch(5, 6), branch(4, 7), ("take", "x"), ("go", 4), ("go", 6), ("take", "x"), ("take", "x"), ("end",)]
        self.assertEqual(unnested(Program(rows), "told"), [(0, 1)])
        self.assertEqual(unnested(Program(rows), "first"), [])

    def test_a_join_at_the_end_within_another_one(self):
        rows = [branch(3, 3), branch(3, 4), ("take", "x"), ("end",)]
        self.assertEqual(unnested(Program(rows), "told"), [(0, 1)])

    def test_a_branch_whose_join_is_the_end_asks_for_nothing(self):
        rows = [branch(3, 4), branch(3, 4), ("take", "x"), ("end",)]
        self.assertEqual(unnested(Program(rows), "told"), [])

    def test_the_same_join_for_both(self):
        rows = [branch(3, 3), branch(3, 3), ("take", "x"), ("end",)]
        self.assertEqual(unnested(Program(rows), "told"), [])

    def test_a_road_that_comes_back_to_the_branch(self):
        # A branch nests with itself, as its join is passed at the join.
        rows = [("take", "x"), branch(3, 3), ("go", 0), ("end",)]
        self.assertEqual(unnested(Program(rows), "told"), [])
        rows = [branch(2, 3), branch(0, 3), ("go", 0), ("end",)]
        self.assertEqual(unnested(Program(rows), "told"), [])
        self.assertEqual(unnested(Program(rows), "first"), [])
        rows = [branch(2, 3), branch(0, 2), ("go", 0), ("end",)]
        self.assertEqual(unnested(Program(rows), "told"), [(1, 0)])

    def test_a_join_that_is_a_branch_ends_the_way(self):
        # The way from 1 ends at its join 3, so the branch there is not within it.
        rows = [("take", "x"), branch(3, 3), ("take", "x"), branch(0, 4), ("end",)]
        self.assertEqual(unnested(Program(rows), "told"), [])

    def test_several_pairs_ascending(self):
        rows = [branch(1, 3), branch(2, 4), branch(3, 5), branch(4, 5), branch(5, 6), ("end",)]
        self.assertEqual(unnested(Program(rows), "told"), [(0, 1), (0, 2), (1, 2), (1, 3), (2, 4), (3, 4)])

    def test_ways_that_are_one_part_nobody_but_count(self):
        # Roads go along both ways, whatever registers have.
        rows = [("set", "x", 0), branch(4, 5), branch(3, 6), ("go", 5), ("go", 5), ("end",)]
        self.assertEqual(unnested(Program(rows), "told"), [(1, 2)])

    def test_first_common_rows_nest_where_told_joins_do_not(self):
        # All roads from an inner branch to the end pass the outer first common row, so its own one comes no later.
        programs = [some_program(chance, 9) for chance in chances(300)]
        self.assertGreater(len([program for program in programs if unnested(program, "told")]), 10)
        for program in programs:
            self.assertEqual(unnested(program, "first"), [])

    def test_against_all_roads(self):
        for chance in chances(300):
            program = some_program(chance, 9)
            for rule in ("told", "first"):
                self.assertEqual(unnested(program, rule), slow_unnested(program, rule), program.rows)

    def test_lists_are_new(self):
        program = Program([branch(3, 3), branch(3, 4), ("take", "x"), ("end",)])
        told = unnested(program, "told")
        told.append(None)
        self.assertEqual(unnested(program, "told"), [(0, 1)])


def roads_from(program, starts, barred):
    """All that roads come to without coming to what is barred."""
    found = set()
    left = [row for row in starts if row != barred]
    while left:
        row = left.pop()
        if row not in found:
            found.add(row)
            left += [way for way in ([] if row == program.end else program.ways(row)) if way != barred]
    return found


def slow_first_common(program, index):
    """The one of the shared rows that comes first on a road to the end."""
    ways = program.ways(index)
    if program.end not in roads_from(program, ways, None):
        return program.end
    shared = [row for row in range(program.end) if program.end not in roads_from(program, ways, row)]
    roads = [[way] for way in ways]
    while roads:
        road = roads.pop(0)
        if road[-1] == program.end:
            return next((row for row in road if row in shared), program.end)
        roads += [[*road, way] for way in program.ways(road[-1]) if way not in road]


def slow_unnested(program, rule):
    """The pairs that the words of the document name."""
    joins = joins_of(program, rule)
    found = []
    for outer in joins:
        for inner in joins:
            join = joins[outer]
            if join != program.end and inner in roads_from(program, program.ways(outer), join):
                if join in roads_from(program, program.ways(inner), joins[inner]):
                    found.append((outer, inner))
    return sorted(found)


if __name__ == "__main__":
    unittest.main()
