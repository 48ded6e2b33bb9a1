"""[3] and [21]: tables of scenes, whoever wrote them."""

import unittest

from partedlanes.errors import BadProgram, BadRule
from partedlanes.programs import Program
from partedlanes.sets import Sets
from partedlanes.tables import is_table
from tests.helpers import STRANGE, Everything, refused
from tests.literal_scenes import Rules, many_pairs
from tests.test_roads import NO_PROGRAMS, NO_RULES
from tests.test_sets import BOTH, EXAMPLE, NO_SCENES, ONE, RULES, SMALL, ZERO, programs

TABLE = [((0, 2, ZERO, False), [()]), ((1, 2, ZERO, False), [()]), ((1, 2, BOTH, False), [()]),
         ((1, 2, ONE, False), [()])]
FIRST = TABLE[0][0]
LOOP = Program([("take", "x"), ("if", "x", 1, 3, 4), ("go", 2), ("group", "a", None), ("go", 0)])


def with_place(table, place, entry):
    """A table with another entry."""
    return [*table[:place], entry, *table[place + 1:]]


def some_crowd(chance, program):
    kinds = program.classes()
    return tuple(sorted(chance.sample(kinds, chance.randint(1, len(kinds)))))


class TestArguments(unittest.TestCase):
    def test_wrong_programs_and_rules(self):
        for program in NO_PROGRAMS:
            refused(self, BadProgram, program, lambda: is_table(program, None, TABLE))
        for rule in NO_RULES:
            refused(self, BadRule, rule, lambda: is_table(SMALL, rule, TABLE))

    def test_names_of_arguments(self):
        self.assertIs(is_table(program=SMALL, rule="told", value=TABLE), True)
        self.assertIs(is_table(value=None, rule="first", program=SMALL), False)


class TestValues(unittest.TestCase):
    def test_no_lists(self):
        by_scene = {scene: arrivals for scene, arrivals in TABLE}
        for value in (*STRANGE, tuple(TABLE), by_scene, "table", 1, True, []):
            self.assertIs(is_table(SMALL, "told", value), False)

    def test_no_entries(self):
        for entry in (*STRANGE, list(TABLE[1]), TABLE[1][:1], (*TABLE[1], 0), TABLE[1][0], "entry", 1, (), []):
            self.assertIs(is_table(SMALL, "told", with_place(TABLE, 1, entry)), False)
            self.assertIs(is_table(SMALL, "told", [*TABLE, entry]), False)

    def test_no_scenes(self):
        for scene in NO_SCENES:
            self.assertIs(is_table(SMALL, "told", with_place(TABLE, 0, (scene, [()]))), False)
            self.assertIs(is_table(SMALL, "told", [*TABLE, (scene, [()])]), False)

    def test_no_arrivals(self):
        arrivals = [ZERO, ((0,), (1,)), ()]
        self.assertIs(is_table(SMALL, "told", with_place(TABLE, 0, (FIRST, arrivals))), True)
        wrong = (*STRANGE, (), ((),), {}, {(): 1}, "", 1, True)
        for value in wrong:
            self.assertIs(is_table(SMALL, "told", with_place(TABLE, 1, (TABLE[1][0], value))), False)
        for crowd in (*STRANGE, [], [(0,)], ((True,),), ((0.0,),), ((2,),), ((0, 0),), (0,), ((1,), (0,)), ((0,), (0,)),
                      ((0,), Everything()), "", 0, False):
            for place in range(4):
                self.assertIs(is_table(SMALL, "told", with_place(TABLE, place, (TABLE[place][0], [(), crowd]))), False)

    def test_numbers_that_look_alike(self):
        for scene in ((False, 2, ZERO, False), (0, 2, ZERO, 0), (0, 2.0, ZERO, False), (0, 2, ((False,),), False)):
            self.assertIs(is_table(SMALL, "told", with_place(TABLE, 0, (scene, [()]))), False)
        for scene in ((True, 2, ONE, False), (1, 2, ONE, 0), (1, 2, ((True,),), False)):
            self.assertIs(is_table(SMALL, "told", with_place(TABLE, 3, (scene, [()]))), False)

    def test_rows_that_there_are_not(self):
        for row, join in ((2, 2), (2, 1), (3, 2), (-1, 2), (0, 3), (0, -1), (1, 1)):
            self.assertIs(is_table(SMALL, "told", [*TABLE, ((row, join, ZERO, False), [()])]), False)

    def test_what_is_asked_is_not_changed(self):
        value = [(scene, list(arrivals)) for scene, arrivals in TABLE]
        is_table(SMALL, "told", value)
        self.assertEqual(value, TABLE)


class TestTables(unittest.TestCase):
    def test_any_order(self):
        self.assertIs(is_table(SMALL, "told", TABLE), True)
        self.assertIs(is_table(SMALL, "first", TABLE[::-1]), True)

    def test_a_scene_twice(self):
        self.assertIs(is_table(SMALL, "told", [*TABLE, TABLE[1]]), False)
        self.assertIs(is_table(SMALL, "told", [*TABLE, (TABLE[1][0], [(), ZERO])]), False)

    def test_without_the_first_scene(self):
        self.assertIs(is_table(SMALL, "told", TABLE[1:]), False)
        other = ((0, 2, ONE, False), [()])
        self.assertIs(is_table(SMALL, "told", [other, *TABLE[1:]]), False)
        self.assertIs(is_table(SMALL, "told", [other, *TABLE]), True)

    def test_without_a_scene_or_an_arrival(self):
        for place in range(1, 4):
            self.assertIs(is_table(SMALL, "told", [*TABLE[:place], *TABLE[place + 1:]]), False)
        for place in range(4):
            self.assertIs(is_table(SMALL, "told", with_place(TABLE, place, (TABLE[place][0], []))), False)

    def test_arrivals_of_a_later_scene_are_those_of_the_first_one(self):
        more = [(scene, [*arrivals, ZERO]) for scene, arrivals in TABLE]
        self.assertIs(is_table(SMALL, "told", more), True)
        for place in range(1, 4):
            self.assertIs(is_table(SMALL, "told", with_place(TABLE, place, more[place])), False)
        self.assertIs(is_table(SMALL, "told", with_place(TABLE, 0, more[0])), True)

    def test_arrivals_that_are_told_twice(self):
        self.assertIs(is_table(SMALL, "told", with_place(TABLE, 2, (TABLE[2][0], [(), ()]))), True)

    def test_a_second_arm_that_nobody_comes_to(self):
        table = Sets(LOOP).table()
        self.assertIs(is_table(LOOP, "told", table), True)
        # If the first arm could come to its end, the second one would have to be told.
        scene = (2, 4, ZERO, True)
        place = [entry[0] for entry in table].index(scene)
        self.assertEqual(table[place], (scene, []))
        for arrival in ((), ZERO):
            self.assertIs(is_table(LOOP, "told", with_place(table, place, (scene, [arrival]))), False)

    def test_the_rest_is_asked_for_with_its_arrivals(self):
        table = Sets(EXAMPLE).table()
        self.assertIs(is_table(EXAMPLE, "told", table), True)
        for place, (scene, arrivals) in enumerate(table):
            self.assertIs(is_table(EXAMPLE, "told", [*table[:place], *table[place + 1:]]), False)
            self.assertIs(is_table(EXAMPLE, "told", with_place(table, place, (scene, arrivals[1:]))), False)

    def test_the_end_as_the_join_of_an_entry(self):
        # Both arms come to the end; a table may tell that lanes come to it that have not ended.
        program = Program([("take", "x"), ("if", "x", 1, 3, 4), ("end",), ("end",)])
        table = dict(Sets(program).table())
        table[(2, 4, ZERO, True)] = [(), ZERO]
        self.check_beside_the_words(program, table, False)
        # So the second arm may have lanes outside, too, and what both come to together is what the branch comes to.
        table[(3, 4, ONE, True)] = [()]
        self.check_beside_the_words(program, table, False)
        for scene in table:
            if scene[0] < 2:
                table[scene] = [(), ZERO]
        self.check_beside_the_words(program, table, True)

    def check_beside_the_words(self, program, table, expected):
        self.assertIs(is_table(program, "told", list(table.items())), expected)
        self.assertIs(Rules(program, "told").is_table(table), expected)


class TestAny(unittest.TestCase):
    def test_tables_of_sets(self):
        for _, program, rule in programs(100):
            self.assertIs(is_table(program, rule, Sets(program, rule=rule).table()), True)

    def test_a_program_whose_arms_have_many_arrivals(self):
        table = Sets(many_pairs(), limit=20000).table()
        self.assertIs(is_table(many_pairs(), "told", table), True)
        self.assertIs(is_table(many_pairs(), "told", table[:-1]), False)

    def test_with_something_left_out(self):
        for chance, program, rule in programs(100):
            table = Sets(program, rule=rule).table()
            place = chance.randrange(len(table))
            self.assertIs(is_table(program, rule, [*table[:place], *table[place + 1:]]), False)
            scene, arrivals = table[place]
            if arrivals:
                left = [arrival for arrival in arrivals if arrival != chance.choice(arrivals)]
                if len(left) < len(arrivals):
                    self.assertIs(is_table(program, rule, with_place(table, place, (scene, left))), False)

    def test_greater_ones(self):
        found = {True: 0, False: 0}
        for chance, program, rule in programs(60, 9):
            rules = Rules(program, rule)
            table = {scene: dict.fromkeys(arrivals) for scene, arrivals in Sets(program, rule=rule).table()}
            for _ in range(6):
                row, join = chance.randrange(program.end), chance.randint(0, program.end)
                scene = (row, join, some_crowd(chance, program), chance.random() < 0.5)
                if row != join:
                    table.setdefault(scene, {})
                if chance.random() < 0.5:
                    table[chance.choice(list(table))][some_crowd(chance, program)] = None
                if chance.random() < 0.7:
                    self.close(rules, table)
                value = [(scene, list(arrivals)) for scene, arrivals in table.items()]
                expected = rules.is_table(table)
                found[expected] += 1
                self.assertIs(is_table(program, rule, value), expected, (program.rows, rule, value))
        self.assertGreater(min(found.values()), 100)

    def close(self, rules, table):
        """Adds all that a table has to tell besides."""
        size = -1
        while size != sum(1 + len(arrivals) for arrivals in table.values()):
            size = sum(1 + len(arrivals) for arrivals in table.values())
            for scene in list(table):
                numbered = {one: dict.fromkeys(arrivals, 0) for one, arrivals in table.items()}
                for kind, what, _ in list(rules.asks(scene, numbered)):
                    (table if kind == "leads" else table[scene]).setdefault(what, {})

    def test_tables_of_other_programs_and_rules(self):
        for chance, program, rule in programs(60):
            table = dict(Sets(program, rule=rule).table())
            for other_rule in RULES:
                index = chance.randrange(program.end)
                other = program.with_row(index, chance.choice([("go", program.end), ("take", "x"), ("end",)]))
                value = list(table.items())
                self.assertIs(is_table(other, other_rule, value), Rules(other, other_rule).is_table(table))


if __name__ == "__main__":
    unittest.main()
