"""[2], [3] and [27]: pieces."""

import unittest

from partedlanes.errors import BadPaper, BadProgram, BadRule
from partedlanes.pieces import is_piece, joined_pieces, pieces_of, touched_pieces, unkept
from partedlanes.programs import Program
from partedlanes.roads import joins_of
from partedlanes.sets import Sets
from partedlanes.tables import is_table
from tests.helpers import STRANGE, Everything, Hostile, error_of, refused
from tests.literal_scenes import Rules, many_pairs
from tests.test_roads import NO_PROGRAMS, NO_RULES
from tests.test_sets import BOTH, EXAMPLE, NO_SCENES, ONE, RULES, SMALL, ZERO, programs
from tests.test_tables import some_crowd

# Branches that rejoin at rows 4, 7 and the end.
WAYS = Program([("take", "x"), ("if", "x", 1, 3, 4), ("take", "y"), ("group", "a", None), ("take", "x"),
                ("if", "y", 1, 7, 7), ("meet", "b"), ("if", "x", 0, 9, 10), ("any", "x", 1, "y"), ("end",)],
               registers=("x", "y"))
NO_LISTS = (*STRANGE, (), {}, "pieces", "", 1, True, ((), ()))


def with_entry(entries, place, entry):
    return [*entries[:place], entry, *entries[place + 1:]]


def without(entries, place):
    return [*entries[:place], *entries[place + 1:]]


def dicts_of(piece):
    """What a piece tells and assumes, as dicts of collections that cannot be changed."""
    return [{scene: frozenset(arrivals) for scene, arrivals in part} for part in piece]


def is_right(program, rule, piece):
    """Whether all that point 21 asks of the scenes of told is so; the piece is built as pieces are."""
    told, assumed = dicts_of(piece)
    table = {scene: dict.fromkeys(arrivals, 0) for scene, arrivals in [*told.items(), *assumed.items()]}
    rules = Rules(program, rule)
    return all(what in (table if kind == "leads" else table[scene])
               for scene in told for kind, what, _ in rules.asks(scene, table))


def first_unkept(pieces):
    """The words of point 27 once more."""
    for number, (told, assumed) in enumerate(pieces):
        for scene, arrivals in [*assumed, *told]:
            tellers = [dict(others)[scene] for others, _ in pieces if scene in dict(others)]
            if not tellers or not set(tellers[0]) <= set(arrivals):
                return (number, scene)
    return None


def some_pieces(many):
    """Some programs and rules with the pieces of their Sets."""
    for chance, program, rule in programs(many):
        yield chance, program, rule, pieces_of(Sets(program, rule=rule, limit=20000))


class TestExceptions(unittest.TestCase):
    def functions(self):
        return (is_piece, unkept, joined_pieces,
                lambda program, rule, value: touched_pieces(program, None, rule, value))

    def test_wrong_programs_and_rules(self):
        for function in self.functions():
            for program in NO_PROGRAMS:
                refused(self, BadProgram, program, lambda: function(program, None, None))
            for rule in NO_RULES:
                refused(self, BadRule, rule, lambda: function(SMALL, rule, None))

    def test_wrong_other_programs(self):
        other_ones = (Program([("take", "y"), ("end",)], registers=("y",)), Program(SMALL.rows, values=3),
                      Program(SMALL.rows, registers=("x", "y")), Program([*SMALL.rows, ("end",)]), Program([("end",)]))
        for other in (*NO_PROGRAMS, *other_ones):
            for rule in RULES:
                refused(self, BadProgram, other, lambda: touched_pieces(SMALL, other, rule, None))
        for rule in NO_RULES:
            refused(self, BadRule, rule, lambda: touched_pieces(SMALL, None, rule, None))

    def test_no_lists_of_pieces(self):
        pieces = pieces_of(Sets(EXAMPLE))
        wrong = [*NO_LISTS, tuple(pieces), [None], [[]], [()], [([],)], [([], [], [])], [[[], []]], [((), ())],
                 [Hostile()], [Everything()], *[[*pieces, entry] for entry in (None, (), list(pieces[0]), pieces)],
                 [*pieces, ([pieces[0][0][0]], [])]]
        for value in wrong:
            for function in (unkept, joined_pieces):
                refused(self, BadPaper, value, lambda: function(EXAMPLE, "told", value))
            refused(self, BadPaper, value, lambda: touched_pieces(EXAMPLE, EXAMPLE, "told", value))
            self.assertIs(is_piece(EXAMPLE, "told", value), False)

    def test_pieces_of_another_program(self):
        pieces = pieces_of(Sets(EXAMPLE))
        other = EXAMPLE.with_row(3, ("take", "x"))
        refused(self, BadPaper, pieces, lambda: unkept(other, "told", pieces))
        refused(self, BadPaper, pieces, lambda: touched_pieces(other, EXAMPLE, "told", pieces))
        self.assertEqual(touched_pieces(EXAMPLE, other, "told", pieces), [0, 1])

    def test_names_of_arguments(self):
        pieces = pieces_of(sets=Sets(EXAMPLE, rule="first"))
        self.assertIs(is_piece(program=EXAMPLE, rule="first", value=pieces[0]), True)
        self.assertIsNone(unkept(program=EXAMPLE, rule="first", pieces=pieces))
        self.assertEqual(joined_pieces(program=EXAMPLE, rule="first", pieces=pieces), Sets(EXAMPLE).table())
        self.assertEqual(touched_pieces(program=EXAMPLE, other=EXAMPLE, rule="first", pieces=pieces), [])


class TestPiecesOf(unittest.TestCase):
    def test_no_branch(self):
        self.assertEqual(pieces_of(Sets(SMALL)), [(Sets(SMALL).table(), [])])

    def test_branches_that_rejoin_at_one_row(self):
        sets = Sets(EXAMPLE)
        pieces = pieces_of(sets)
        self.assertEqual([{scene[1] for scene, _ in told} for told, _ in pieces], [{5}, {6}])
        self.assertEqual(pieces[0][1], [])
        # The arms of the branch are what the scene that parts asks for.
        self.assertEqual([scene for scene, _ in pieces[1][1]], [(2, 5, ZERO, True), (4, 5, ONE, True)])
        self.assertEqual(pieces[1][1], [(scene, sets.arrivals(scene)) for scene, _ in pieces[1][1]])

    def test_branches_that_rejoin_at_many_rows(self):
        for rule, joins in (("told", [{4}, {7}, {10}]), ("first", [{3}, {7}, {9}, {10}])):
            pieces = pieces_of(Sets(WAYS, rule=rule))
            self.assertEqual([{scene[1] for scene, _ in told} for told, _ in pieces], joins)
            self.assertEqual(pieces[0][1], [])
            self.assertEqual({scene[1] for scene, _ in pieces[-1][1]}, set().union(*joins[:-1]))

    def test_the_second_arm_behind_each_arrival(self):
        # Lanes of the first arm end or do not, so lanes are outside of the second one or not.
        rows = [("take", "x"), ("if", "x", 1, 6, 7), ("take", "x"), ("if", "x", 1, 5, 5), ("go", 7), ("end",),
                ("group", "a", None), ("group", "b", None)]
        for row, outside in ((rows[3], {True, False}), (("go", 7), {True}), (("end",), {False})):
            rows[3] = row
            assumed = pieces_of(Sets(Program(rows)))[-1][1]
            self.assertEqual({scene for scene, _ in assumed if scene[0] == 6}, {(6, 7, ONE, out) for out in outside})

    def test_beside_the_words(self):
        for _, program, rule, pieces in some_pieces(100):
            sets, rules = Sets(program, rule=rule), Rules(program, rule)
            table = {scene: dict.fromkeys(arrivals, 0) for scene, arrivals in sets.table()}
            joins = sorted({scene[1] for scene in table})
            expected = []
            for join in joins:
                told = [scene for scene in sorted(table) if scene[1] == join]
                asked = {what for scene in told for kind, what, _ in rules.asks(scene, table) if kind == "leads"}
                assumed = sorted(scene for scene in asked if scene[1] != join)
                expected.append(tuple([(scene, sets.arrivals(scene)) for scene in part] for part in (told, assumed)))
            self.assertEqual(pieces, expected)

    def test_they_are_pieces_that_keep_one_another(self):
        for _, program, rule, pieces in some_pieces(100):
            for piece in pieces:
                self.assertIs(is_piece(program, rule, piece), True)
            self.assertIsNone(unkept(program, rule, pieces))
            self.assertEqual(joined_pieces(program, rule, pieces), Sets(program, rule=rule).table())

    def test_lists_are_new(self):
        sets = Sets(WAYS)
        pieces = pieces_of(sets)
        pieces[0][0][0][1].clear()
        pieces[2][1].clear()
        pieces.pop()
        self.assertEqual(pieces_of(sets), pieces_of(Sets(WAYS)))


class TestIsPiece(unittest.TestCase):
    def test_nothing_told(self):
        self.assertIs(is_piece(SMALL, "told", ([], [])), True)
        self.assertIs(is_piece(SMALL, "told", ([], Sets(SMALL).table())), True)

    def test_a_whole_table_and_one_without_its_first_scene(self):
        table = Sets(WAYS).table()
        self.assertIs(is_piece(WAYS, "told", (table, [])), True)
        self.assertIs(is_piece(WAYS, "told", (table[::-1], [])), True)
        self.assertIs(is_piece(WAYS, "told", (table[1:], [])), True)
        self.assertIs(is_table(WAYS, "told", table[1:]), False)

    def test_values_that_are_none(self):
        table = Sets(SMALL).table()
        for value in (*STRANGE, [table, []], (table,), (table, [], []), (tuple(table), []), (table, ()), (table, None),
                      (None, []), ({}, {}), "", 1, True, (), [], table, (Hostile(), Hostile())):
            self.assertIs(is_piece(SMALL, "told", value), False)

    def test_entries_that_are_none(self):
        table = Sets(SMALL).table()
        entry = table[1]
        wrong = [*STRANGE, list(entry), entry[:1], (*entry, 0), entry[0], (), (entry[0], ()), (entry[0], None),
                 (entry[0], [[]]), (entry[0], [((2,),)]), (entry[0], [((True,),)]), (entry[0], [ONE[0]]),
                 (entry[0], {(): 0}), (entry[0], [Hostile()]), *[(scene, [()]) for scene in NO_SCENES]]
        for bent in wrong:
            self.assertIs(is_piece(SMALL, "told", (with_entry(table, 1, bent), [])), False)
            self.assertIs(is_piece(SMALL, "told", ([*table, bent], [])), False)
            self.assertIs(is_piece(SMALL, "told", (table, [bent])), False)

    def test_scenes_that_stand_twice(self):
        for told, assumed in pieces_of(Sets(WAYS)):
            for entry in told:
                self.assertIs(is_piece(WAYS, "told", ([*told, entry], assumed)), False)
                self.assertIs(is_piece(WAYS, "told", (told, [*assumed, entry])), False)
                self.assertIs(is_piece(WAYS, "told", (told, [(entry[0], []), *assumed])), False)
            for entry in assumed:
                self.assertIs(is_piece(WAYS, "told", (told, [*assumed, entry])), False)
                self.assertIs(is_piece(WAYS, "told", ([*told, entry], assumed)), False)

    def test_what_is_left_out(self):
        for _, program, rule, pieces in some_pieces(60):
            for told, assumed in pieces:
                for place in range(len(assumed)):
                    self.assertIs(is_piece(program, rule, (told, without(assumed, place))), False)
                for place, (scene, arrivals) in enumerate(told):
                    for left in (with_entry(told, place, (scene, arrivals[1:])), with_entry(told, place, (scene, []))):
                        expected = is_right(program, rule, (left, assumed))
                        self.assertIs(is_piece(program, rule, (left, assumed)), expected)
                        self.assertIs(expected, arrivals == [])
                    moved = (without(told, place), [*assumed, told[place]])
                    self.assertIs(is_piece(program, rule, moved), True)

    def test_more_arrivals(self):
        found = {True: 0, False: 0}
        for chance, program, rule, pieces in some_pieces(60):
            for told, assumed in pieces:
                place, crowd = chance.randrange(len(told)), some_crowd(chance, program)
                scene, arrivals = told[place]
                bent = (with_entry(told, place, (scene, [*arrivals, crowd])), assumed)
                expected = is_right(program, rule, bent)
                found[expected] += 1
                self.assertIs(is_piece(program, rule, bent), expected)
                if assumed:
                    place = chance.randrange(len(assumed))
                    scene, arrivals = assumed[place]
                    for some in ([*arrivals, crowd], [], arrivals[:1]):
                        bent = (told, with_entry(assumed, place, (scene, some)))
                        expected = is_right(program, rule, bent)
                        found[expected] += 1
                        self.assertIs(is_piece(program, rule, bent), expected)
        self.assertGreater(min(found.values()), 30, found)

    def test_an_arrival_told_twice(self):
        told, assumed = pieces_of(Sets(EXAMPLE))[1]
        twice = [(scene, arrivals * 2) for scene, arrivals in told]
        self.assertIs(is_piece(EXAMPLE, "told", (twice, assumed)), True)
        joined = joined_pieces(EXAMPLE, "told", [(twice, []), *pieces_of(Sets(EXAMPLE))][1:])
        self.assertEqual(joined, Sets(EXAMPLE).table())

    def test_what_is_asked_is_not_changed(self):
        pieces = pieces_of(Sets(WAYS))
        kept = [tuple([(scene, list(arrivals)) for scene, arrivals in part] for part in piece) for piece in pieces]
        is_piece(WAYS, "told", pieces[0])
        unkept(WAYS, "told", pieces)
        joined_pieces(WAYS, "told", pieces)
        touched_pieces(WAYS, WAYS, "told", pieces)
        self.assertEqual(pieces, kept)


class TestJoined(unittest.TestCase):
    def test_no_pieces(self):
        self.assertIsNone(unkept(SMALL, "told", []))
        refused(self, BadPaper, pieces := [], lambda: joined_pieces(SMALL, "told", pieces))
        self.assertEqual(touched_pieces(SMALL, SMALL, "told", []), [])

    def test_the_first_scene_is_not_told(self):
        pieces = [(Sets(SMALL).table()[1:], [])]
        self.assertIsNone(unkept(SMALL, "told", pieces))
        refused(self, BadPaper, pieces, lambda: joined_pieces(SMALL, "told", pieces))

    def test_any_order_and_doubled(self):
        for chance, program, rule, pieces in some_pieces(40):
            table = Sets(program, rule=rule).table()
            some = [*pieces, *pieces[:2]]
            chance.shuffle(some)
            self.assertIsNone(unkept(program, rule, some))
            self.assertEqual(joined_pieces(program, rule, some), table)

    def test_a_piece_left_out(self):
        for _, program, rule, pieces in some_pieces(60):
            for place in range(len(pieces)):
                left = without(pieces, place)
                self.assertEqual(unkept(program, rule, left), first_unkept(left))
                if first_unkept(left) is None and any((0, program.end) == scene[:2] for told, _ in left for scene, _ in told):
                    joined_pieces(program, rule, left)
                else:
                    refused(self, BadPaper, left, lambda: joined_pieces(program, rule, left))

    def test_what_is_not_kept(self):
        pieces = pieces_of(Sets(EXAMPLE))
        (told, none), (first, assumed) = pieces
        self.assertEqual(unkept(EXAMPLE, "told", [(first, assumed)]), (0, assumed[0][0]))
        self.assertEqual(unkept(EXAMPLE, "told", [(first, assumed[::-1])]), (0, assumed[-1][0]))
        self.assertEqual(unkept(EXAMPLE, "told", [(told[1:], none), (first, assumed)]), (1, told[0][0]))
        # A wider assumption is kept, too: nothing else is told.
        wide = [(scene, [*arrivals, BOTH]) for scene, arrivals in first]
        self.assertIs(is_piece(EXAMPLE, "told", (wide, assumed)), True)
        self.assertIsNone(unkept(EXAMPLE, "told", [pieces[0], pieces[1], (wide, assumed)]))
        self.assertEqual(joined_pieces(EXAMPLE, "told", [*pieces, (wide, assumed)]), Sets(EXAMPLE).table())
        # The first one that tells a scene counts; the others assume what they tell themselves.
        self.assertEqual(unkept(EXAMPLE, "told", [(wide, assumed), *pieces]), (2, first[0][0]))
        more = [(wide, assumed), *pieces]
        refused(self, BadPaper, more, lambda: joined_pieces(EXAMPLE, "told", more))

    def test_assumptions_stand_ahead_of_what_is_told(self):
        pieces = pieces_of(Sets(EXAMPLE))
        first, assumed = pieces[1]
        wide = [(scene, [*arrivals, BOTH]) for scene, arrivals in first]
        self.assertEqual(unkept(EXAMPLE, "told", [(wide, assumed), (first, assumed)]), (0, assumed[0][0]))
        self.assertEqual(unkept(EXAMPLE, "told", [(wide, assumed), (first, assumed), pieces[0]]), (1, first[0][0]))

    def test_an_arrival_less_in_an_assumption(self):
        many = 0
        for chance, program, rule, pieces in some_pieces(200):
            for number, (told, assumed) in enumerate(pieces):
                for place, (scene, arrivals) in enumerate(assumed):
                    if len(arrivals) > 1:
                        # What is told hangs on fewer arrivals then, so it stays right.
                        bent = with_entry(pieces, number, (told, with_entry(assumed, place, (scene, arrivals[1:]))))
                        many += 1
                        self.assertEqual(unkept(program, rule, bent), (number, scene))
                        refused(self, BadPaper, bent, lambda: joined_pieces(program, rule, bent))
        self.assertGreater(many, 10)

    def test_joined_ones_are_tables(self):
        found = {True: 0, False: 0}
        for chance, program, rule, pieces in some_pieces(60):
            for _ in range(4):
                some = [chance.choice(pieces) for _ in range(chance.randint(1, len(pieces) + 2))]
                number = chance.randrange(len(some))
                told, assumed = some[number]
                place = chance.randrange(len(told))
                scene, arrivals = told[place]
                bent = (with_entry(told, place, (scene, [*arrivals, some_crowd(chance, program)])), assumed)
                if is_right(program, rule, bent):
                    some[number] = bent
                self.assertEqual(unkept(program, rule, some), first_unkept(some))
                start = (0, program.end, (program.classes()[0],), False)
                right = first_unkept(some) is None and any(start in dict(told) for told, _ in some)
                found[right] += 1
                if right:
                    table = joined_pieces(program, rule, some)
                    self.assertIs(is_table(program, rule, table), True)
                    expected = {}
                    for told, _ in some:
                        for scene, arrivals in told:
                            expected.setdefault(scene, sorted(set(arrivals)))
                    self.assertEqual(table, sorted(expected.items()))
                else:
                    refused(self, BadPaper, some, lambda: joined_pieces(program, rule, some))
        self.assertGreater(min(found.values()), 30, found)

    def test_arms_with_many_arrivals(self):
        sets = Sets(many_pairs(), limit=20000)
        self.assertEqual(joined_pieces(many_pairs(), "told", pieces_of(sets)), sets.table())


class TestTouched(unittest.TestCase):
    def rows_told(self, pieces):
        return [{scene[0] for scene, _ in told} for told, _ in pieces]

    def test_one_row_otherwise(self):
        pieces = pieces_of(Sets(WAYS))
        rows = self.rows_told(pieces)
        for index, row in ((2, ("take", "x")), (3, ("group", "b", None)), (3, ("group", "a", 0)), (6, ("meet", "c")),
                           (8, ("any", "x", 0, "y")), (8, ("all", "x", 1, "y")), (0, ("set", "x", 1)), (9, ("go", 4))):
            other = WAYS.with_row(index, row)
            expected = [number for number, some in enumerate(rows) if index in some]
            self.assertTrue(expected)
            self.assertEqual(touched_pieces(WAYS, other, "told", pieces), expected)

    def test_another_branch(self):
        pieces = pieces_of(Sets(WAYS))
        rows = self.rows_told(pieces)
        for row in (("if", "y", 0, 7, 7), ("if", "x", 1, 7, 7), ("if", "y", 1, 8, 7), ("take", "x"), ("go", 7)):
            expected = [number for number, some in enumerate(rows) if 5 in some]
            self.assertEqual(touched_pieces(WAYS, WAYS.with_row(5, row), "told", pieces), expected)

    def test_another_join(self):
        for rule, touched in (("told", True), ("first", False)):
            pieces = pieces_of(Sets(WAYS, rule=rule))
            rows = self.rows_told(pieces)
            other = WAYS.with_joins({5: 10})
            expected = [number for number, some in enumerate(rows) if touched and 5 in some]
            self.assertEqual(touched_pieces(WAYS, other, rule, pieces), expected)

    def test_another_join_by_first_alone(self):
        # Row 3 leaves for the end in the other program, so the branch of row 1 rejoins only there.
        program = Program([("take", "x"), ("if", "x", 1, 3, 5), ("go", 4), ("take", "x"), ("group", "a", None),
                           ("take", "x"), ("if", "x", 1, 9, 9), ("take", "x"), ("group", "b", None), ("meet", "c")])
        other = program.with_row(3, ("end",))
        self.assertNotEqual(joins_of(program, "first")[1], joins_of(other, "first")[1])
        for rule in RULES:
            pieces = pieces_of(Sets(program, rule=rule))
            rows = self.rows_told(pieces)
            touched = {3} if rule == "told" else {1, 3}
            expected = [number for number, some in enumerate(rows) if some & touched]
            self.assertEqual(touched_pieces(program, other, rule, pieces), expected)
            self.assertLess(len(expected), len(pieces))

    def test_the_others_are_pieces_for_the_other_program(self):
        found = 0
        for chance, program, rule, pieces in some_pieces(120):
            index = chance.randrange(program.end)
            row = chance.choice([("take", "x"), ("go", chance.randint(0, program.end)), ("end",), ("meet", "a"),
                                 ("if", "x", 1, chance.randint(0, program.end), chance.randint(0, program.end))])
            other = program.with_row(index, row)
            joins = (joins_of(program, rule), joins_of(other, rule))
            changed = {index for index in range(program.end)
                       if (program[index][:4], program[index][0]) != (other[index][:4], other[index][0])
                       or joins[0].get(index) != joins[1].get(index)}
            touched = touched_pieces(program, other, rule, pieces)
            rows = self.rows_told(pieces)
            self.assertEqual(touched, [number for number, some in enumerate(rows) if some & changed])
            for number, piece in enumerate(pieces):
                if number not in touched:
                    found += 1
                    self.assertIs(is_piece(other, rule, piece), True)
        self.assertGreater(found, 40)

    def test_numbers_of_pieces_that_stand_in_any_order(self):
        pieces = pieces_of(Sets(WAYS))
        other = WAYS.with_row(3, ("group", "b", None))
        self.assertEqual(touched_pieces(WAYS, other, "told", [pieces[1], *pieces]), [1, 3])
        self.assertEqual(touched_pieces(WAYS, other, "told", [*pieces[::-1], pieces[0]]), [0, 2, 3])
        self.assertEqual(touched_pieces(WAYS, WAYS, "told", pieces), [])


if __name__ == "__main__":
    unittest.main()
