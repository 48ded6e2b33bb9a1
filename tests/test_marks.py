"""[2], [3] and [23]: marks."""

import itertools
import unittest

from partedlanes.errors import BadJoins, BadNumber, BadProgram, NotPlain, TooMany
from partedlanes.marks import is_good, least_marks, marked, verdicts, views_unlike
from partedlanes.programs import Program
from partedlanes.promises import keeps
from partedlanes.roads import unnested
from partedlanes.stands import stands
from partedlanes.views import views
from tests.helpers import NO_INTEGERS, STRANGE, Everything, error_of, refused
from tests.literal import chances, some_program
from tests.literal_scenes import forward_program
from tests.test_pairs import CROSSED, EXAMPLE, RULES
from tests.test_roads import NO_PROGRAMS
from tests.test_sets import programs

# Two branches, one behind the other; each group operation sees all lanes only if the branch ahead of it is marked.
TWO = Program([("take", "x"), ("if", "x", 1, 3, 4), ("go", 4), ("go", 4), ("group", "a", None), ("if", "x", 1, 7, 8),
               ("go", 8), ("go", 8), ("group", "b", None)])

# A branch within another one, whose join lanes come to only by way of that of the inner one.
WITHIN = Program([("take", "x"), ("if", "x", 1, 6, 7), ("take", "x"), ("if", "x", 1, 5, 6), ("go", 6), ("go", 6),
                  ("go", 7), ("group", "a", None)])
STEERED = Program([("take", "x"), ("go", 2), ("same", "x", "x"), ("any", "x", 1, "x")])
BRANCH = ("if", "x", 1, 0, 0)

NO_CHOICES = (*STRANGE, [], [1], [1, 5], "", "1", 1, True, {}, {1: 4}, (0,), (2,), (9,), (-1,), (1, 1), (5, 1),
              (1, 5, 5), (1, 5, 6), (True,), (1.0,), ("1",), (None,), ((1,),), (Everything(),), (1, Everything()),
              ([],))


def plain(many, most=9):
    """Some plain programs."""
    for chance in chances(many):
        program = forward_program(chance, most, chance.choice([0, 0.2]))
        rows = [("group", "see", None) if row[0] in ("any", "all", "same") else row for row in program.rows]
        yield chance, Program(rows, registers=program.registers, values=program.size)
        yield chance, some_program(chance, most)


def subsets(branches):
    """All choices, those with fewer branches ahead, then ascending."""
    return [choice for many in range(len(branches) + 1) for choice in itertools.combinations(branches, many)]


def good(program):
    """Whether a program is good, by the words of point 23."""
    return not unnested(program, "told") and keeps(program, "told") and stands(program, "told") is None


class TestMarked(unittest.TestCase):
    def test_choices(self):
        joins = {(): (9, 9), (1,): (4, 9), (5,): (9, 8), (1, 5): (4, 8)}
        for choice, told in joins.items():
            program = marked(TWO, choice)
            self.assertEqual((program.rows[1][4], program.rows[5][4]), told)
            self.assertEqual(program, TWO.with_joins({1: told[0], 5: told[1]}))
        self.assertEqual(marked(TWO, (1, 5)), TWO)
        self.assertEqual(marked(STEERED, ()), STEERED)
        wide = Program([("take", "y"), ("if", "y", 2, 3, 2), ("end",)], registers=("x", "y"), values=3)
        self.assertEqual(marked(wide, ()), wide.with_joins({1: 3}))

    def test_what_is_no_choice(self):
        for choice in NO_CHOICES:
            refused(self, BadJoins, choice, lambda: marked(TWO, choice))
        refused(self, BadJoins, (0,), lambda: marked(STEERED, (0,)))

    def test_wrong_programs(self):
        for program in NO_PROGRAMS:
            refused(self, BadProgram, program, lambda: marked(program, None))

    def test_names_of_arguments(self):
        self.assertEqual(marked(program=TWO, choice=(1, 5)), TWO)
        self.assertIs(is_good(program=TWO), True)
        self.assertEqual(least_marks(program=TWO), [(1, 5)])
        self.assertEqual(list(verdicts(program=TWO)), list(RULES))
        self.assertEqual(views_unlike(program=TWO, limit=100), [])
        self.assertRaises(TypeError, lambda: views_unlike(TWO, 100))


class TestGood(unittest.TestCase):
    def test_wrong_programs(self):
        for function in (is_good, least_marks, verdicts):
            for program in NO_PROGRAMS:
                refused(self, BadProgram, program, lambda: function(program))
            self.assertEqual(error_of(self, NotPlain, lambda: function(STEERED)), 2)
            crossed = CROSSED.with_row(2, ("all", "x", 1, "x"))
            self.assertEqual(error_of(self, NotPlain, lambda: function(crossed)), 2)

    def test_good(self):
        self.assertIs(is_good(TWO), True)
        self.assertIs(is_good(marked(TWO, (1,))), False)
        self.assertIs(is_good(Program([("end",)])), True)

    def test_joins_that_do_not_nest(self):
        self.assertIs(is_good(CROSSED), False)
        self.assertIs(is_good(CROSSED.with_joins({0: 4})), True)

    def test_a_promise_that_is_broken(self):
        self.assertIs(is_good(marked(TWO, (5,))), False)
        self.assertIs(is_good(marked(TWO, ())), False)

    def test_a_meeting_that_stands(self):
        rows = [("take", "x"), ("if", "x", 1, 3, 4), ("go", 4), ("go", 4), ("meet", "all")]
        self.assertIs(is_good(Program(rows)), True)
        rows[1] = ("if", "x", 1, 3, 5)
        self.assertIs(keeps(Program(rows), "told"), True)
        self.assertIs(is_good(Program(rows)), False)

    def test_by_the_words_of_the_document(self):
        found = {True: 0, False: 0}
        for _, program in plain(80):
            expected = good(program)
            found[expected] += 1
            self.assertIs(is_good(program), expected, program.rows)
        self.assertGreater(min(found.values()), 30)


class TestLeast(unittest.TestCase):
    def test_no_branch(self):
        self.assertEqual(least_marks(Program([("take", "x"), ("group", "a", None)])), [()])
        self.assertEqual(least_marks(Program([("group", "a", 0)])), [])
        self.assertEqual(least_marks(Program([("meet", "a")])), [()])

    def test_one_branch(self):
        rows = [("take", "x"), ("if", "x", 1, 3, 4), ("go", 4), ("go", 4), ("group", "a", None)]
        self.assertEqual(least_marks(Program(rows)), [(1,)])
        self.assertEqual(least_marks(Program(rows[:4])), [()])
        rows[1] = ("if", "x", 1, 3, 5)
        self.assertEqual(least_marks(Program(rows)), [])

    def test_two_branches(self):
        self.assertEqual(least_marks(TWO), [(1, 5)])
        self.assertEqual(least_marks(TWO.with_row(8, ("set", "x", 1))), [(1,)])
        self.assertEqual(least_marks(TWO.with_row(0, ("set", "x", 1)).with_row(4, ("take", "x"))), [(5,)])
        self.assertEqual(least_marks(TWO.with_row(4, ("end",)).with_row(8, ("end",))), [()])

    def test_a_branch_within_another_one(self):
        self.assertEqual(least_marks(WITHIN), [(1, 3)])
        # Without the outer one the inner one is of no use; without the inner one joins do not nest.
        self.assertEqual([is_good(marked(WITHIN, choice)) for choice in ((), (1,), (3,))], [False, False, False])
        self.assertEqual(unnested(marked(WITHIN, (1,)), "told"), [(1, 3)])

    def test_six_branches_and_seven(self):
        part = [("take", "x"), ("if", "x", 1, 0, 0), ("set", "x", 0)]
        for many in (6, 7):
            rows = []
            for place in range(many):
                rows += [part[0], ("if", "x", 1, 3 * place + 3, 3 * place + 3), part[2]]
            rows.append(("group", "a", None))
            if many == 6:
                self.assertEqual(least_marks(Program(rows)), [tuple(range(1, 18, 3))])
            else:
                self.assertEqual(error_of(self, TooMany, lambda: least_marks(Program(rows))), 6)
                self.assertIs(is_good(Program(rows)), True)
                error_of(self, NotPlain, lambda: least_marks(Program([*rows, ("same", "x", "x")])))

    def test_there_is_never_more_than_one(self):
        # What two good choices have in common is good: where lanes part for good in it, they do in one of both.
        sizes = set()
        for _, program in plain(400, 12):
            if len(program.branches()) <= 5:
                told = least_marks(program)
                self.assertLessEqual(len(told), 1)
                sizes |= {len(choice) for choice in told}
        self.assertLessEqual({0, 1}, sizes)

    def test_by_the_words_of_the_document(self):
        for _, program in plain(60):
            if len(program.branches()) <= 4:
                choices = [choice for choice in subsets(program.branches()) if good(marked(program, choice))]
                least = [one for one in choices
                         if not any(set(other) < set(one) for other in choices)]
                self.assertEqual(least_marks(program), least, program.rows)

    def test_lists_are_new(self):
        least_marks(TWO).append(1)
        self.assertEqual(least_marks(TWO), [(1, 5)])


class TestVerdicts(unittest.TestCase):
    def test_all_rules_in_order(self):
        self.assertEqual(list(verdicts(EXAMPLE).items()),
                         [("told", (True, True)), ("first", (True, True)), ("least", (True, True)),
                          ("greatest", (True, True))])

    def test_joins_that_do_not_nest(self):
        told = verdicts(CROSSED)
        self.assertEqual([list(told), told["told"], told["first"]], [list(RULES), None, (True, True)])

    def test_by_the_words_of_the_document(self):
        found = set()
        for _, program in plain(60):
            told = verdicts(program)
            self.assertEqual(list(told), list(RULES))
            for rule in RULES:
                if rule in ("told", "first") and unnested(program, rule):
                    self.assertIsNone(told[rule])
                else:
                    self.assertEqual(told[rule], (keeps(program, rule), stands(program, rule) is None))
                    self.assertEqual([part.__class__ for part in told[rule]], [bool, bool])
                found.add(told[rule])
        self.assertEqual(len(found), 5)


class TestUnlike(unittest.TestCase):
    def test_exceptions(self):
        for program in NO_PROGRAMS:
            refused(self, BadProgram, program, lambda: views_unlike(program, limit=None))
        for limit in (0, 20001, *NO_INTEGERS):
            refused(self, BadNumber, limit, lambda: views_unlike(EXAMPLE, limit=limit))
        self.assertEqual(error_of(self, TooMany, lambda: views_unlike(EXAMPLE, limit=25)), 25)
        self.assertEqual(views_unlike(EXAMPLE, limit=26), [])

    def test_rows(self):
        rows = [("take", "x"), ("if", "x", 1, 3, 6), ("go", 4), ("go", 4), ("group", "a", None), ("meet", "all")]
        self.assertEqual(views_unlike(Program(rows)), [4, 5])
        rows[1] = ("if", "x", 1, 3, 4)
        self.assertEqual(views_unlike(Program(rows)), [])
        rows[4] = ("same", "x", "x")
        rows[1] = ("if", "x", 1, 3, 6)
        self.assertEqual(views_unlike(Program(rows)), [4, 5])

    def test_beside_views(self):
        some = 0
        for _, program, _ in programs(150):
            told, first = views(program, rule="told"), views(program, rule="first")
            expected = [row for row in told if told[row] != first[row]]
            some += len(expected)
            self.assertEqual(views_unlike(program), expected)
        self.assertGreater(some, 5)


class TestTime(unittest.TestCase):
    def test_programs_of_24_rows(self):
        for chance in chances(3):
            program = forward_program(chance, 24, 0.1, (("x", "y"), 3))
            rows = [("take", "y") if row[0] in ("any", "all", "same") else row for row in program.rows]
            for index in [index for index, row in enumerate(rows) if row[0] == "if"][6:]:
                rows[index] = ("group", "a", None)
            program = Program(rows, registers=("x", "y"), values=3)
            for choice in least_marks(program):
                self.assertIs(is_good(marked(program, choice)), True)


if __name__ == "__main__":
    unittest.main()
