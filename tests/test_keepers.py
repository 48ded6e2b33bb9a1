"""[2], [3] and [33]: keepers."""

import unittest
from unittest import mock

from partedlanes import graphs, trails
from partedlanes.errors import (BadEdits, BadJoins, BadKeeper, BadKind, BadNumber, BadProgram, BadRow, BadRule, Guarded,
                                NotNested, NothingToUndo, NotPlain, TooLarge, TooMany)
from partedlanes.keepers import Keeper, edits_kept, tried_edits
from partedlanes.pairs import Pairs
from partedlanes.papers import accepts, promise_paper, stands_paper
from partedlanes.programs import Program
from partedlanes.promises import broken_rows, keeps
from partedlanes.roads import unnested
from partedlanes.stands import stands
from tests.helpers import NO_INTEGERS, STRANGE, Everything, Hostile, error_of, refused
from tests.literal import chances
from tests.test_pairs import CROSSED, EXAMPLE, MEETINGS, RULES, plain_programs, slow
from tests.test_papers import LOOP, TURNS
from tests.test_roads import NO_PROGRAMS
from tests.test_stands import NO_RULES, some_programs

# Two group operations that strangers do together; one of these, and a meeting behind it.
TWICE = Program([("take", "x"), ("if", "x", 1, 4, 4), ("group", "a", None), ("group", "b", None), ("go", 0)])
STUCK = Program([("take", "x"), ("if", "x", 1, 3, 3), ("group", "a", None), ("take", "x"), ("if", "x", 1, 6, 6),
                 ("meet", "m"), ("go", 0)])
GOOD = ("row", 2, ("group", "c", None))
CROSSING = ("joins", {1: 2})
STEERS = ("row", 2, ("any", "x", 1, "x"))
BREAKS = ("row", 0, ("go", 4))
NO_ROW = ("row", 2, ("go", 9))


class Left(Exception):
    """Leaves a block."""


def refused_paper(test, program, rule, action):
    """The paper with which a program is refused, which is that of the meeting or of the least row."""
    paper = error_of(test, Guarded, action)
    test.assertIs(accepts(program, rule, paper), True)
    if stands(program, rule) is not None:
        test.assertEqual(paper, stands_paper(program, rule))
    else:
        test.assertEqual(paper, promise_paper(program, rule, broken_rows(program, rule)[0]))
    return paper


def is_good(program, rule):
    """Whether all promises are kept and nothing stands; no for programs that may not be asked."""
    if not program.is_plain() or (rule in ("told", "first") and unnested(program, rule)):
        return False
    return keeps(program, rule) and stands(program, rule) is None


def some_row(chance, program):
    """Any row of a program, or none."""
    word, value, end = chance.choice(program.registers), chance.randrange(program.size), program.end
    return chance.choice([
        ("take", word), ("set", word, value), ("go", chance.randint(0, end)), ("end",), ("meet", "m"), ("meet", "M"),
        ("if", word, value, chance.randint(0, end), chance.randint(0, end)), ("group", "g", None), ("go", end + 1),
        ("group", "g", chance.randrange(end)), ("any", word, value, word), None,
    ])


def some_edit(chance, program):
    """Any edit of a program, which may not be one that can be made."""
    if chance.random() < 0.3:
        index = chance.choice([*program.branches(), chance.randrange(program.end)])
        return ("joins", {index: chance.randint(0, program.end)})
    return ("row", chance.randrange(program.end), some_row(chance, program))


def made(program, edit):
    """The program to which an edit leads, None if it cannot be made."""
    try:
        return program.with_joins(edit[1]) if edit[0] == "joins" else program.with_row(*edit[1:])
    except (BadNumber, BadRow, BadJoins):
        return None


def good_programs(many):
    """Some programs and rules of which there are keepers."""
    for chance, program, rule in some_programs(many):
        if is_good(program, rule):
            yield chance, program, rule


class TestMade(unittest.TestCase):
    def test_exceptions_in_order(self):
        for program in NO_PROGRAMS:
            refused(self, BadProgram, program, lambda: Keeper(program, None))
        for rule in NO_RULES:
            refused(self, BadRule, rule, lambda: Keeper(LOOP, rule))
        steered = CROSSED.with_row(2, ("any", "x", 1, "x"))
        for rule in RULES:
            self.assertEqual(error_of(self, NotPlain, lambda: Keeper(steered, rule)), 2)
        self.assertEqual(error_of(self, NotNested, lambda: Keeper(CROSSED, "told")), (0, 1))
        self.assertEqual(Keeper(CROSSED, "first").now(), CROSSED)
        with mock.patch.object(graphs, "MOST_STATES", len(Pairs(LOOP, "told")) - 1):
            error_of(self, TooMany, lambda: Keeper(LOOP, "told"))

    def test_programs_that_are_kept(self):
        for rule in RULES:
            keeper = Keeper(EXAMPLE, rule)
            self.assertEqual([keeper.now(), len(keeper)], [EXAMPLE, 0])

    def test_a_meeting_that_stands(self):
        for rule in RULES:
            paper = refused_paper(self, MEETINGS, rule, lambda: Keeper(MEETINGS, rule))
            self.assertEqual([paper[0], paper[3]], ["stands", 2])

    def test_the_least_row_whose_promise_is_broken(self):
        paper = refused_paper(self, TWICE, "told", lambda: Keeper(TWICE, "told"))
        self.assertEqual(broken_rows(TWICE, "told"), [2, 3])
        self.assertEqual(paper[:2], ("broken", 2))
        other = TWICE.with_row(2, ("take", "x"))
        self.assertEqual(refused_paper(self, other, "told", lambda: Keeper(other, "told"))[:2], ("broken", 3))

    def test_a_meeting_ahead_of_a_promise(self):
        self.assertTrue(broken_rows(STUCK, "told"))
        self.assertEqual(refused_paper(self, STUCK, "told", lambda: Keeper(STUCK, "told"))[0], "stands")

    def test_any_programs(self):
        found = {"kept": 0, "stands": 0, "broken": 0}
        for _, program, rule in some_programs(200):
            if is_good(program, rule):
                found["kept"] += 1
                self.assertEqual(Keeper(program, rule).now(), program)
            else:
                found[refused_paper(self, program, rule, lambda: Keeper(program, rule))[0]] += 1
        self.assertGreater(min(found.values()), 10, found)

    def test_too_large_in_its_place(self):
        self.assertEqual(error_of(self, TooLarge, lambda: Keeper(slow(11), "told")), 60)
        self.assertEqual(error_of(self, Guarded, lambda: Keeper(slow(10), "told"))[:2], ("broken", 22))
        with mock.patch.object(trails, "MOST_VALUES", 0):
            for program in (LOOP, MEETINGS):
                self.assertEqual(error_of(self, TooLarge, lambda: Keeper(program, "told")), 0)

    def test_names_of_arguments(self):
        keeper = Keeper(rule="first", program=LOOP)
        keeper.put_row(row=("take", "x"), index=2)
        keeper.put_joins(joins={1: 2})
        self.assertEqual(keeper[1], ("if", "x", 1, 3, 2))
        self.assertEqual(tried_edits(edits=[], keeper=keeper, keep=False), keeper.now())
        self.assertEqual(edits_kept(edits=[], rule="first", program=LOOP), [])


class TestChanges(unittest.TestCase):
    def test_items(self):
        keeper = Keeper(EXAMPLE, "told")
        for index in range(6):
            self.assertEqual(keeper[index], EXAMPLE[index])
        for index in (*NO_INTEGERS, -1, 6, 10 ** 30):
            refused(self, BadNumber, index, lambda: keeper[index])
        self.assertRaises(TypeError, list, keeper)

    def test_rows(self):
        for by_item in (True, False):
            keeper = Keeper(EXAMPLE, "told")
            row = ("group", "other", None)
            if by_item:
                keeper[2] = row
            else:
                self.assertIsNone(keeper.put_row(2, row))
            self.assertEqual([keeper.now(), keeper[2], len(keeper)], [EXAMPLE.with_row(2, row), row, 1])

    def test_joins(self):
        keeper = Keeper(EXAMPLE, "first")
        joins = {1: 6}
        self.assertIsNone(keeper.put_joins(joins))
        joins[1] = 4
        self.assertEqual([keeper.now(), len(keeper)], [EXAMPLE.with_joins({1: 6}), 1])
        keeper.put_joins({})
        self.assertEqual([keeper.now(), len(keeper)], [EXAMPLE.with_joins({1: 6}), 2])

    def put(self, keeper, index, row):
        keeper[index] = row

    def test_what_cannot_be_made(self):
        keeper = Keeper(EXAMPLE, "told")
        for index in (*NO_INTEGERS, -1, 6, 10 ** 30):
            refused(self, BadNumber, index, lambda: keeper.put_row(index, None))
            refused(self, BadNumber, index, lambda: self.put(keeper, index, None))
        for row in (*STRANGE, (), ("take",), ["take", "x"], ("take", "y"), ("go", 7), ("set", "x", True), "end", 0):
            refused(self, BadRow, row, lambda: keeper.put_row(2, row))
            refused(self, BadRow, row, lambda: self.put(keeper, 2, row))
        for joins in (*STRANGE, [], (), {0: 5}, {1: 7}, {1: True}, {True: 5}, {1: None}, [(1, 5)], "joins", 0):
            refused(self, BadJoins, joins, lambda: keeper.put_joins(joins))
        self.assertEqual([keeper.now(), len(keeper)], [EXAMPLE, 0])

    def test_what_is_refused(self):
        keeper = Keeper(EXAMPLE, "told")
        keeper[2] = ("group", "b", None)
        now = keeper.now()
        self.assertEqual(error_of(self, NotPlain, lambda: keeper.put_row(*STEERS[1:])), 2)
        paper = refused_paper(self, now.with_row(2, ("meet", "m")), "told", lambda: keeper.put_row(2, ("meet", "m")))
        self.assertEqual(paper[0], "stands")
        paper = refused_paper(self, now.with_joins({1: 6}), "told", lambda: keeper.put_joins({1: 6}))
        self.assertEqual(paper[0], "stands")
        self.assertEqual([keeper.now(), len(keeper)], [now, 1])
        crossed = CROSSED.with_joins({0: 4})
        other = Keeper(crossed, "told")
        self.assertEqual(error_of(self, NotNested, lambda: other.put_joins({0: 3})), (0, 1))
        self.assertEqual(error_of(self, NotNested, lambda: self.put(other, 0, ("if", "x", 1, 3, 3))), (0, 1))
        self.assertEqual([other.now(), len(other)], [crossed, 0])
        with mock.patch.object(graphs, "MOST_STATES", 3):
            error_of(self, TooMany, lambda: keeper.put_row(2, ("take", "x")))
        with mock.patch.object(trails, "MOST_VALUES", 0):
            error_of(self, TooLarge, lambda: keeper.put_row(2, ("meet", "m")))
        self.assertEqual([keeper.now(), len(keeper)], [now, 1])

    def test_a_promise_that_would_break(self):
        keeper = Keeper(TWICE.with_row(2, ("take", "x")).with_row(3, ("take", "x")), "told")
        for index in (2, 3):
            row = ("group", "g", None)
            paper = refused_paper(self, keeper.now().with_row(index, row), "told", lambda: keeper.put_row(index, row))
            self.assertEqual(paper[:2], ("broken", index))
        self.assertEqual(len(keeper), 0)

    def test_undo(self):
        keeper = Keeper(EXAMPLE, "told")
        self.assertFalse(hasattr(error_from(self, keeper.undo), "value"))
        programs = [EXAMPLE]
        for number, row in enumerate([("take", "x"), ("take", "x"), ("group", "see", None), ("set", "x", 1)]):
            keeper[2] = row
            programs.append(keeper.now())
            self.assertEqual(len(keeper), number + 1)
        # A change to an equal program is one, too.
        self.assertEqual(programs[1], programs[2])
        for number in range(3, -1, -1):
            self.assertIsNone(keeper.undo())
            self.assertEqual([keeper.now(), len(keeper)], [programs[number], number])
        self.assertIsInstance(error_from(self, keeper.undo), NothingToUndo)
        self.assertEqual([keeper.now(), len(keeper)], [EXAMPLE, 0])

    def test_changes_behind_undo(self):
        keeper = Keeper(EXAMPLE, "told")
        keeper[2] = ("take", "x")
        keeper.undo()
        keeper[2] = ("set", "x", 0)
        self.assertEqual([len(keeper), keeper[2]], [1, ("set", "x", 0)])
        keeper.undo()
        self.assertEqual(keeper, Keeper(EXAMPLE, "told"))

    def test_papers(self):
        found = 0
        for _, program, rule in good_programs(80):
            papers = Keeper(program, rule).papers()
            self.assertEqual(papers, [stands_paper(program, rule),
                                      *[promise_paper(program, rule, row) for row in program.groups()]])
            self.assertEqual([paper[0] for paper in papers], ["goes", *["kept"] * len(program.groups())])
            for paper in papers:
                self.assertIs(accepts(program, rule, paper), True)
            found += len(papers) > 2
        self.assertGreater(found, 5)

    def test_papers_are_about_the_present_program_and_new(self):
        keeper = Keeper(TURNS, "told")
        keeper[3] = ("take", "x")
        self.assertEqual(len(keeper.papers()), 1)
        keeper.undo()
        papers = keeper.papers()
        papers[0][1].clear()
        papers[1][2].clear()
        papers.pop()
        self.assertEqual(keeper.papers(), Keeper(TURNS, "told").papers())

    def test_any_changes(self):
        found = {"made": 0, "refused": 0, "none": 0}
        for chance, program, rule in good_programs(60):
            keeper = Keeper(program, rule)
            known = [program]
            for _ in range(12):
                edit = some_edit(chance, known[-1])
                later = made(known[-1], edit)
                kind = "none" if later is None else "made" if is_good(later, rule) else "refused"
                found[kind] += 1
                action = (lambda: keeper.put_joins(edit[1])) if edit[0] == "joins" else (lambda: keeper.put_row(*edit[1:]))
                if kind == "made":
                    action()
                    known.append(later)
                elif kind == "refused" and later.is_plain() and not (
                        rule in ("told", "first") and unnested(later, rule)):
                    refused_paper(self, later, rule, action)
                else:
                    self.assertRaises((BadNumber, BadRow, BadJoins, NotPlain, NotNested), action)
                if chance.random() < 0.2 and len(known) > 1:
                    keeper.undo()
                    known.pop()
                self.assertEqual([keeper.now(), len(keeper)], [known[-1], len(known) - 1])
        self.assertGreater(min(found.values()), 50, found)


def error_from(test, action):
    with test.assertRaises(NothingToUndo) as caught:
        action()
    return caught.exception


class TestCopies(unittest.TestCase):
    def test_copies_go_on_by_themselves(self):
        keeper = Keeper(EXAMPLE, "told")
        keeper[2] = ("take", "x")
        copy = keeper.copy()
        self.assertTrue(copy == keeper and copy.rule == keeper.rule)
        copy[4] = ("take", "x")
        self.assertEqual([len(keeper), len(copy), keeper[4]], [1, 2, EXAMPLE[4]])
        keeper.undo()
        self.assertEqual([len(keeper), len(copy)], [0, 2])
        copy.undo()
        copy.undo()
        self.assertEqual(copy, keeper)
        self.assertRaises(NothingToUndo, copy.undo)

    def test_copies_of_each_rule(self):
        for rule in RULES:
            copy = Keeper(EXAMPLE, rule).copy()
            self.assertEqual([copy.now(), len(copy)], [EXAMPLE, 0])
            self.assertEqual(copy, Keeper(EXAMPLE, rule))
            refused_paper(self, EXAMPLE.with_row(3, ("meet", "m")), rule, lambda: copy.put_row(3, ("meet", "m")))

    def test_equality(self):
        keeper, other = Keeper(EXAMPLE, "told"), Keeper(Program(EXAMPLE.rows), "told")
        self.assertTrue(keeper == other and not keeper != other)
        keeper[2] = ("take", "x")
        self.assertNotEqual(keeper, other)
        other[2] = ("set", "x", 0)
        self.assertNotEqual(keeper, other)
        other[2] = ("take", "x")
        # The present programs are equal, but not all earlier ones.
        self.assertEqual(keeper.now(), other.now())
        self.assertNotEqual(keeper, other)
        other.undo()
        other.undo()
        other.put_row(2, ("take", "x"))
        self.assertEqual(keeper, other)
        self.assertNotEqual(Keeper(EXAMPLE, "told"), Keeper(EXAMPLE, "first"))
        for value in (None, EXAMPLE, "keeper", 0, (EXAMPLE, "told"), object()):
            self.assertFalse(keeper == value)
            self.assertTrue(keeper != value)


class TestTrials(unittest.TestCase):
    def test_kept(self):
        keeper = Keeper(EXAMPLE, "told")
        with keeper.trial() as work:
            self.assertTrue(work == keeper and work is not keeper and work.keep is True)
            work[2] = ("take", "x")
            work[4] = ("take", "x")
            self.assertEqual([len(keeper), keeper.now()], [0, EXAMPLE])
        self.assertEqual([len(keeper), keeper[2], keeper[4]], [2, ("take", "x"), ("take", "x")])
        keeper.undo()
        self.assertEqual([len(keeper), keeper[4], len(work)], [1, EXAMPLE[4], 2])
        work.undo()
        work.undo()
        self.assertEqual(len(keeper), 1)

    def test_not_kept(self):
        keeper = Keeper(EXAMPLE, "told")
        keeper[2] = ("take", "x")
        with keeper.trial() as work:
            work.undo()
            work.keep = None
        self.assertEqual([len(keeper), len(work)], [1, 0])
        for keep in (False, 0, True):
            with keeper.trial() as work:
                work[2] = ("set", "x", 0)
                work.keep = keep
            # Only None tells that nothing is kept.
            self.assertEqual(keeper[2], ("set", "x", 0))
            keeper.undo()

    def test_left_by_an_exception(self):
        keeper = Keeper(EXAMPLE, "told")
        with self.assertRaises(Left):
            with keeper.trial() as work:
                work[2] = ("take", "x")
                raise Left()
        with self.assertRaises(Guarded):
            with keeper.trial() as work:
                work[2] = ("take", "x")
                work[2] = ("meet", "m")
        self.assertEqual([len(keeper), keeper.now(), work[2]], [0, EXAMPLE, ("take", "x")])

    def test_one_within_another(self):
        for outer_keep in (True, None):
            for inner_keep in (True, None):
                keeper = Keeper(EXAMPLE, "told")
                with keeper.trial() as outer:
                    outer[2] = ("take", "x")
                    with outer.trial() as inner:
                        inner[4] = ("take", "x")
                        inner.keep = inner_keep
                    self.assertEqual(len(outer), 2 if inner_keep else 1)
                    self.assertEqual(len(keeper), 0)
                    outer.keep = outer_keep
                self.assertEqual(len(keeper), 0 if outer_keep is None else 2 if inner_keep else 1)

    def test_the_copy_counts_whatever_was_done_besides(self):
        keeper = Keeper(EXAMPLE, "told")
        with keeper.trial() as work:
            work[2] = ("take", "x")
            keeper[4] = ("take", "x")
        self.assertEqual([len(keeper), keeper[2], keeper[4]], [1, ("take", "x"), EXAMPLE[4]])


class TestTriedEdits(unittest.TestCase):
    def test_no_edit(self):
        keeper = Keeper(EXAMPLE, "told")
        for edits in ([], ()):
            for keep in (True, False):
                self.assertEqual(tried_edits(keeper, edits, keep=keep), EXAMPLE)
        self.assertEqual(len(keeper), 0)

    def test_kept_and_not_kept(self):
        for keep in (True, False):
            for kind in (list, tuple):
                keeper = Keeper(EXAMPLE, "first")
                edits = kind([GOOD, ("joins", {1: 6}), ("row", 4, ("take", "x"))])
                told = tried_edits(keeper, edits, keep=keep)
                expected = EXAMPLE.with_row(2, GOOD[2]).with_joins({1: 6}).with_row(4, ("take", "x"))
                self.assertEqual(told, expected)
                self.assertEqual([keeper.now(), len(keeper)], [expected, 3] if keep else [EXAMPLE, 0])
        keeper = Keeper(EXAMPLE, "told")
        tried_edits(keeper, [GOOD])
        self.assertEqual(len(keeper), 1)

    def test_edits_that_cannot_be_made_or_are_refused(self):
        keeper = Keeper(EXAMPLE, "told")
        keeper[2] = ("group", "b", None)
        before = keeper.copy()
        cases = [(NO_ROW, BadRow), (("row", 6, ("end",)), BadNumber), (("row", True, ("end",)), BadNumber),
                 (("row", None, None), BadNumber), (("row", 0, None), BadRow), (("joins", {0: 1}), BadJoins),
                 (("joins", None), BadJoins), (("joins", Hostile()), BadJoins), (STEERS, NotPlain),
                 (("row", 2, ("meet", "m")), Guarded), (("joins", {1: 6}), Guarded)]
        for edit, kind in cases:
            for ahead in range(3):
                for keep in (True, False):
                    edits = [*[GOOD] * ahead, edit, GOOD, NO_ROW]
                    with self.assertRaises(BadEdits) as caught:
                        tried_edits(keeper, edits, keep=keep)
                    self.assertEqual([caught.exception.value, keeper], [ahead, before])
                    self.assertIs(caught.exception.__cause__.__class__, kind)
        crossed = CROSSED.with_joins({0: 4})
        with self.assertRaises(BadEdits) as caught:
            tried_edits(Keeper(crossed, "told"), [("joins", {0: 3})])
        self.assertIsInstance(caught.exception.__cause__, NotNested)

    def test_edits_that_lead_too_far(self):
        keeper = Keeper(EXAMPLE, "told")
        for name, module, kind in (("MOST_STATES", graphs, TooMany), ("MOST_VALUES", trails, TooLarge)):
            with mock.patch.object(module, name, 3 if module is graphs else 0):
                with self.assertRaises(BadEdits) as caught:
                    tried_edits(keeper, [("row", 2, ("meet", "m"))])
            self.assertIs(caught.exception.__cause__.__class__, kind)
            self.assertEqual(caught.exception.value, 0)
        self.assertEqual(keeper, Keeper(EXAMPLE, "told"))

    def test_exceptions_in_order(self):
        for keeper in (*STRANGE, EXAMPLE, None, 0, True, "keeper", (), [], Keeper):
            refused(self, BadKeeper, keeper, lambda: tried_edits(keeper, None, keep=None))
        keeper = Keeper(EXAMPLE, "told")
        for edits in wrong_edits():
            refused(self, BadEdits, edits, lambda: tried_edits(keeper, edits, keep=None))
        for keep in (*STRANGE, 0, 1, "True", (), []):
            refused(self, BadKind, keep, lambda: tried_edits(keeper, [NO_ROW], keep=keep))
        self.assertEqual(keeper, Keeper(EXAMPLE, "told"))
        self.assertRaises(TypeError, tried_edits, keeper, [], False)

    def test_any_edits(self):
        found = {True: 0, False: 0}
        for chance, program, rule in good_programs(60):
            for _ in range(4):
                edits = [some_edit(chance, program) for _ in range(chance.randint(1, 3))]
                later, wrong = program, None
                for index, edit in enumerate(edits):
                    if wrong is None:
                        later = made(later, edit)
                        if later is None or not is_good(later, rule):
                            wrong = index
                found[wrong is None] += 1
                keeper = Keeper(program, rule)
                if wrong is None:
                    self.assertEqual(tried_edits(keeper, edits), later)
                    self.assertEqual([keeper.now(), len(keeper)], [later, len(edits)])
                else:
                    self.assertEqual(error_of(self, BadEdits, lambda: tried_edits(keeper, edits)), wrong)
                    self.assertEqual(keeper, Keeper(program, rule))
        self.assertGreater(min(found.values()), 30, found)

    def test_what_was_handed_in_is_not_changed(self):
        edits = [GOOD, ("joins", {1: 5})]
        tried_edits(Keeper(EXAMPLE, "told"), edits)
        edits_kept(EXAMPLE, "told", edits)
        self.assertEqual(edits, [GOOD, ("joins", {1: 5})])


def wrong_edits():
    """Any values that are no edits."""
    return [*STRANGE, True, False, 1, "", "row", GOOD, {0: GOOD}, {GOOD[0]: 1}, [None], [()], [[]],
            [list(GOOD)], [GOOD, None], (GOOD, "row"), [("row",)], [("row", 2)], [("row", 2, ("end",), 0)], [("joins",)],
            [("joins", {}, {})], [("set", 2, ("end",))], [("", 2, ("end",))], [(b"row", 2, ("end",))],
            [(None, 2, ("end",))], [(Hostile(), 2, ("end",))], [(Everything(), {})], [Everything()], ["row"],
            [("Row", 2, ("end",))], [("rows", 2, ("end",))], [("join", {})], [GOOD, ("joins",)]]


class TestEditsKept(unittest.TestCase):
    def test_no_edit(self):
        for edits in ([], ()):
            self.assertEqual(edits_kept(EXAMPLE, "told", edits), [])

    def test_each_alone(self):
        edits = [GOOD, NO_ROW, ("row", 2, ("meet", "m")), STEERS, ("joins", {1: 6}), ("joins", {}), ("row", 9, None), GOOD,
                 ("joins", None), ("row", 4, ("take", "x")), ("row", Hostile(), Hostile()), ("joins", {1: 5})]
        for kind in (list, tuple):
            self.assertEqual(edits_kept(EXAMPLE, "told", kind(edits)), [0, 5, 7, 9, 11])
        self.assertEqual(edits_kept(EXAMPLE, "first", edits), [0, 4, 5, 7, 9, 11])

    def test_programs_that_are_not_kept_themselves(self):
        self.assertEqual(edits_kept(MEETINGS, "told", [("row", 2, ("take", "x")), ("row", 0, ("set", "x", 1)), GOOD]), [1])
        self.assertEqual(edits_kept(TWICE, "told", [("joins", {1: 3}), ("joins", {1: 4}), ("joins", {1: 5})]),
                         [index for index, join in enumerate((3, 4, 5)) if is_good(TWICE.with_joins({1: join}), "told")])

    def test_joins_that_do_not_nest_and_too_many_pair_states(self):
        crossed = CROSSED.with_joins({0: 4})
        self.assertEqual(edits_kept(crossed, "told", [("joins", {0: 3}), ("joins", {0: 4})]), [1])
        self.assertEqual(edits_kept(crossed, "first", [("joins", {0: 3}), ("joins", {0: 4})]), [0, 1])
        program, edits = Program([("take", "x"), ("set", "x", 0), ("end",)]), [("row", 1, ("take", "x")), ("joins", {})]
        many = len(Pairs(made(program, edits[0]), "told"))
        self.assertGreater(many, len(Pairs(program, "told")))
        for most, kept in ((many - 1, [1]), (many, [0, 1])):
            with mock.patch.object(graphs, "MOST_STATES", most):
                self.assertEqual(edits_kept(program, "told", edits), kept)

    def test_exceptions_in_order(self):
        for program in NO_PROGRAMS:
            refused(self, BadProgram, program, lambda: edits_kept(program, None, None))
        for rule in NO_RULES:
            refused(self, BadRule, rule, lambda: edits_kept(EXAMPLE, rule, None))
        self.assertEqual(error_of(self, NotPlain, lambda: edits_kept(EXAMPLE.with_row(2, STEERS[2]), "told", None)), 2)
        self.assertEqual(error_of(self, NotNested, lambda: edits_kept(CROSSED, "told", None)), (0, 1))
        for edits in wrong_edits():
            refused(self, BadEdits, edits, lambda: edits_kept(EXAMPLE, "told", edits))

    def test_any_edits(self):
        found = {True: 0, False: 0}
        for chance, program, rule in plain_programs(80, 8):
            edits = [some_edit(chance, program) for _ in range(6)]
            kept = edits_kept(program, rule, edits)
            expected = []
            for index, edit in enumerate(edits):
                later = made(program, edit)
                good = later is not None and is_good(later, rule)
                found[good] += 1
                expected += [index] if good else []
            self.assertEqual(kept, expected)
        self.assertGreater(min(found.values()), 100, found)


if __name__ == "__main__":
    unittest.main()
