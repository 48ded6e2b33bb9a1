"""[1], [2] and [3]: what holds of the whole program."""

import copy
import inspect
import random
import unittest

from partedlanes.alike import Likeness, events_alone, is_like_table, surely_alike
from partedlanes.desks import Desk
from partedlanes.errors import (BadBlock, BadData, BadEdits, BadJoins, BadKeeper, BadKind, BadLine, BadMachine, BadNumber,
                                BadPaper, BadProgram, BadPromise, BadRegisters, BadRow, BadRows, BadRule, BadState,
                                BadText, NoLane, NoScene)
from partedlanes.fewest import Counted, fewest_lanes, fewest_that_stand, is_counted_table
from partedlanes.keepers import Keeper, edits_kept, tried_edits
from partedlanes.lanes import Alone, Data
from partedlanes.lengths import Steps, is_longer, is_ring, is_steps_table, lanes_for_most, leads
from partedlanes.machines import Machine, tried
from partedlanes.marks import is_good, least_marks, marked, verdicts, views_unlike
from partedlanes.pairs import Pairs
from partedlanes.papers import accepts, closed_paper, promise_paper, stands_paper, verdict
from partedlanes.pieces import is_piece, joined_pieces, pieces_of, touched_pieces, unkept
from partedlanes.programs import Program
from partedlanes.promises import Promise, broken_rows, keeps
from partedlanes.roads import first_common, joins_of, unnested
from partedlanes.sets import Sets
from partedlanes.sources import Source
from partedlanes.stands import standing_rows, stands
from partedlanes.tables import is_table
from partedlanes.texts import format_data, format_program, parse_data, parse_program
from partedlanes.views import can_stand_in_sets, is_stand, is_view, lanes_for, lanes_that_stand, results, views
from tests.helpers import Everything, Hostile, error_of, refused
from tests.literal import chances, some_data, some_program
from tests.test_pairs import CROSSED, EXAMPLE, MEETINGS, plain_programs
from tests.test_roads import branch
from tests.test_stands import some_programs

PILE, ALL_RULES = ("told", "first"), ("told", "first", "least", "greatest")
ZERO, BOTH = ((0,),), ((0,), (1,))
FIRST = (0, 6, ZERO, False)
ENDLESS = Program([("take", "x"), branch(3, 3), ("group", "see", None), ("go", 0)])
STEERED = Program([("take", "x"), ("any", "x", 1, "x"), branch(4, 4), ("group", "a", None), ("meet", "m")])
BLOCK = (("take", "x"), ("while", "x", 1, (("group", "turn"), ("take", "x"))), ("meet", "all"))
START = Pairs(EXAMPLE, "told").start

# Values of every kind; each one is right for few arguments.
VALUES = [
    None, True, False, 0, 1, 2, 5, 6, -1, 7, 24, 25, 40, 41, 60, 61, 1000, 1001, 4000, 20000, 20001, -10 ** 30, 10 ** 30,
    1.0, 0.5, 1j, "", "x", "told", "first", "least", "greatest", "Told", "end", "step", "-", "0", "a" * 81, "1" * 3001,
    b"", b"told", bytearray(b"x"), [], [0], [None], [()], [("end",)], (), (0,), (1,), ("x",), ("end",), ((0,),), ("told",),
    {}, {0: 0}, {1: 5}, {"x": 1}, {1}, frozenset(), range(3), object(), Everything(), Hostile(), len, int, Data, Program,
    EXAMPLE, ENDLESS, STEERED, Data(), Data(1), [Data()], (Data(2),), [EXAMPLE], Alone(EXAMPLE, Data()),
    Machine(EXAMPLE, [Data()]), Pairs(EXAMPLE, "told"), Promise(EXAMPLE, "told", 2), Sets(EXAMPLE), Steps(EXAMPLE),
    Counted(EXAMPLE, 1), Source(BLOCK), Desk(EXAMPLE), Likeness(EXAMPLE, EXAMPLE), Keeper(EXAMPLE, "told"), FIRST, [FIRST],
    START, [START], ("closed", [START]), ("kept", 2, [], []), ("kept", None, [], []), (([], []),), [([], [])],
]


def is_int(value):
    return isinstance(value, int) and not isinstance(value, bool)


def number(*right):
    """Whether a value is one of these integers."""
    return lambda value: is_int(value) and value in right


def between(least, most):
    return lambda value: is_int(value) and least <= value <= most


def text(*right):
    return lambda value: isinstance(value, str) and value in right


def kind(*kinds):
    return lambda value: isinstance(value, kinds)


def is_true_or_false(value):
    return value is True or value is False


def plain(value):
    return isinstance(value, Program) and value.is_plain()


def joins(value):
    return isinstance(value, dict) and value in ({}, {1: 5})


def datas(value):
    return isinstance(value, list) and len(value) == 1 and isinstance(value[0], Data)


def like(value):
    """Programs that may be compared with EXAMPLE, or that raise something else than BadProgram."""
    return isinstance(value, Program)


PROGRAM, RULE, PILE_RULE = (BadProgram, kind(Program)), (BadRule, text(*ALL_RULES)), (BadRule, text(*PILE))
LIMIT, MOST = (BadNumber, between(1, 20000)), (BadNumber, between(0, 1000))
PIECES = pieces_of(Sets(EXAMPLE))


def no_pieces(value):
    return isinstance(value, list) and (len(value) == 0 or value == [([], [])])


def with_limit(action, **more):
    return (action, dict(program=EXAMPLE, rule="told", limit=4000, **more))


# A function or method, right arguments, and the arguments that are refused, in the order in which this is done, each
# with its exception and a test of what else is right.
CASES = [
    (Program, dict(rows=[("end",)], registers=("x",), values=2),
     {"registers": (BadRegisters, lambda v: v == ("x",) or v in (("end",), ("told",))), "values": (BadNumber, number(2)),
      "rows": (BadRows, lambda v: isinstance(v, (list, tuple)) and len(v) in range(1, 25))}),
    (EXAMPLE.ways, dict(index=0), {"index": (BadNumber, between(0, 5))}),
    (EXAMPLE.with_row, dict(index=0, row=("end",)),
     {"index": (BadNumber, between(0, 5)), "row": (BadRow, lambda v: v == ("end",))}),
    (EXAMPLE.with_joins, dict(joins={}), {"joins": (BadJoins, joins)}),
    (first_common, dict(program=EXAMPLE, index=1), {"program": PROGRAM, "index": (BadNumber, number(1))}),
    (joins_of, dict(program=EXAMPLE, rule="told"), {"program": PROGRAM, "rule": PILE_RULE}),
    (unnested, dict(program=EXAMPLE, rule="told"), {"program": PROGRAM, "rule": PILE_RULE}),
    (Alone, dict(program=EXAMPLE, data=Data()), {"program": PROGRAM, "data": (BadData, kind(Data))}),
    (Alone(EXAMPLE, Data()).go, dict(most=1), {"most": MOST}),
    (Machine, dict(program=EXAMPLE, datas=[Data()], rule="told"),
     {"program": PROGRAM, "datas": (BadData, datas), "rule": RULE}),
    (Machine(EXAMPLE, [Data()]).go, dict(most=1), {"most": MOST}),
    (Machine(EXAMPLE, [Data()]).row_of, dict(lane=0), {"lane": (NoLane, number(0))}),
    (Machine(EXAMPLE, [Data()]).registers_of, dict(lane=0), {"lane": (NoLane, number(0))}),
    (tried, dict(machine=Machine(EXAMPLE, [Data()]), most=1, keep=False),
     {"machine": (BadMachine, kind(Machine)), "most": MOST, "keep": (BadKind, is_true_or_false)}),
    (Pairs, dict(program=EXAMPLE, rule="told"), {"program": PROGRAM, "rule": RULE}),
    *[(action, dict(state=START), {"state": (BadState, lambda v: v == START)})
      for action in (Pairs(EXAMPLE, "told").steps, Pairs(EXAMPLE, "told").does, Pairs(EXAMPLE, "told").shown)],
    *[(action, dict(row=0), {"row": (BadNumber, between(0, 5))})
      for pairs in [Pairs(EXAMPLE, "told")] for action in (pairs.are_together, pairs.is_alone, pairs.others)],
    *[(action, dict(program=EXAMPLE, rule="told"), {"program": PROGRAM, "rule": RULE})
      for action in (stands, standing_rows, keeps, broken_rows, closed_paper, stands_paper, Keeper)],
    *[(action, dict(program=EXAMPLE, rule="told", row=2),
       {"program": PROGRAM, "rule": RULE, "row": (BadNumber, number(2, 4))}) for action in (Promise, promise_paper)],
    (Promise(EXAMPLE, "told", 2).at_least, dict(other=Promise(EXAMPLE, "told", 4)), {"other": (BadPromise, kind(Promise))}),
    (accepts, dict(program=EXAMPLE, rule="told", paper=None), {"program": PROGRAM, "rule": RULE}),
    (verdict, dict(paper=("closed", [])),
     {"paper": (BadPaper, lambda v: isinstance(v, tuple) and v in (("closed", [START]), ("kept", 2, [], [])))}),
    *[(*with_limit(action), {"program": PROGRAM, "rule": PILE_RULE, "limit": LIMIT})
      for action in (Sets, views, results, can_stand_in_sets, lanes_that_stand, Steps, lanes_for_most, fewest_that_stand)],
    (Sets(EXAMPLE).arrivals, dict(scene=FIRST), {"scene": (NoScene, lambda v: v == FIRST)}),
    (is_table, dict(program=EXAMPLE, rule="told", value=None), {"program": PROGRAM, "rule": PILE_RULE}),
    *[(*with_limit(action, row=5, crowd=ZERO),
       {"program": PROGRAM, "rule": PILE_RULE, "limit": LIMIT, "row": (BadNumber, number(2, 4, 5))})
      for action in (lanes_for, fewest_lanes)],
    (is_view, dict(program=EXAMPLE, row=5, crowd=ZERO, datas=[Data()], rule="told"),
     {"program": PROGRAM, "rule": PILE_RULE, "row": (BadNumber, number(2, 4, 5))}),
    (is_stand, dict(program=EXAMPLE, datas=[Data()], rule="told"), {"program": PROGRAM, "rule": PILE_RULE}),
    (marked, dict(program=EXAMPLE, choice=(1,)), {"program": PROGRAM, "choice": (BadJoins, lambda v: v in ((), (1,)))}),
    *[(action, dict(program=EXAMPLE), {"program": PROGRAM}) for action in (is_good, least_marks, verdicts)],
    (views_unlike, dict(program=EXAMPLE, limit=4000), {"program": PROGRAM, "limit": LIMIT}),
    (Steps(EXAMPLE).numbers, dict(scene=FIRST), {"scene": (NoScene, lambda v: v == FIRST)}),
    (*with_limit(leads, scene=FIRST),
     {"program": PROGRAM, "rule": PILE_RULE, "limit": LIMIT, "scene": (NoScene, lambda v: v == FIRST)}),
    (*with_limit(is_ring, value=None), {"program": PROGRAM, "rule": PILE_RULE, "limit": LIMIT}),
    (is_steps_table, dict(program=EXAMPLE, rule="told", value=None), {"program": PROGRAM, "rule": PILE_RULE}),
    (is_longer, dict(program=EXAMPLE, datas=[Data()], steps=1, rule="told"),
     {"program": PROGRAM, "rule": PILE_RULE, "steps": MOST}),
    (*with_limit(Counted, lanes=1),
     {"program": PROGRAM, "rule": PILE_RULE, "lanes": (BadNumber, between(1, 8)), "limit": LIMIT}),
    (Counted(EXAMPLE, 1).arrivals, dict(scene=FIRST), {"scene": (NoScene, lambda v: v == FIRST)}),
    (is_counted_table, dict(program=EXAMPLE, lanes=1, rule="told", value=None),
     {"program": PROGRAM, "rule": PILE_RULE, "lanes": (BadNumber, between(1, 8))}),
    (is_piece, dict(program=EXAMPLE, rule="told", value=None), {"program": PROGRAM, "rule": PILE_RULE}),
    (unkept, dict(program=EXAMPLE, rule="told", pieces=PIECES),
     {"program": PROGRAM, "rule": PILE_RULE, "pieces": (BadPaper, no_pieces)}),
    (joined_pieces, dict(program=EXAMPLE, rule="told", pieces=PIECES),
     {"program": PROGRAM, "rule": PILE_RULE, "pieces": (BadPaper, lambda v: False)}),
    (touched_pieces, dict(program=EXAMPLE, other=EXAMPLE, rule="told", pieces=PIECES),
     {"program": PROGRAM, "rule": PILE_RULE, "other": (BadProgram, lambda v: v is EXAMPLE),
      "pieces": (BadPaper, no_pieces)}),
    (Source, dict(block=BLOCK, registers=("x",), values=2),
     {"registers": (BadRegisters, lambda v: v in (("x",), ("end",), ("told",))), "values": (BadNumber, number(2)),
      "block": (BadBlock, lambda v: False)}),
    (Source(BLOCK).seen, dict(datas=[Data()], most=1), {"datas": (BadData, datas), "most": MOST}),
    (format_program, dict(program=EXAMPLE), {"program": PROGRAM}),
    (parse_program, dict(text=format_program(EXAMPLE)), {"text": (BadText, lambda v: False)}),
    (format_data, dict(data=Data()), {"data": (BadData, kind(Data))}),
    (parse_data, dict(text="1"), {"text": (BadText, text("-"))}),
    (Desk, dict(program=EXAMPLE), {"program": PROGRAM}),
    (Desk(EXAMPLE).answer, dict(line="step"), {"line": (BadLine, text("step"))}),
    (events_alone, dict(program=EXAMPLE, data=Data(), most=1),
     {"program": PROGRAM, "data": (BadData, kind(Data)), "most": MOST}),
    (Likeness, dict(one=EXAMPLE, other=EXAMPLE), {"one": PROGRAM, "other": PROGRAM}),
    (Likeness(EXAMPLE, EXAMPLE), dict(data=Data()), {"data": (BadData, kind(Data))}),
    (is_like_table, dict(one=EXAMPLE, other=EXAMPLE, table=None), {"one": PROGRAM, "other": PROGRAM}),
    (surely_alike, dict(one=EXAMPLE, rule="told", other=EXAMPLE, other_rule="least"),
     {"one": PROGRAM, "other": PROGRAM, "rule": RULE, "other_rule": RULE}),
    (Keeper(EXAMPLE, "told").put_row, dict(index=0, row=EXAMPLE[0]),
     {"index": (BadNumber, between(0, 5)), "row": (BadRow, lambda v: v == ("end",))}),
    (Keeper(EXAMPLE, "told").put_joins, dict(joins={}), {"joins": (BadJoins, joins)}),
    (tried_edits, dict(keeper=Keeper(EXAMPLE, "told"), edits=[], keep=False),
     {"keeper": (BadKeeper, kind(Keeper)), "edits": (BadEdits, lambda v: isinstance(v, (list, tuple)) and len(v) == 0),
      "keep": (BadKind, is_true_or_false)}),
    (edits_kept, dict(program=EXAMPLE, rule="told", edits=[]),
     {"program": PROGRAM, "rule": RULE, "edits": (BadEdits, lambda v: isinstance(v, (list, tuple)) and len(v) == 0)}),
]


class TestArguments(unittest.TestCase):
    def is_right(self, fits, value):
        return value.__class__ not in (Everything, Hostile) and fits(value)

    def test_wrong_values_of_every_kind(self):
        for action, right, wrong in CASES:
            for name, (error, fits) in wrong.items():
                some = [value for value in VALUES if not self.is_right(fits, value)]
                self.assertGreater(len(some), len(VALUES) // 3, (action, name))
                for value in some:
                    with self.subTest(action=action, name=name, value=str(value.__class__)):
                        refused(self, error, value, lambda: action(**{**right, name: value}))

    def test_the_order_of_exceptions(self):
        # Whatever stands behind the first wrong argument in this order does not matter.
        for action, right, wrong in CASES:
            names = list(wrong)
            for place, name in enumerate(names):
                for value in (Hostile(), Everything(), None, 1.0):
                    later = {other: Hostile() for other in names[place + 1:]}
                    refused(self, wrong[name][0], value, lambda: action(**{**right, **later, name: value}))

    def test_arguments_by_position_and_by_name(self):
        for action, right, _ in CASES:
            parameters = inspect.signature(action).parameters
            self.assertEqual(set(parameters), set(right), action)
            by_position = [right[name] for name, one in parameters.items() if one.kind is one.POSITIONAL_OR_KEYWORD]
            by_name = {name: right[name] for name, one in parameters.items() if one.kind is one.KEYWORD_ONLY}
            action(*by_position, **by_name)
            action(**dict(reversed(list(right.items()))))
            if by_name:
                self.assertRaises(TypeError, lambda: action(*by_position, *by_name.values()))
            self.assertRaises(TypeError, lambda: action(**right, more=1))

    def test_indexes(self):
        for held, error, fits in ((EXAMPLE, BadNumber, between(0, 5)), (Keeper(EXAMPLE, "told"), BadNumber, between(0, 5)),
                                  (Data(1), BadNumber, lambda v: is_int(v) and v >= 0),
                                  (Steps(EXAMPLE), NoScene, lambda v: v == FIRST)):
            for value in VALUES:
                if not self.is_right(fits, value):
                    refused(self, error, value, lambda: held[value])

    def test_any_values_that_are_asked_about(self):
        answers = [
            (lambda value: value in Pairs(EXAMPLE, "told"), lambda v: v == START),
            (lambda value: value in Sets(EXAMPLE), lambda v: v == FIRST),
            (lambda value: value in Counted(EXAMPLE, 1), lambda v: v == FIRST),
            (lambda value: value in Steps(EXAMPLE), lambda v: v == FIRST),
            *[(lambda value, rule=rule: accepts(EXAMPLE, rule, value), lambda v: False) for rule in ALL_RULES],
            (lambda value: is_table(EXAMPLE, "told", value), lambda v: False),
            (lambda value: is_counted_table(EXAMPLE, 1, "told", value), lambda v: False),
            (lambda value: is_steps_table(EXAMPLE, "told", value), lambda v: False),
            (lambda value: is_ring(EXAMPLE, value), lambda v: False),
            (lambda value: is_piece(EXAMPLE, "told", value), lambda v: False),
            (lambda value: is_like_table(EXAMPLE, EXAMPLE, value), lambda v: False),
            (lambda value: is_view(EXAMPLE, 5, ZERO, value), datas),
            (lambda value: is_view(EXAMPLE, 5, value, [Data()]), lambda v: v == ZERO),
            (lambda value: is_stand(EXAMPLE, value), lambda v: False),
            (lambda value: is_longer(EXAMPLE, value, 1), datas),
            (lambda value: lanes_for(EXAMPLE, 5, value) is not None, lambda v: v == ZERO),
            (lambda value: fewest_lanes(EXAMPLE, 5, value) is not None, lambda v: v == ZERO),
        ]
        for ask, fits in answers:
            for value in VALUES:
                self.assertIs(ask(value), self.is_right(fits, value), str(value.__class__))

    def test_objects_are_equal_to_nothing_of_another_kind(self):
        some = [value for value in VALUES if value.__class__.__module__.startswith("partedlanes")]
        self.assertGreater(len(some), 15)
        for one in some:
            for other in VALUES:
                if other.__class__ not in (Everything, Hostile) and other.__class__ is not one.__class__:
                    self.assertFalse(one == other)
                    self.assertTrue(one != other)


# Questions about one program each, and what they tell, as far as it can be compared.
QUESTIONS = {
    "program": lambda p: [p.registers, p.size, p.rows, p.end, p.branches(), p.steering(), p.groups(), p.meets(),
                          p.is_plain(), p.classes(), [p.ways(index) for index in range(len(p))]],
    "roads": lambda p: [[joins_of(p, rule), unnested(p, rule)] for rule in PILE],
    "machine": lambda p: [[machine.go(50), machine.events(), machine.pile(), machine.alive(), machine.state()]
                          for rule in ALL_RULES for machine in [Machine(p, [Data(1), Data(), Data(0, 1)], rule=rule)]],
    "alone": lambda p: Alone(p, Data(0, 1)).go(30),
    "sets": lambda p: [[s.table(), s.scenes(), s.rounds(), s.can_end(), [s.arrivals(scene) for scene in s.scenes()]]
                       for rule in PILE for s in [Sets(p, rule=rule)]],
    "counted": lambda p: [[s.table(), s.rounds(), s.can_end()] for lanes in (1, 2) for s in [Counted(p, lanes)]],
    "views": lambda p: [views(p), results(p), can_stand_in_sets(p), lanes_that_stand(p), fewest_that_stand(p),
                        [lanes_for(p, row, crowd) for row, crowds in views(p).items() for crowd in crowds],
                        [fewest_lanes(p, row, crowd) for row, crowds in views(p).items() for crowd in crowds]],
    "steps": lambda p: [[s.is_endless(), s.greatest, s.wait, s.ring(), s.table()] for s in [Steps(p)]] + [
        lanes_for_most(p), [leads(p, scene) for scene in Sets(p).scenes()]],
    "pieces": lambda p: [pieces_of(Sets(p)), joined_pieces(p, "told", pieces_of(Sets(p))),
                         touched_pieces(p, p, "told", pieces_of(Sets(p)))],
    "views_unlike": lambda p: views_unlike(p),
    "texts": lambda p: [format_program(p), parse_program(format_program(p))],
    "desk": lambda p: [[desk.answer(line) for line in ("lane 1", "lane -", "go", "lanes", "stands", "broken")]
                       for desk in [Desk(p)]],
}
PLAIN_QUESTIONS = {
    "pairs": lambda p: [[s.states(), [s.steps(state) for state in s.states()], [s.shown(state) for state in s.states()],
                         [s.others(row) for row in range(len(p))]] for rule in ALL_RULES for s in [Pairs(p, rule)]],
    "stands": lambda p: [[stands(p, rule), standing_rows(p, rule)] for rule in ALL_RULES],
    "promises": lambda p: [[s.kept, s.anchor, s.broken(), s.bounds(), s.unrelated(), s.kept_by()] for row in p.groups()
                           for rule in ALL_RULES for s in [Promise(p, rule, row)]],
    "papers": lambda p: [[closed_paper(p, rule), stands_paper(p, rule), [promise_paper(p, rule, row) for row in p.groups()]]
                         for rule in ALL_RULES],
    "marks": lambda p: [is_good(p), least_marks(p), verdicts(p), marked(p, ())],
    "alike": lambda p: [[s.is_alike(), s.difference(), s.table(), s(Data(1))] for other in (p, p.with_row(0, ("end",)))
                        for s in [Likeness(p, other)]] + [events_alone(p, Data(1), 9), surely_alike(p, "told", p, "least")],
    "edits": lambda p: edits_kept(p, "told", [("row", index, ("take", "x")) for index in range(len(p))]),
}
PROGRAMS = (EXAMPLE, MEETINGS, ENDLESS, STEERED, Program([("take", "x"), ("end",)]), Source(BLOCK).lowered())


def questions_of(program):
    return {**QUESTIONS, **(PLAIN_QUESTIONS if program.is_plain() else {})}


def again(program):
    return Program(program.rows, registers=program.registers, values=program.size)


def spoil(value):
    """Empties all lists and dicts within a value."""
    if isinstance(value, (list, tuple)):
        for part in value:
            spoil(part)
    if isinstance(value, dict):
        spoil(list(value.values()))
    if isinstance(value, (list, dict)):
        value.clear()


class TestAnswers(unittest.TestCase):
    def test_the_same_answers_whatever_was_asked_before(self):
        for program in PROGRAMS:
            shared, questions = again(program), questions_of(program)
            expected = {name: ask(again(program)) for name, ask in questions.items()}
            for seed in range(3):
                names = list(questions)
                random.Random(seed).shuffle(names)
                for name in names:
                    self.assertEqual(questions[name](shared), expected[name], name)
            self.assertEqual(shared, again(program))

    def test_answers_are_new_each_time(self):
        for program in PROGRAMS:
            for name, ask in questions_of(program).items():
                expected = ask(again(program))
                spoil(ask(program))
                self.assertEqual(ask(program), expected, name)

    def test_answers_of_one_object_are_new_each_time(self):
        pairs, promise, sets = Pairs(EXAMPLE, "told"), Promise(ENDLESS, "told", 2), Sets(EXAMPLE)
        steps, counted, endless = Steps(EXAMPLE), Counted(EXAMPLE, 2), Steps(ENDLESS)
        machine, likeness, keeper = Machine(EXAMPLE, [Data(1), Data()]), Likeness(EXAMPLE, EXAMPLE), Keeper(EXAMPLE, "told")
        machine.go(3)
        source = Source(BLOCK)
        for ask in (pairs.states, lambda: pairs.steps(pairs.start), lambda: pairs.others(2), promise.bounds,
                    promise.unrelated, promise.kept_by, sets.scenes, sets.table, sets.rounds,
                    lambda: sets.arrivals(FIRST), steps.table, lambda: steps.numbers(FIRST), endless.ring, counted.scenes,
                    counted.table, machine.events, machine.pile, likeness.table, keeper.papers, EXAMPLE.classes,
                    EXAMPLE.branches, EXAMPLE.groups, EXAMPLE.meets, EXAMPLE.steering, lambda: EXAMPLE.ways(1),
                    lambda: source.seen([Data(1)], 99), lambda: pieces_of(sets)):
            expected = copy.deepcopy(ask())
            spoil(ask())
            self.assertEqual(ask(), expected)

    def test_what_was_handed_in_is_not_changed_and_may_be_changed_later(self):
        rows, joined, given = list(EXAMPLE.rows), {1: 6}, [Data(1), Data()]
        program = Program(rows)
        other = program.with_joins(joined)
        machine = Machine(program, given)
        keeper = Keeper(program, "first")
        keeper.put_joins(joined)
        values = [1, 0, 1]
        data = Data.of(values) + values
        self.assertEqual([rows, joined, given, values], [list(EXAMPLE.rows), {1: 6}, [Data(1), Data()], [1, 0, 1]])
        spoil([rows, joined, given, values])
        self.assertEqual([program, other, keeper.now()], [EXAMPLE, EXAMPLE.with_joins({1: 6}), EXAMPLE.with_joins({1: 6})])
        self.assertEqual([len(machine), machine.go(99)[-1], data], [2, ("over",), Data(1, 0, 1, 1, 0, 1)])

    def test_any_values_are_not_changed(self):
        tables = [Sets(EXAMPLE).table(), Counted(EXAMPLE, 1).table(), Steps(EXAMPLE).table(), Steps(ENDLESS).ring(),
                  pieces_of(Sets(EXAMPLE)), closed_paper(EXAMPLE, "told"), stands_paper(EXAMPLE, "told"),
                  promise_paper(EXAMPLE, "told", 2), Likeness(EXAMPLE, EXAMPLE).table(), [Data(1)], [("joins", {1: 5})]]
        for value in tables:
            before = copy.deepcopy(value)
            for ask in (is_table, is_steps_table, is_piece, accepts):
                ask(EXAMPLE, "told", value)
            is_counted_table(EXAMPLE, 1, "told", value)
            is_ring(ENDLESS, value)
            is_like_table(EXAMPLE, EXAMPLE, value)
            is_view(EXAMPLE, 5, value, value)
            is_stand(EXAMPLE, value)
            is_longer(EXAMPLE, value, 1)
            self.assertEqual(value, before)

    def test_results_of_one_kind(self):
        for value in (is_good(EXAMPLE), keeps(EXAMPLE, "told"), EXAMPLE.is_plain(), Sets(EXAMPLE).can_end(),
                      can_stand_in_sets(EXAMPLE), Steps(EXAMPLE).is_endless(), Promise(EXAMPLE, "told", 2).kept,
                      Pairs(EXAMPLE, "told").are_together(0), Pairs(EXAMPLE, "told").is_alone(2),
                      Promise(EXAMPLE, "told", 2).at_least(Promise(EXAMPLE, "told", 4)), is_stand(EXAMPLE, []),
                      Likeness(EXAMPLE, EXAMPLE).is_alike(), surely_alike(EXAMPLE, "told", EXAMPLE, "told")):
            self.assertTrue(value is True or value is False)
        for value in (EXAMPLE.branches(), EXAMPLE.classes(), unnested(EXAMPLE, "told"), broken_rows(EXAMPLE, "told"),
                      standing_rows(EXAMPLE, "told"), least_marks(EXAMPLE), views_unlike(EXAMPLE), pieces_of(Sets(EXAMPLE)),
                      touched_pieces(EXAMPLE, EXAMPLE, "told", []), edits_kept(EXAMPLE, "told", []),
                      events_alone(EXAMPLE, Data(), 3), Source(BLOCK).seen([Data()], 3), Likeness(CROSSED, CROSSED).table()):
            self.assertIs(value.__class__, list)
        for value in (Keeper(EXAMPLE, "told").put_joins({}), Keeper(EXAMPLE, "told").put_row(2, ("take", "x"))):
            self.assertIsNone(value)


class TestTogether(unittest.TestCase):
    """What [1] and [2] tell of all parts at once: each yes has a table, each no has lanes that show it."""

    def test_who_is_together_hangs_on_two_lanes_alone(self):
        for chance, program, rule in plain_programs(60, 9):
            pairs = Pairs(program, rule)
            machine = Machine(program, [some_data(chance, program.size, 6) for _ in range(5)], rule=rule)
            for step in machine.go(60):
                if step[0] == "done" and len(step[2]) > 1:
                    self.assertTrue(pairs.are_together(step[1]))

    def test_each_yes_and_each_no_can_be_rechecked(self):
        for _, program, rule in some_programs(60):
            shown = stands(program, rule)
            paper = stands_paper(program, rule)
            self.assertIs(paper[0] == "goes", shown is None)
            self.assertIs(accepts(program, rule, paper), True)
            self.assertIs(keeps(program, rule), broken_rows(program, rule) == [])
            for row in program.groups():
                paper = promise_paper(program, rule, row)
                self.assertIs(accepts(program, rule, paper), True)
                self.assertIs(paper[0] == "kept", row not in broken_rows(program, rule))
            if rule in PILE:
                # Meetings stand for two lanes if they stand for some number of them.
                self.assertIs(can_stand_in_sets(program, rule=rule), shown is not None)

    def test_a_keeper_is_there_if_nothing_speaks_against_it(self):
        for chance in chances(40):
            program = some_program(chance, 7)
            found = verdicts(program)
            for rule in ALL_RULES:
                kept = edits_kept(program, rule, [("joins", {})]) if found[rule] is not None else []
                self.assertEqual(kept == [0], found[rule] == (True, True))
            self.assertEqual(is_good(program), found["told"] == (True, True))

    def test_sources_have_keepers(self):
        source = Source(BLOCK)
        for rule in ("told", "first", "least"):
            self.assertEqual(len(Keeper(source.lowered(), rule).papers()), 2)
        error_of(self, BadBlock, lambda: Source((("leave", "x", 1),)))


if __name__ == "__main__":
    unittest.main()
