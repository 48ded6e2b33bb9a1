"""[2], [3], [18] and [19]: papers."""

import unittest
from unittest import mock

from partedlanes import trails
from partedlanes.errors import BadNumber, BadPaper, BadProgram, BadRule, NotNested, NotPlain, TooLarge
from partedlanes.lanes import Data
from partedlanes.machines import Machine
from partedlanes.pairs import Pairs
from partedlanes.papers import accepts, closed_paper, promise_paper, stands_paper, verdict
from partedlanes.programs import Program
from partedlanes.promises import Promise
from partedlanes.roads import unnested
from partedlanes.stands import stands
from tests import literal_papers
from tests.helpers import NO_INTEGERS, STRANGE, Everything, Hostile, error_of, refused
from tests.literal import chances, some_program
from tests.test_pairs import CROSSED, EXAMPLE, MEETINGS, RULES, plain_programs, slow
from tests.test_roads import NO_PROGRAMS
from tests.test_stands import NO_RULES, some_programs

# Lanes that take 1 leave the loop; those that go round see others at row 2 only by "first".
LOOP = Program([("take", "x"), ("if", "x", 1, 3, 3), ("group", "see", None), ("go", 0)])
# Whoever goes round is counted ahead of all others, without bound.
AHEAD = Program([("take", "x"), ("if", "x", 1, 4, 5), ("group", "g", None), ("go", 0), ("go", 5), ("end",)])
# The group operation is anchored at the branch of its loop.
TURNS = Program([("take", "x"), ("if", "x", 1, 3, 6), ("go", 6), ("group", "turn", 1), ("take", "x"), ("go", 1),
                 ("meet", "all")])
OWN = Program([("take", "x"), ("if", "x", 1, 3, 3), ("group", "g", 2), ("go", 0)])
WAYS = (closed_paper, stands_paper)


def papers_of(program, rule):
    """All papers that are told of a program and a rule."""
    return [*[told(program, rule) for told in WAYS], *[promise_paper(program, rule, row) for row in program.groups()]]


def kept_paper(program, rule, row):
    """The fourth form, whether or not it is right."""
    promise = Promise(program, rule, row)
    return ("kept", row, promise.bounds(), promise.unrelated())


def long_road(many):
    """A program, and values of two lanes, that stands behind so many steps, about a thousand.

    The lanes go round together fifty-five times.
    """
    ahead = many - 994
    rows = [*[("set", "x", 0)] * ahead, ("take", "x"), ("if", "x", 1, 18, 18), *[("set", "x", 0)] * (15 - ahead),
            ("go", 0), ("take", "x"), ("if", "x", 1, 21, 22), ("meet", "a"), ("set", "x", 0)]
    return Program(rows), (*[0] * 55, 1, 1), (*[0] * 55, 1)


def with_part(paper, place, part):
    return (*paper[:place], part, *paper[place + 1:])


class TestExceptions(unittest.TestCase):
    def functions(self):
        return (lambda program, rule: accepts(program, rule, None), closed_paper, stands_paper,
                lambda program, rule: promise_paper(program, rule, None))

    def test_in_order(self):
        steered = CROSSED.with_row(2, ("any", "x", 1, "x"))
        for function in self.functions():
            for program in NO_PROGRAMS:
                refused(self, BadProgram, program, lambda: function(program, None))
            for rule in NO_RULES:
                refused(self, BadRule, rule, lambda: function(EXAMPLE, rule))
            error_of(self, BadRule, lambda: function(steered, "rule"))
            for rule in RULES:
                self.assertEqual(error_of(self, NotPlain, lambda: function(steered, rule)), 2)
            self.assertEqual(error_of(self, NotNested, lambda: function(CROSSED, "told")), (0, 1))

    def test_joins_that_do_not_nest_are_asked_for_by_told_alone(self):
        for rule in ("first", "least", "greatest"):
            for told in WAYS:
                self.assertIs(accepts(CROSSED, rule, told(CROSSED, rule)), True)

    def test_wrong_rows(self):
        for row in (*NO_INTEGERS, -1, 0, 1, 3, 4, 5, 6, 10 ** 30):
            refused(self, BadNumber, row, lambda: promise_paper(LOOP, "told", row))

    def test_names_of_arguments(self):
        paper = promise_paper(program=LOOP, rule="first", row=2)
        self.assertIs(accepts(program=LOOP, rule="first", paper=paper), True)
        self.assertEqual(verdict(paper=paper), "kept 2")
        self.assertEqual(closed_paper(program=LOOP, rule="told")[0], "closed")
        self.assertEqual(stands_paper(program=LOOP, rule="told")[0], "goes")


class TestTold(unittest.TestCase):
    def test_what_is_told(self):
        for _, program, rule in plain_programs(60, 9):
            states = Pairs(program, rule).states()
            self.assertEqual(closed_paper(program, rule), ("closed", states))
            shown = stands(program, rule)
            expected = ("goes", states) if shown is None else ("stands", shown[0].digits, shown[1].digits, shown[2])
            self.assertEqual(stands_paper(program, rule), expected)
            for row in program.groups():
                promise = Promise(program, rule, row)
                if promise.kept:
                    expected = ("kept", row, promise.bounds(), promise.unrelated())
                else:
                    kind, one, other, steps = promise.broken()
                    expected = ("broken", row, kind, one.digits, other.digits, steps)
                self.assertEqual(promise_paper(program, rule, row), expected)

    def test_what_is_told_is_accepted(self):
        found = {}
        for _, program, rule in some_programs(200):
            for paper in papers_of(program, rule):
                self.assertIs(accepts(program, rule, paper), True, (program.rows, rule, paper))
                found[paper[0]] = found.get(paper[0], 0) + 1
        self.assertGreater(min(found.values()), 20, found)
        self.assertEqual(sorted(found), ["broken", "closed", "goes", "kept", "stands"])

    def test_bounds_that_there_are_not(self):
        paper = promise_paper(AHEAD, "told", 2)
        self.assertEqual(paper[0], "kept")
        ends = {entry[1:] for entry in paper[2]}
        self.assertTrue(any(least is None for least, _ in ends) and any(greatest is None for _, greatest in ends))
        self.assertIs(accepts(AHEAD, "told", paper), True)

    def test_lists_are_new(self):
        for told in (*WAYS, lambda program, rule: promise_paper(program, rule, 2)):
            paper = told(LOOP, "first")
            for part in paper:
                if isinstance(part, list):
                    part.clear()
            self.assertNotEqual(told(LOOP, "first"), paper)

    def test_too_large(self):
        with mock.patch.object(trails, "MOST_VALUES", 0):
            for told in (stands_paper, lambda program, rule: promise_paper(program, rule, 2)):
                program = MEETINGS if told is stands_paper else LOOP
                self.assertEqual(error_of(self, TooLarge, lambda: told(program, "told")), 0)
        self.assertEqual(trails.MOST_VALUES, 60)

    def test_too_large_with_more_than_sixty_values(self):
        self.assertEqual(promise_paper(slow(10), "told", 22)[0], "broken")
        self.assertEqual(error_of(self, TooLarge, lambda: promise_paper(slow(11), "told", 23)), 60)
        self.assertEqual(stands_paper(slow(11), "told")[0], "goes")


class TestStates(unittest.TestCase):
    def test_any_order_lists_and_tuples(self):
        for program, rule in ((LOOP, "told"), (EXAMPLE, "first"), (AHEAD, "least"), (TURNS, "greatest")):
            states = Pairs(program, rule).states()
            for word in ("closed", "goes"):
                for some in (states, tuple(states), states[::-1], [*states, states[0]], tuple(states[1:] + states)):
                    self.assertIs(accepts(program, rule, (word, some)), word == "closed" or stands(program, rule) is None)
                self.assertIs(accepts(program, rule, [word, states]), False)
                for place in range(len(states)):
                    left = states[:place] + states[place + 1:]
                    self.assertIs(accepts(program, rule, (word, left)), False)
                    entry = states[place]
                    for bent in (list(entry), entry[:5], (*entry, 0), (entry,), *STRANGE, "state", 0):
                        self.assertIs(accepts(program, rule, (word, [*left, bent])), False)
                        self.assertIs(accepts(program, rule, (word, [*states, bent])), False)

    def test_with_states_that_nothing_comes_to(self):
        for program, rule in ((LOOP, "told"), (MEETINGS, "first"), (EXAMPLE, "least"), (MEETINGS, "greatest")):
            told = Pairs(program, rule).states()
            every = literal_papers.all_states(program, rule)
            self.assertTrue(set(told) < set(every))
            self.assertIs(accepts(program, rule, ("closed", every)), True)
            for state in every:
                behind = literal_papers.steps(program, rule, state)
                more = [*told, state]
                self.assertIs(accepts(program, rule, ("closed", more)), behind <= set(more))
                stuck = any("stands" in one[4] for one in more)
                self.assertIs(accepts(program, rule, ("goes", more)), behind <= set(more) and not stuck)

    def test_a_state_in_which_the_machine_stands(self):
        states = Pairs(LOOP.with_row(2, ("meet", "m")), "first").states()
        program = Program([("take", "x"), ("if", "x", 1, 3, 4), ("go", 4), ("go", 4), ("meet", "all")])
        states = Pairs(program, "told").states()
        self.assertIs(accepts(program, "told", ("goes", states)), True)
        stuck = (4, (0,), 3, (1,), "first stands", 5)
        self.assertIs(accepts(program, "told", ("closed", [*states, stuck])), True)
        self.assertIs(accepts(program, "told", ("goes", [*states, stuck])), False)

    def test_what_pair_states_are(self):
        for rule in RULES:
            program = Program([("take", "x"), ("if", "x", 1, 3, 3), ("meet", "a")])
            every = literal_papers.all_states(program, rule)
            self.assertIs(accepts(program, rule, ("closed", every)), True)
            for state in every[::len(every) // 12]:
                for place, parts in ((0, range(-1, 5)), (2, range(-1, 5)), (5, range(-1, 5)),
                                     (1, [(0,), (1,), (2,), (), (0, 0), [0], (True,), (0.0,), 0, None]),
                                     (3, [(0,), (1,), (-1,), (), (1, 1), [1], (False,), "0", Hostile()]),
                                     (4, ["both", "first", "second", "over", "stands", "first stands", "second stands",
                                          "third", "", None, b"both", Everything(), Hostile()])):
                    for part in parts:
                        bent = with_part(state, place, part)
                        expected = literal_papers.is_state(program, rule, bent)
                        self.assertIs(accepts(program, rule, ("closed", [bent, *every])), expected, bent)

    def test_numbers_that_look_alike(self):
        states = Pairs(EXAMPLE, "told").states()
        for place, state in enumerate(states):
            for part in (0, 2, 5):
                if state[part] in (0, 1):
                    for other in (bool(state[part]), float(state[part])):
                        bent = [*states[:place], with_part(state, part, other), *states[place + 1:]]
                        self.assertIs(accepts(EXAMPLE, "told", ("closed", bent)), False)
            for part in (1, 3):
                bent = [*states[:place], with_part(state, part, (bool(state[part][0]),)), *states[place + 1:]]
                self.assertIs(accepts(EXAMPLE, "told", ("closed", bent)), False)


class TestMachines(unittest.TestCase):
    def test_just_so_many_steps(self):
        for rule in RULES:
            paper = stands_paper(MEETINGS, rule)
            self.assertEqual(paper[0], "stands")
            self.assertIs(accepts(MEETINGS, rule, paper), True)
            self.assertIs(accepts(MEETINGS, rule, (paper[0], paper[2], paper[1], paper[3])), True)
            for steps in (*NO_INTEGERS, 0, paper[3] - 1, paper[3] + 1, -paper[3], 1000, 1001, 10 ** 30):
                self.assertIs(accepts(MEETINGS, rule, with_part(paper, 3, steps)), False)

    def test_a_thousand_steps(self):
        for many in (999, 1000, 1001):
            program, one, other = long_road(many)
            machine = Machine(program, [Data(*one), Data(*other)])
            done = [*machine.go(1000), *machine.go(1000)]
            self.assertEqual([step[0] for step in done].index("stands"), many)
            for steps in (many - 1, many, many + 1):
                paper = ("stands", one, other, steps)
                self.assertIs(accepts(program, "told", paper), steps == many <= 1000)

    def test_values(self):
        paper = stands_paper(MEETINGS, "told")
        for place in (1, 2):
            other = paper[3 - place]
            for values in (*STRANGE, list(paper[place]), [], "1", "", 1, Data(*paper[place]), (*paper[place], 0),
                           (*paper[place], 2), (*paper[place], False), (True,), (1.0,), (None,), (-1,), (3,), ("1",),
                           (Hostile(),), (1,) * 61, (0,) * 60, (0, 0)):
                self.assertIs(accepts(MEETINGS, "told", with_part(paper, place, values)), False, values)
            for values in ((0, 1), (1, 1), (1,), (), (1,) * 60):
                expected = {place: values, 3 - place: other}
                machine = Machine(MEETINGS, [Data(*expected[1]), Data(*expected[2])])
                stuck = len(machine.go(1000)) - 1 == paper[3] and machine.state() == "stands"
                self.assertIs(accepts(MEETINGS, "told", with_part(paper, place, values)), stuck)

    def test_values_that_the_program_has_not(self):
        program = Program(MEETINGS.rows, values=3)
        self.assertIs(accepts(program, "told", ("stands", (1,), (2,), 2)), True)
        self.assertIs(accepts(MEETINGS, "told", ("stands", (1,), (2,), 2)), False)
        self.assertIs(accepts(MEETINGS, "told", ("stands", (1, 2), (), 2)), False)

    def test_broken(self):
        paper = promise_paper(LOOP, "told", 2)
        self.assertEqual(paper, ("broken", 2, "stranger", (), (1,), 7))
        self.assertIs(accepts(LOOP, "told", paper), True)
        self.assertIs(accepts(LOOP, "told", ("broken", 2, "stranger", (1,), (), 7)), True)
        for steps in (*NO_INTEGERS, -7, 0, 6, 8, 1001, 10 ** 30):
            self.assertIs(accepts(LOOP, "told", with_part(paper, 5, steps)), False)
        for kind in (*STRANGE, "missed", "", "Stranger", ("stranger",), 2):
            self.assertIs(accepts(LOOP, "told", with_part(paper, 2, kind)), False)
        for row in (*NO_INTEGERS, 0, 1, 3, -1, 4, 10 ** 30):
            self.assertIs(accepts(LOOP, "told", with_part(paper, 1, row)), False)
        for place in (3, 4):
            for values in (*STRANGE, list(paper[place]), (*paper[place], 0), (2,), (True,), (1,) * 61, 1, "1"):
                self.assertIs(accepts(LOOP, "told", with_part(paper, place, values)), False)
        self.assertIs(accepts(LOOP, "first", paper), False)

    def test_a_promise_that_is_broken_by_the_first_step(self):
        program = Program([("group", "a", 0)])
        for rule in RULES:
            self.assertEqual(promise_paper(program, rule, 0), ("broken", 0, "stranger", (), (), 1))
            self.assertIs(accepts(program, rule, ("broken", 0, "stranger", (), (), 1)), True)
            for steps in (0, 2, -1, True):
                self.assertIs(accepts(program, rule, ("broken", 0, "stranger", (), (), steps)), False)

    def test_later_steps_break_a_promise_too(self):
        # The same lanes are strangers at each turn from then on, behind four rows more.
        for steps in range(1, 60):
            expected = literal_papers.broken(LOOP, "told", 2, "stranger", (), (1,), steps)
            self.assertIs(accepts(LOOP, "told", ("broken", 2, "stranger", (), (1,), steps)), expected)
            self.assertIs(expected, steps >= 7 and steps % 4 == 3)

    def test_both_kinds(self):
        found = set()
        for _, program, rule in plain_programs(300, 8):
            for row in program.groups():
                paper = promise_paper(program, rule, row)
                if paper[0] == "broken":
                    found.add((paper[2], rule))
                    other = "missed" if paper[2] == "stranger" else "stranger"
                    self.assertIs(accepts(program, rule, with_part(paper, 2, other)), False)
                    turned = ("broken", row, paper[2], paper[4], paper[3], paper[5])
                    self.assertIs(accepts(program, rule, turned), True)
                    for steps in range(1, paper[5]):
                        self.assertIs(accepts(program, rule, with_part(paper, 5, steps)), False)
                    late = with_part(paper, 5, paper[5] + 1)
                    self.assertIs(accepts(program, rule, late), literal_papers.is_accepted(program, rule, late))
        self.assertEqual(len(found), 8, found)


class TestKept(unittest.TestCase):
    PAPERS = [(TURNS, "told", 3), (TURNS, "first", 3), (LOOP, "first", 2), (AHEAD, "told", 2), (AHEAD, "least", 2),
              (EXAMPLE, "told", 2), (EXAMPLE, "greatest", 4)]

    def beside_the_words(self, program, rule, paper):
        expected = literal_papers.is_accepted(program, rule, paper)
        self.assertIs(accepts(program, rule, paper), expected, (program.rows, rule, paper))
        return expected

    def test_other_bounds(self):
        found = {True: 0, False: 0}
        for program, rule, row in self.PAPERS:
            paper = kept_paper(program, rule, row)
            for place, (state, least, greatest) in enumerate(paper[2]):
                for low in {None, least, *[number + (least or 0) for number in (-2, -1, 1)]}:
                    for high in {None, greatest, *[number + (greatest or 0) for number in (-1, 1, 2)]}:
                        bounds = [*paper[2][:place], (state, low, high), *paper[2][place + 1:]]
                        found[self.beside_the_words(program, rule, with_part(paper, 2, bounds))] += 1
        self.assertGreater(min(found.values()), 50, found)

    def test_wider_bounds_all_over(self):
        for program, rule, row in self.PAPERS:
            paper = kept_paper(program, rule, row)
            for more in (0, 1, 5):
                bounds = [(state, None if least is None else least - more, None if greatest is None else greatest + more)
                          for state, least, greatest in paper[2]]
                self.beside_the_words(program, rule, with_part(paper, 2, bounds))
            unbound = [(state, None, None) for state, _, _ in paper[2]]
            self.beside_the_words(program, rule, with_part(paper, 2, unbound))
        # Behind the last group operation nothing can break any more, so bounds may be as wide as one likes.
        paper = kept_paper(EXAMPLE, "told", 2)
        wide = [(state, -9, 9) if state[4] == "over" else (state, least, greatest) for state, least, greatest in paper[2]]
        self.assertNotEqual(wide, paper[2])
        self.assertIs(accepts(EXAMPLE, "told", with_part(paper, 2, wide)), True)

    def test_lists_and_tuples_in_any_order(self):
        for program, rule, row in self.PAPERS:
            paper = promise_paper(program, rule, row)
            if paper[0] == "broken":
                continue
            _, _, bounds, unrelated = paper
            for some in (bounds, tuple(bounds), bounds[::-1]):
                for others in (unrelated, tuple(unrelated[::-1]), [*unrelated, *unrelated]):
                    self.assertIs(accepts(program, rule, ("kept", row, some, others)), True)
            self.assertIs(accepts(program, rule, list(paper)), False)
            self.assertIs(accepts(program, rule, ("kept", row, [*bounds, bounds[0]], unrelated)), False)
            self.assertIs(accepts(program, rule, ("kept", row, [*bounds, (bounds[0][0], None, None)], unrelated)), False)
            for place, entry in enumerate(bounds):
                left = bounds[:place] + bounds[place + 1:]
                self.assertIs(accepts(program, rule, ("kept", row, left, unrelated)), False)
                for bent in (list(entry), entry[:2], (*entry, 0), entry[0], ((entry[0],), 0, 0), *STRANGE, (), "e",
                             (list(entry[0]), *entry[1:]), (entry[0], False, *entry[2:]), (*entry[:2], True),
                             (entry[0], 0.0, 0), (entry[0], "0", 0), (entry[0], 0, Everything()), (entry[0], 1, 0),
                             (entry[0], Hostile(), Hostile()), (None, *entry[1:])):
                    self.assertIs(accepts(program, rule, ("kept", row, [*left, bent], unrelated)), False, bent)

    def test_counts_begin_alike(self):
        # Nobody comes to the group operation, so that nothing else but the beginning asks for counts.
        for rows, row in (([("end",), ("group", "a", None)], 1), ([("take", "x"), ("end",), ("group", "a", 0)], 2)):
            program = Program(rows)
            for rule in RULES:
                paper = promise_paper(program, rule, row)
                self.assertEqual({entry[1:] for entry in paper[2]}, {(0, 0)})
                for least in (None, -2, -1, 0, 1, 2):
                    for greatest in (None, -1, 0, 1, 5):
                        if None in (least, greatest) or least <= greatest:
                            bent = with_part(paper, 2, [(entry[0], least, greatest) for entry in paper[2]])
                            right = (least is None or least <= 0) and (greatest is None or greatest >= 0)
                            self.assertIs(accepts(program, rule, bent), right, (least, greatest))
                            self.beside_the_words(program, rule, bent)

    def test_states_of_lanes_not_related(self):
        some = 0
        for program, rule, row in [(TURNS, "told", 3), (TURNS, "first", 3), (TURNS, "least", 3), (OWN, "first", 2)]:
            paper = kept_paper(program, rule, row)
            expected = literal_papers.is_accepted(program, rule, paper)
            self.assertIs(accepts(program, rule, paper), expected)
            for place, state in enumerate(paper[3]):
                left = [*paper[3][:place], *paper[3][place + 1:]]
                self.beside_the_words(program, rule, with_part(paper, 3, left))
                some += 1
                for bent in (list(state), state[:5], None, (state,), with_part(state, 0, True), Hostile()):
                    self.assertIs(accepts(program, rule, with_part(paper, 3, [*left, bent])), False)
            for value in (*STRANGE, "", 0, {}, {state: 0 for state in paper[3]}):
                self.assertIs(accepts(program, rule, with_part(paper, 3, value)), False)
                self.assertIs(accepts(program, rule, with_part(paper, 2, value)), False)
        self.assertGreater(some, 30)

    def test_with_states_that_nothing_comes_to(self):
        found = {True: 0, False: 0}
        for program, rule, row in self.PAPERS:
            paper = kept_paper(program, rule, row)
            told = {entry[0] for entry in paper[2]}
            for state in literal_papers.all_states(program, rule)[::29]:
                if state not in told:
                    for tie in (0, 1):
                        bent = with_part(paper, 2, [*paper[2], (state, tie, tie)])
                        found[self.beside_the_words(program, rule, bent)] += 1
                bent = with_part(paper, 3, [*paper[3], state])
                found[self.beside_the_words(program, rule, bent)] += 1
        self.assertGreater(min(found.values()), 30, found)

    def test_rows_that_are_no_group_operations(self):
        paper = promise_paper(TURNS, "told", 3)
        self.assertEqual(paper[0], "kept")
        for row in (*NO_INTEGERS, -1, 0, 1, 2, 4, 5, 6, 7, 10 ** 30):
            self.assertIs(accepts(TURNS, "told", with_part(paper, 1, row)), False)
        self.assertIs(accepts(EXAMPLE, "told", with_part(promise_paper(EXAMPLE, "told", 2), 1, 5)), False)

    def test_promises_that_are_broken_have_no_such_paper(self):
        many = 0
        for _, program, rule in plain_programs(120, 8):
            for row in program.groups():
                paper = kept_paper(program, rule, row)
                kept = Promise(program, rule, row).kept
                self.assertIs(accepts(program, rule, paper), kept)
                many += not kept
        self.assertGreater(many, 20)

    def test_any_papers_beside_the_words(self):
        found = {True: 0, False: 0}
        for chance, program, rule in plain_programs(90, 5):
            if len(program.registers) > 1 or len(program) > 4:
                continue
            every = literal_papers.all_states(program, rule)
            for row in program.groups():
                told = dict((entry[0], entry[1:]) for entry in kept_paper(program, rule, row)[2])
                others = kept_paper(program, rule, row)[3]
                for _ in range(12):
                    bounds, unrelated = dict(told), list(others)
                    for _ in range(chance.randint(0, 2)):
                        low = chance.choice([None, -1, 0, 0, 1])
                        high = chance.choice([None, 1, 0, 0, 2])
                        if None in (low, high) or low <= high:
                            bounds[chance.choice([*list(bounds), chance.choice(every)])] = (low, high)
                    if chance.random() < 0.3:
                        unrelated.append(chance.choice(every))
                    entries = [(state, *bounds[state]) for state in bounds]
                    chance.shuffle(entries)
                    found[self.beside_the_words(program, rule, ("kept", row, entries, unrelated))] += 1
        self.assertGreater(min(found.values()), 100, found)


class TestAnyValues(unittest.TestCase):
    def test_no_papers(self):
        states = Pairs(EXAMPLE, "told").states()
        values = [*STRANGE, *NO_INTEGERS, (), ("closed",), ("closed", states, states), ("goes",), ("open", states),
                  ("", states), (None, states), (Hostile(), states), (Everything(), states), ("kept", 2, states),
                  ("kept", 2, [], [], []), ("stands", (), (1,)), ("stands", (), (1,), 2, 2), ("broken", 2, "missed"),
                  ("broken", 2, "missed", (), (), 1, 1), (("closed", states),), ["closed", states], "closed", states]
        for rule in RULES:
            for value in values:
                self.assertIs(accepts(EXAMPLE, rule, value), False)
        for word, many in (("closed", 1), ("goes", 1), ("stands", 3), ("kept", 3), ("broken", 5)):
            for part in (*STRANGE, *NO_INTEGERS, 0, 1, -1, 10 ** 30):
                self.assertIs(accepts(EXAMPLE, "told", (word, *[part] * many)), False, (word, part))

    def test_other_programs_and_rules(self):
        for _, program, rule in plain_programs(40, 7):
            for paper in papers_of(program, rule):
                for other in (EXAMPLE, program.with_row(0, ("end",))):
                    for another in RULES:
                        if another not in ("told", "first") or not unnested(other, another):
                            expected = literal_papers.is_accepted(other, another, paper)
                            self.assertIs(accepts(other, another, paper), expected)

    def test_what_is_asked_is_not_changed(self):
        for program, rule in ((LOOP, "first"), (LOOP, "told"), (TURNS, "told")):
            for paper in papers_of(program, rule):
                parts = [list(part) if isinstance(part, list) else part for part in paper]
                accepts(program, rule, paper)
                self.assertEqual(parts, list(paper))


class TestVerdict(unittest.TestCase):
    def test_each_form(self):
        for paper, text in ((("closed", None), "closed"), (("goes", 3), "goes"), (("stands", 1, 2, 3), "stands"),
                            (("kept", 2, None, None), "kept 2"), (("kept", -1, 0, 0), "kept -1"),
                            (("broken", 23, Hostile(), 0, 0, 0), "broken 23")):
            self.assertEqual(verdict(paper), text)

    def test_of_all_that_is_told(self):
        for _, program, rule in plain_programs(30, 8):
            for paper in papers_of(program, rule):
                text = paper[0] if paper[0] in ("closed", "goes", "stands") else f"{paper[0]} {paper[1]}"
                self.assertEqual(verdict(paper), text)

    def test_any_values(self):
        for paper in (*STRANGE, *NO_INTEGERS, 1, "closed", ["closed", []], (), ("closed",), ("closed", [], []),
                      ("goes",), ("goes", [], 0), ("stands", (), ()), ("stands", (), (), 1, 1), ("kept", 1, []),
                      ("kept", 1, [], [], []), ("broken", 1, "missed", (), ()), ("broken", 1, "missed", (), (), 1, 1),
                      ("open", []), ("Closed", []), ("", []), (b"closed", []), (None, []), (1, []), (Hostile(), []),
                      (Everything(), []), (["closed"], [])):
            refused(self, BadPaper, paper, lambda: verdict(paper))
        for row in NO_INTEGERS:
            for paper in (("kept", row, [], []), ("broken", row, "missed", (), (), 1)):
                refused(self, BadPaper, paper, lambda: verdict(paper))


if __name__ == "__main__":
    unittest.main()
