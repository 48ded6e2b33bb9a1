"""[2], [3] and [32]: programs alike."""

import itertools
import unittest
from unittest import mock

from partedlanes import trails
from partedlanes.alike import Likeness, events_alone, is_like_table, surely_alike
from partedlanes.errors import BadData, BadNumber, BadProgram, BadRule, NotNested, NotPlain, TooLarge, Unlike
from partedlanes.lanes import Alone, Data
from partedlanes.machines import Machine
from partedlanes.programs import Program
from partedlanes.promises import keeps
from partedlanes.roads import unnested
from tests.helpers import NO_INTEGERS, STRANGE, Everything, Hostile, error_of, refused
from tests.literal import chances, some_data, some_program
from tests.test_pairs import CROSSED, EXAMPLE, RULES
from tests.test_papers import LOOP
from tests.test_roads import NO_PROGRAMS

STEERED = CROSSED.with_row(2, ("any", "x", 1, "x"))
NO_DATA = (*STRANGE, (1,), [1], 1, True, "1", Data(2), Data(0, 2))
ROUNDS = Program([("take", "x"), ("if", "x", 1, 4, 4), ("group", "see", None), ("go", 0)])
# The same events as ROUNDS, with rows of no event put in, and other registers; and the same events as LOOP.
LONGER = Program([("set", "b", 1), ("take", "a"), ("copy", "b", "a"), ("if", "b", 1, 7, 7), ("group", "see", None),
                  ("set", "a", 1), ("go", 1)], registers=("a", "b"))
LOOPING = LONGER.with_row(3, ("if", "b", 1, 5, 5))
NEVER = Program([("take", "x"), ("if", "x", 1, 4, 5), ("group", "a", None), ("go", 5), ("go", 4)])


def events_of(program, data, most):
    """The events of a lane alone, by the words of the document."""
    lane, events, passed = Alone(program, data), [], []
    while len(events) < most:
        kind = "end" if lane.row == program.end else program[lane.row][0]
        if kind in ("take", "group", "meet", "end"):
            events.append((kind, program[lane.row][1]) if kind in ("group", "meet") else (kind,))
            passed = []
            if kind == "end":
                break
        elif (lane.row, lane.registers) in passed:
            events.append(("never",))
            break
        else:
            passed.append((lane.row, lane.registers))
        lane.step()
    return events


def first_unlike(one, other, data, most=400):
    """The index of the first unlike event of lanes with these data, or None."""
    pairs = itertools.zip_longest(events_of(one, data, most), events_of(other, data, most))
    return next((index for index, (event, another) in enumerate(pairs) if event != another), None)


def place_of(program, data, index):
    """Where a lane alone is at its event with this index; if none comes, the first place to which it comes twice."""
    lane, passed, found = Alone(program, data), [], 0
    while True:
        kind = "end" if lane.row == program.end else program[lane.row][0]
        if kind in ("take", "group", "meet", "end"):
            if found == index or kind == "end":
                return (lane.row, lane.registers)
            found, passed = found + 1, []
        elif (lane.row, lane.registers) in passed:
            return (lane.row, lane.registers)
        else:
            passed.append((lane.row, lane.registers))
        lane.step()


def changed(chance, program):
    """A program with some rows otherwise, or the same one with rows that do nothing put in ahead."""
    if chance.random() < 0.3 and len(program) < 20:
        many = chance.randint(1, 3)
        rows = [("set", program.registers[0], 0)] * many
        for row in program.rows:
            if row[0] == "if":
                row = (*row[:3], row[3] + many, row[4] + many)
            rows.append(("go", row[1] + many) if row[0] == "go" else ("group", row[1], None) if row[0] == "group" else row)
        return Program(rows, registers=program.registers, values=program.size)
    for _ in range(chance.randint(0, 2)):
        word = chance.choice(program.registers)
        row = chance.choice([("take", word), ("set", word, chance.randrange(program.size)), ("end",), ("meet", "all"),
                             ("go", chance.randint(0, program.end)), ("group", "see", None), ("copy", word, word)])
        program = program.with_row(chance.randrange(len(program)), row)
    return program


def some_pairs(many):
    """Some plain programs, and others that may be alike."""
    for chance in chances(many):
        one = some_program(chance, 8)
        yield chance, one, changed(chance, one)


def marked_rounds(many, value):
    """Two programs that take on and on, and come to a group operation if certain takes are not of this value.

    These are the takes behind three rounds of so many; the one then begins anew at once, the other behind a take more.
    So they are unlike only behind six rounds, and only if the last take is not of this value.
    """
    rows = [*[("take", "x")] * many, ("if", "y", 2, many + 6, many), ("if", "y", 1, many + 4, many), ("set", "y", 1),
            ("go", 0), ("set", "y", 2), ("go", 0), ("set", "y", 0)]
    one = [*rows, ("if", "x", value, 0, 0), ("group", "a", None), ("go", 0)]
    other = [*rows, ("if", "x", value, many + 9, 0), ("group", "a", None), ("take", "x"), ("go", 0)]
    return [Program(some, registers=("x", "y"), values=3) for some in (one, other)]


class TestEvents(unittest.TestCase):
    def test_to_an_end_row_and_past_the_last_row(self):
        for rows in ([("take", "x"), ("group", "a", None), ("end",), ("take", "x")],
                     [("take", "x"), ("group", "a", None)]):
            self.assertEqual(events_alone(Program(rows), Data(1), 10), [("take",), ("group", "a"), ("end",)])
        self.assertEqual(events_alone(Program([("end",)]), Data(), 10), [("end",)])
        self.assertEqual(events_alone(Program([("go", 1)]), Data(), 10), [("end",)])

    def test_for_ever(self):
        self.assertEqual(events_alone(Program([("go", 0)]), Data(), 10), [("never",)])
        self.assertEqual(events_alone(NEVER, Data(1), 10), [("take",), ("never",)])
        self.assertEqual(events_alone(NEVER, Data(), 10), [("take",), ("group", "a"), ("end",)])
        # Registers change a while before nothing is new any more.
        rows = [("if", "x", 0, 3, 0), ("if", "y", 0, 5, 0), ("go", 0), ("set", "x", 1), ("go", 1), ("set", "y", 1), ("go", 0)]
        self.assertEqual(events_alone(Program(rows, registers=("x", "y")), Data(), 10), [("never",)])

    def test_rounds_with_events_are_not_never(self):
        self.assertEqual(events_alone(Program([("meet", "m"), ("go", 0)]), Data(), 5), [("meet", "m")] * 5)
        self.assertEqual(len(events_alone(LOOP, Data(), 1000)), 1000)

    def test_most(self):
        told = events_alone(ROUNDS, Data(0, 0, 0, 1), 1000)
        self.assertEqual(told, [("take",), ("group", "see")] * 3 + [("take",), ("end",)])
        for most in range(12):
            self.assertEqual(events_alone(ROUNDS, Data(0, 0, 0, 1), most), told[:most])

    def test_beside_the_words(self):
        for chance in chances(200):
            program = some_program(chance, 12)
            data = some_data(chance, program.size, 10)
            for most in (0, 1, 3, 60):
                self.assertEqual(events_alone(program, data, most), events_of(program, data, most))

    def test_exceptions_in_order(self):
        for program in NO_PROGRAMS:
            refused(self, BadProgram, program, lambda: events_alone(program, None, None))
        self.assertEqual(error_of(self, NotPlain, lambda: events_alone(STEERED, None, None)), 2)
        for data in NO_DATA:
            refused(self, BadData, data, lambda: events_alone(LOOP, data, None))
        for most in (*NO_INTEGERS, -1, 1001, 10 ** 30):
            refused(self, BadNumber, most, lambda: events_alone(LOOP, Data(1), most))
        self.assertEqual(events_alone(Program([("take", "x")], values=3), Data(2), 5), [("take",), ("end",)])

    def test_names_of_arguments(self):
        events = events_alone(most=2, data=Data(), program=LOOP)
        events.clear()
        self.assertEqual(events_alone(LOOP, Data(), 2), [("take",), ("group", "see")])


class TestExceptions(unittest.TestCase):
    def functions(self):
        return (Likeness, lambda one, other: is_like_table(one, other, None),
                lambda one, other: surely_alike(one, None, other, None))

    def test_in_order(self):
        for function in self.functions():
            for program in NO_PROGRAMS:
                refused(self, BadProgram, program, lambda: function(program, None))
                refused(self, BadProgram, program, lambda: function(ROUNDS, program))
            self.assertEqual(error_of(self, NotPlain, lambda: function(STEERED, None)), 2)
            self.assertEqual(error_of(self, NotPlain, lambda: function(ROUNDS, STEERED)), 2)
            other = Program(ROUNDS.rows, values=3)
            refused(self, Unlike, other, lambda: function(ROUNDS, other))
            refused(self, Unlike, ROUNDS, lambda: function(other, ROUNDS))
            steered = Program(STEERED.rows, values=3)
            self.assertEqual(error_of(self, NotPlain, lambda: function(ROUNDS, steered)), 2)

    def test_wrong_data(self):
        likeness = Likeness(ROUNDS, ROUNDS)
        for data in NO_DATA:
            refused(self, BadData, data, lambda: likeness(data))
        self.assertIsNone(Likeness(Program(ROUNDS.rows, values=3), Program(ROUNDS.rows, values=3))(Data(2)))

    def test_names_of_arguments(self):
        likeness = Likeness(other=LONGER, one=ROUNDS)
        self.assertIs(likeness.is_alike(), True)
        self.assertIsNone(likeness(data=Data(1)))
        self.assertIs(is_like_table(table=likeness.table(), other=LONGER, one=ROUNDS), True)
        self.assertIs(surely_alike(other_rule="first", other=LOOPING, rule="first", one=LOOP), True)


class TestLikeness(unittest.TestCase):
    def test_a_program_with_itself(self):
        for chance in chances(60):
            program = some_program(chance, 10)
            likeness = Likeness(program, program)
            self.assertIs(likeness.is_alike(), True)
            self.assertIsNone(likeness.difference())
            self.assertTrue(all(node[:2] == node[2:] for node in likeness.table()))

    def test_rows_of_no_event_put_in(self):
        for one, other in ((ROUNDS, LONGER), (LONGER, ROUNDS)):
            self.assertIs(Likeness(one, other).is_alike(), True)
        self.assertEqual(Likeness(ROUNDS, LONGER).table(), [
            (0, (0,), 1, (0, 1)), (0, (0,), 1, (1, 0)), (2, (0,), 4, (0, 0)), (4, (1,), 7, (1, 1))])

    def test_unlike_at_once(self):
        for one, other in (([("take", "x")], [("end",)]), ([("group", "a", None)], [("group", "b", None)]),
                           ([("group", "a", None)], [("meet", "a")]), ([("go", 0)], [("end",)]),
                           ([("go", 0)], [("take", "x")])):
            likeness = Likeness(Program(one), Program(other))
            self.assertIs(likeness.is_alike(), False)
            self.assertEqual(likeness.difference(), (Data(), 0))
            self.assertEqual(likeness.table(), [])
            self.assertEqual([likeness(Data()), likeness(Data(1, 1))], [0, 0])

    def test_anchors_and_joins_are_no_events(self):
        one = Program([("take", "x"), ("if", "x", 1, 3, 0), ("group", "a", 0), ("meet", "m")])
        other = one.with_row(1, ("if", "x", 1, 3, 4)).with_row(2, ("group", "a", None))
        self.assertIs(Likeness(one, other).is_alike(), True)

    def test_ends_are_alike(self):
        one = Program([("take", "x"), ("if", "x", 1, 3, 3), ("end",)])
        other = Program([("take", "x"), ("end",)])
        self.assertIs(Likeness(one, other).is_alike(), True)
        self.assertEqual(Likeness(one, other).table(),
                         [(0, (0,), 0, (0,)), (2, (0,), 1, (0,)), (3, (1,), 1, (1,))])

    def test_unlike_later(self):
        rows = [("take", "x"), ("take", "x"), ("if", "x", 1, 4, 4), ("end",), ("group", "a", None)]
        likeness = Likeness(Program(rows), Program([*rows[:4], ("meet", "a")]))
        self.assertEqual(likeness.difference(), (Data(0, 1), 2))
        self.assertEqual([likeness(Data(0, 1)), likeness(Data(1, 1)), likeness(Data(1)), likeness(Data())],
                         [2, 2, None, None])

    def test_never(self):
        ended = Program([("take", "x"), ("if", "x", 1, 3, 3), ("group", "a", None)])
        likeness = Likeness(NEVER, ended)
        self.assertEqual(likeness.difference(), (Data(1), 1))
        self.assertEqual([likeness(Data(1)), likeness(Data())], [1, None])
        # Two that go on for ever, over other rows: each is told where it comes twice first.
        other = Program([("take", "x"), ("if", "x", 1, 4, 4), ("group", "a", None), ("end",), ("set", "x", 0), ("go", 4)])
        likeness = Likeness(NEVER, other)
        self.assertIs(likeness.is_alike(), True)
        self.assertEqual(likeness.table(), [(0, (0,), 0, (0,)), (2, (0,), 2, (0,)), (4, (1,), 5, (0,)), (5, (0,), 3, (0,))])

    def test_beside_the_words(self):
        found = {True: 0, False: 0}
        for chance, one, other in some_pairs(500):
            likeness = Likeness(one, other)
            datas = [some_data(chance, one.size, 7) for _ in range(4)]
            for data in datas:
                self.assertEqual(likeness(data), first_unlike(one, other, data), (one.rows, other.rows, data))
            difference = likeness.difference()
            found[difference is None] += 1
            self.assertIs(likeness.is_alike(), difference is None)
            if difference is not None:
                data, index = difference
                self.assertEqual([likeness(data), first_unlike(one, other, data)], [index, index])
                self.assertTrue(all(likeness(data) is None or likeness(data) >= index for data in datas))
        self.assertGreater(min(found.values()), 50, found)

    def test_the_least_index(self):
        for _, one, other in some_pairs(150):
            likeness = Likeness(one, other)
            longest = 4 if one.size == 2 else 3
            some = [first_unlike(one, other, Data(*values)) for values in
                    itertools.product(range(one.size), repeat=longest)]
            indexes = [index for index in some if index is not None]
            if likeness.is_alike():
                self.assertEqual(indexes, [])
            elif indexes:
                self.assertLessEqual(likeness.difference()[1], min(indexes))

    def test_the_places_of_tables(self):
        for chance, one, other in some_pairs(200):
            likeness = Likeness(one, other)
            if likeness.is_alike():
                table = likeness.table()
                self.assertEqual(table, sorted(set(table)))
                met = set()
                for _ in range(6):
                    data = some_data(chance, one.size, 5)
                    for index in range(12):
                        met.add((*place_of(one, data, index), *place_of(other, data, index)))
                self.assertLessEqual(met, set(table))

    def test_too_large(self):
        for many in (9, 10):
            likeness = Likeness(*marked_rounds(many, 0))
            data, index = likeness.difference()
            self.assertEqual([len(data), index, likeness(data)], [6 * many, 6 * many, 6 * many])
        one, other = marked_rounds(11, 0)
        likeness = Likeness(one, other)
        self.assertIs(likeness.is_alike(), False)
        self.assertEqual(error_of(self, TooLarge, likeness.difference), 60)
        self.assertEqual([likeness.table(), likeness(Data())], [[], None])
        data = Data(*[1] * 60)
        self.assertEqual(likeness(data), first_unlike(one, other, data))

    def test_too_large_by_one(self):
        one = Program([("take", "x"), ("take", "x"), ("if", "x", 1, 4, 4), ("end",), ("group", "a", None)])
        other = one.with_row(4, ("group", "b", None))
        for most in (1, 2):
            with mock.patch.object(trails, "MOST_VALUES", most):
                if most == 2:
                    self.assertEqual(Likeness(one, other).difference(), (Data(0, 1), 2))
                else:
                    self.assertEqual(error_of(self, TooLarge, Likeness(one, other).difference), 1)

    def test_zeros_at_the_end_do_not_count(self):
        # Lanes are unlike behind 66 takes, the last of which may be 0; only that behind three rounds may not.
        likeness = Likeness(*marked_rounds(11, 1))
        data, index = likeness.difference()
        self.assertEqual([len(data), index, likeness(data)], [33, 66, 66])

    def test_lists_are_new(self):
        likeness = Likeness(ROUNDS, LONGER)
        likeness.table().clear()
        self.assertEqual(len(likeness.table()), 4)


class TestTables(unittest.TestCase):
    TABLE = Likeness(ROUNDS, LONGER).table()

    def check(self, table, expected):
        self.assertIs(is_like_table(ROUNDS, LONGER, table), expected, table)

    def test_lists_and_tuples_turned_about_and_doubled(self):
        for table in (self.TABLE, tuple(self.TABLE), self.TABLE[::-1], self.TABLE * 2, [*self.TABLE, self.TABLE[1]]):
            self.check(table, True)

    def test_a_place_left_out(self):
        for place in range(len(self.TABLE)):
            self.check(self.TABLE[:place] + self.TABLE[place + 1:], False)
        self.check([], False)

    def test_a_place_put_in(self):
        for node, expected in (((0, (1,), 1, (1, 1)), True), ((4, (0,), 7, (0, 0)), True), ((4, (1,), 7, (0, 1)), True),
                               ((0, (0,), 7, (0, 0)), False), ((2, (0,), 4, (0, 1)), False), ((2, (0,), 4, (1, 1)), False), ((0, (0,), 1, (1, 1)), True),
                               ((1, (0,), 1, (0, 0)), False), ((0, (0,), 0, (0, 0)), False), ((3, (0,), 1, (0, 0)), False),
                               ((3, (0,), 5, (0, 0)), False)):
            self.check([*self.TABLE, node], expected)

    def test_places_where_no_event_comes_any_more(self):
        one = Program([("take", "x"), ("if", "x", 1, 3, 5), ("go", 5), ("set", "x", 0), ("go", 3)])
        table = Likeness(one, one).table()
        self.assertEqual(table, [(0, (0,), 0, (0,)), (4, (0,), 4, (0,)), (5, (0,), 5, (0,))])
        for node, expected in (((3, (1,), 4, (1,)), True), ((3, (0,), 3, (1,)), True), ((1, (1,), 3, (0,)), True),
                               ((1, (0,), 3, (0,)), False), ((1, (0,), 1, (0,)), False), ((2, (0,), 2, (0,)), False)):
            self.assertIs(is_like_table(one, one, [*table, node]), expected, node)
            if expected:
                # The place that is told is the first one that comes twice, not any other one.
                self.assertIs(is_like_table(one, one, [table[0], node, table[2]]), False)

    def test_bent_places(self):
        for place, node in enumerate(self.TABLE):
            wrong = [*STRANGE, list(node), node[:3], (*node, 0), (node[:2], node[2:]), node[0], (), [], "node",
                     (str(node[0]), *node[1:]), (float(node[0]), *node[1:]), (*node[:2], float(node[2]), node[3]),
                     (-1, *node[1:]), (5, *node[1:]), (*node[:2], 8, node[3]), (*node[:2], -1, node[3]),
                     (node[0], list(node[1]), *node[2:]), (node[0], (), *node[2:]), (node[0], (0, 0), *node[2:]),
                     (*node[:3], (0,)), (*node[:3], list(node[3])), (*node[:3], (0, 2)), (node[0], (True,), *node[2:]),
                     (node[0], (False,), *node[2:]), (*node[:3], (False, True)), (Everything(), *node[1:]),
                     (node[0], Everything(), *node[2:]), (node[0], (Hostile(),), *node[2:]), (*node[:3], Hostile())]
            wrong += [(bool(node[0]), *node[1:])] if node[0] in (0, 1) else []
            for bent in wrong:
                self.check([*self.TABLE[:place], bent, *self.TABLE[place + 1:]], False)
                self.check([*self.TABLE, bent], False)

    def test_any_values(self):
        for table in (*STRANGE, *NO_INTEGERS, 1, "table", {node: 0 for node in self.TABLE}):
            self.check(table, False)

    def test_of_programs_that_are_not_alike(self):
        for chance, one, other in some_pairs(150):
            likeness = Likeness(one, other)
            places = [list(itertools.product(range(program.end + 1), program.classes())) for program in (one, other)]
            every = [(*place, *another) for place in places[0] for another in places[1]]
            some = [node for node in every
                    if events_at(one, node[:2]) == events_at(other, node[2:]) and events_at(one, node[:2]) is not None]
            self.assertIs(likeness.is_alike() or not is_like_table(one, other, some), True)
            self.assertIs(is_like_table(one, other, closed(one, other, some)), likeness.is_alike())
            if likeness.is_alike():
                table = likeness.table()
                self.assertIs(is_like_table(one, other, table), True)
                place = chance.randrange(len(table))
                self.assertIs(is_like_table(one, other, table[:place] + table[place + 1:]), False)


def events_at(program, place):
    """The event at a place, ("never",) where none comes any more; None where one comes later."""
    lane = Alone(program, Data())
    lane.row, lane.registers = place
    passed = []
    while (lane.row, lane.registers) not in passed:
        kind = "end" if lane.row == program.end else program[lane.row][0]
        if kind in ("take", "group", "meet", "end"):
            named = (kind, program[lane.row][1]) if kind in ("group", "meet") else (kind,)
            return None if passed else named
        passed.append((lane.row, lane.registers))
        lane.step()
    return ("never",)


def next_place(program, place, value):
    """The place of the next event behind one, where a take takes this value."""
    lane = Alone(program, Data(value))
    lane.row, lane.registers = place
    lane.step()
    passed = []
    while events_at(program, (lane.row, lane.registers)) in (None, ("never",)):
        if (lane.row, lane.registers) in passed:
            break
        passed.append((lane.row, lane.registers))
        lane.step()
    return (lane.row, lane.registers)


def closed(one, other, nodes):
    """Those of the nodes with which, again and again, all that come behind are there, too."""
    behind = {}
    for node in nodes:
        values = [] if events_at(one, node[:2])[0] in ("end", "never") else range(one.size)
        behind[node] = {(*next_place(one, node[:2], value), *next_place(other, node[2:], value)) for value in values}
    gone = True
    while gone:
        gone = [node for node in behind if not behind[node] <= set(behind)]
        for node in gone:
            del behind[node]
    return list(behind)


class TestSurely(unittest.TestCase):
    def test_pairs_of_rules(self):
        for rule in RULES:
            for other_rule in RULES:
                expected = keeps(LOOP, rule) and keeps(LOOPING, other_rule)
                self.assertIs(surely_alike(LOOP, rule, LOOPING, other_rule), expected)
                self.assertIs(surely_alike(EXAMPLE, rule, EXAMPLE, other_rule), True)
        self.assertEqual([rule for rule in RULES if keeps(LOOP, rule)], ["first"])

    def test_programs_that_are_not_alike(self):
        other = LOOP.with_row(2, ("group", "other", None))
        self.assertIs(surely_alike(LOOP, "first", other, "first"), False)

    def test_a_word_twice(self):
        rows = [("take", "x"), ("group", "a", None), ("group", "a", None)]
        one = Program(rows)
        other = Program([*rows[:2], ("group", "b", None)])
        for rule in RULES:
            self.assertTrue(keeps(one, rule))
            self.assertIs(surely_alike(one, rule, one, rule), False)
            self.assertIs(surely_alike(other, rule, other, rule), True)
        # A meeting may have the word of a group operation, or of another meeting.
        meets = Program([("group", "a", None), ("meet", "a"), ("meet", "a")])
        self.assertIs(surely_alike(meets, "told", meets, "least"), True)

    def test_an_anchor(self):
        plain = Program([("take", "x"), ("group", "a", None)])
        for anchor in (0, 1):
            anchored = Program([("take", "x"), ("group", "a", anchor)])
            self.assertIs(surely_alike(plain, "told", anchored, "told"), False)
            self.assertIs(surely_alike(anchored, "told", plain, "told"), False)
        self.assertIs(surely_alike(plain, "told", plain, "told"), True)

    def test_exceptions_behind_those_of_likeness(self):
        for rule in (*STRANGE, "", "Told", ("told",), 0, True):
            refused(self, BadRule, rule, lambda: surely_alike(LOOP, rule, LOOPING, None))
            refused(self, BadRule, rule, lambda: surely_alike(LOOP, "told", LOOPING, rule))
            refused(self, BadRule, rule, lambda: surely_alike(LOOP, "first", LOOPING, rule))
        self.assertEqual(error_of(self, NotNested, lambda: surely_alike(CROSSED, "told", CROSSED, None)), (0, 1))
        self.assertEqual(error_of(self, NotNested, lambda: surely_alike(CROSSED, "first", CROSSED, "told")), (0, 1))
        self.assertIs(surely_alike(CROSSED, "first", CROSSED, "least"), True)

    def test_no_exceptions_unless_they_are_alike_with_such_words(self):
        anchored = Program([("take", "x"), ("group", "a", 0)])
        twice = Program([("group", "a", None), ("group", "a", None)])
        for one, other in ((LOOP, EXAMPLE), (anchored, anchored), (twice, twice), (CROSSED, LOOP)):
            self.assertIs(surely_alike(one, None, other, Hostile()), False)

    def test_lanes_that_come_together_in_both(self):
        many = 0
        for chance, one, other in some_pairs(400):
            rule, other_rule = chance.choice(RULES), chance.choice(RULES)
            if any(one_rule in ("told", "first") and unnested(program, one_rule)
                   for program, one_rule in ((one, rule), (other, other_rule))):
                continue
            if surely_alike(one, rule, other, other_rule) and one.groups():
                many += 1
                datas = [some_data(chance, one.size, 5) for _ in range(chance.randint(2, 5))]
                told = []
                for program, one_rule in ((one, rule), (other, other_rule)):
                    machine = Machine(program, datas, rule=one_rule)
                    machine.go(600)
                    times, seen = {}, {}
                    for row, lanes in machine.events():
                        if program[row][0] == "group":
                            for lane in lanes:
                                key = (lane, program[row][1])
                                times[key] = times.get(key, 0) + 1
                                seen[(*key, times[key])] = lanes
                    told.append(seen)
                for key in told[0]:
                    if key in told[1]:
                        self.assertEqual(told[0][key], told[1][key])
        self.assertGreater(many, 20)


if __name__ == "__main__":
    unittest.main()
