"""[2], [3] and [15] to [17]: promises."""

import unittest

from partedlanes.errors import BadNumber, BadPromise, NotNested, TooLarge
from partedlanes.lanes import Data
from partedlanes.pairs import Pairs
from partedlanes.programs import Program
from partedlanes.promises import Promise, broken_rows, keeps
from tests.helpers import NO_INTEGERS, STRANGE, Everything, error_of, refused
from tests.literal import Watch, chances, some_data, some_program
from tests.test_pairs import CROSSED, RULES, lanes_of, plain_programs, slow

EXAMPLE = Program([("take", "x"), ("if", "x", 1, 3, 3), ("group", "see", None), ("go", 0)])

# A loop whose lanes leave it when they take 1; the group operation in it has the branch as its anchor.
TURNS = Program([("take", "x"), ("if", "x", 1, 5, 5), ("group", "turn", 1), ("take", "x"), ("go", 1), ("end",)])


class TestArguments(unittest.TestCase):
    def test_wrong_rows(self):
        for row in (-1, 0, 1, 3, 4, 5, *NO_INTEGERS):
            for rule in RULES:
                refused(self, BadNumber, row, lambda: Promise(EXAMPLE, rule, row))
        crossed = CROSSED.with_row(2, ("group", "a", None))
        error_of(self, NotNested, lambda: Promise(crossed, "told", None))

    def test_names_of_arguments(self):
        promise = Promise(program=EXAMPLE, rule="first", row=2)
        self.assertIs(promise.at_least(other=promise), True)
        self.assertIs(keeps(program=EXAMPLE, rule="first"), True)
        self.assertEqual(broken_rows(program=EXAMPLE, rule="told"), [2])

    def test_properties(self):
        promise = Promise(EXAMPLE, "told", 2)
        self.assertEqual([promise.row, promise.anchor, promise.kept], [2, None, False])
        promise = Promise(TURNS, "told", 2)
        self.assertEqual([promise.row, promise.anchor, promise.kept], [2, 1, True])
        self.assertIs(promise.kept, True)


class TestExamples(unittest.TestCase):
    def test_example_of_the_document(self):
        promise = Promise(EXAMPLE, "told", 2)
        self.assertEqual([promise.kept, promise.broken()[3], promise.kept_by()], [False, 7, ["first"]])
        self.assertEqual(promise.broken()[0], "stranger")

    def test_kept_without_an_anchor(self):
        program = Program([("take", "x"), ("group", "a", None), ("if", "x", 1, 4, 4), ("group", "b", None), ("end",)])
        for rule in RULES:
            for row in (1, 3):
                promise = Promise(program, rule, row)
                self.assertEqual([promise.kept, promise.broken(), promise.unrelated()], [True, None, []])
                self.assertEqual(promise.kept_by(), list(RULES))
            self.assertIs(keeps(program, rule), True)
            self.assertEqual(broken_rows(program, rule), [])

    def test_a_stranger_with_unlike_counts(self):
        # One lane does the row twice, then both do it: the second time of the one is the first of the other.
        rows = [("take", "x"), ("if", "x", 1, 3, 3), ("group", "a", None), ("set", "x", 1), ("go", 2)]
        promise = Promise(Program(rows), "told", 2)
        self.assertEqual(promise.broken()[0], "stranger")
        self.assertEqual(promise.broken()[3], 6)
        self.assertEqual(sorted([len(promise.broken()[1]), len(promise.broken()[2])]), [0, 1])

    def test_a_stranger_that_is_not_related(self):
        # The anchor is done apart, the group operation behind the join together.
        rows = [("take", "x"), ("if", "x", 1, 4, 5), ("set", "x", 0), ("go", 4), ("set", "x", 1), ("group", "a", 4),
                ("end",)]
        promise = Promise(Program(rows), "told", 5)
        kind, one, other, steps = promise.broken()
        self.assertEqual([kind, steps, sorted([len(one), len(other)])], ["stranger", 7, [0, 1]])
        self.assertEqual(broken_rows(Program(rows), "told"), [5])
        self.assertEqual(Promise(Program(rows), "least", 5).kept, True)

    def test_not_related_before_the_anchor(self):
        rows = [("group", "a", 1), ("set", "x", 1)]
        for rule in RULES:
            promise = Promise(Program(rows), rule, 0)
            self.assertEqual(promise.broken(), ("stranger", Data(), Data(), 1))
            self.assertEqual(promise.unrelated(), [(0, (0,), 0, (0,), "both", 2), (1, (0,), 1, (0,), "both", 2)])
            self.assertEqual(promise.bounds(), [((2, (1,), 2, (1,), "over", 2), 0, 0)])

    def test_a_lane_that_missed_the_other_one(self):
        # The lane that takes 0 does the row first, the other one does it alone behind it.
        rows = [("take", "x"), ("if", "x", 1, 4, 6), ("group", "a", None), ("end",), ("go", 2), ("end",)]
        promise = Promise(Program(rows), "told", 2)
        kind, one, other, steps = promise.broken()
        self.assertEqual([kind, steps, sorted([len(one), len(other)])], ["missed", 6, [0, 1]])
        self.assertEqual(promise.kept_by(), ["first", "greatest"])

    def test_missed_by_one_that_has_ended(self):
        rows = [("take", "x"), ("if", "x", 1, 4, 5), ("group", "a", None), ("end",), ("go", 2)]
        promise = Promise(Program(rows), "told", 2)
        kind, one, other, steps = promise.broken()
        lanes = lanes_of(Program(rows), [one, other], "told")
        for _ in range(steps - 1):
            lanes.step()
        self.assertEqual([kind, len(lanes.alive())], ["missed", 1])

    def test_one_that_did_it_more_often_may_do_it_alone(self):
        rows = [("take", "x"), ("group", "a", None), ("if", "x", 1, 4, 4), ("group", "b", None), ("end",)]
        self.assertIs(Promise(Program(rows), "told", 3).kept, True)
        bounds = dict((state, (least, greatest)) for state, least, greatest in Promise(Program(rows), "told", 3).bounds())
        self.assertEqual(bounds[(4, (0,), 4, (1,), "both", 5)], (1, 1))
        self.assertEqual(bounds[(4, (1,), 4, (0,), "both", 5)], (-1, -1))
        self.assertEqual(bounds[(4, (0,), 4, (0,), "both", 5)], (0, 0))

    def test_an_anchor_in_a_loop(self):
        for rule in ("told", "first", "least"):
            self.assertIs(Promise(TURNS, rule, 2).kept, True, rule)
        promise = Promise(TURNS, "told", 2)
        nought, one = (0,), (1,)
        self.assertEqual(promise.unrelated()[:4], [
            (0, nought, 0, nought, "both", 6), (1, nought, 1, nought, "both", 6), (1, nought, 1, one, "both", 6),
            (1, nought, 5, one, "first", 5),
        ])
        bounds = {state: ties for state, *ties in promise.bounds()}
        self.assertEqual(bounds[(2, nought, 2, nought, "both", 6)], [0, 0])
        self.assertEqual(bounds[(2, nought, 5, one, "first", 5)], [0, 0])
        self.assertEqual(bounds[(3, nought, 5, one, "first", 5)], [1, 1])
        self.assertEqual(bounds[(5, one, 4, one, "second", 5)], [-1, -1])
        self.assertEqual(bounds[(1, nought, 1, one, "both", 6)], [0, 0])
        # Behind one turn alone the other lane did not do the branch with it.
        self.assertEqual(bounds[(1, nought, 5, one, "first", 5)], [1, 1])
        self.assertIn((2, nought, 5, one, "first", 5), promise.unrelated())

    def test_related_until_one_does_the_anchor_alone(self):
        rows = [("take", "x"), ("set", "y", 0), ("if", "x", 1, 4, 5), ("go", 1), ("go", 5), ("group", "a", 1)]
        program = Program(rows, registers=("x", "y"))
        promise = Promise(program, "told", 5)
        unrelated = promise.unrelated()
        self.assertIn((1, (0, 0), 1, (1, 0), "both", 6), unrelated)
        related = [state for state, _, _ in promise.bounds()]
        self.assertIn((2, (0, 0), 2, (1, 0), "both", 6), related)
        self.assertNotIn((2, (0, 0), 2, (1, 0), "both", 6), unrelated)
        self.assertIn((2, (0, 0), 4, (1, 0), "first", 5), unrelated)
        self.assertNotIn((2, (0, 0), 4, (1, 0), "first", 5), related)

    def test_its_own_anchor(self):
        # Done together it begins anew behind itself; ahead of the first time nobody is related.
        program = Program([("take", "x"), ("group", "a", 1), ("go", 0)])
        for rule in RULES:
            promise = Promise(program, rule, 1)
            self.assertEqual(promise.broken(), ("stranger", Data(), Data(), 2))
            self.assertEqual([bound[1:] for bound in promise.bounds()], [(0, 0)] * len(promise.bounds()))
            self.assertEqual(len(promise.unrelated()), 5)
            self.assertEqual(len(promise.bounds()), 12)
        alone = Program([("take", "x"), ("if", "x", 1, 3, 4), ("go", 4), ("group", "a", 3)])
        self.assertEqual(Promise(alone, "told", 3).broken()[0], "stranger")

    def test_its_own_anchor_that_nobody_does_together(self):
        rows = [("take", "x"), ("if", "x", 1, 3, 5), ("go", 5), ("if", "x", 1, 5, 5), ("group", "a", 4)]
        promise = Promise(Program(rows), "told", 4)
        self.assertEqual([promise.kept, promise.bounds(), promise.broken()], [True, [], None])

    def test_no_least_and_no_greatest(self):
        # A lane that takes 1 goes round alone for ever once the other one has ended.
        rows = [("take", "x"), ("if", "x", 1, 3, 4), ("end",), ("group", "a", None), ("go", 3)]
        promise = Promise(Program(rows), "told", 3)
        bounds = dict((state, (least, greatest)) for state, least, greatest in promise.bounds())
        self.assertEqual(bounds[(3, (1,), 5, (0,), "first", 5)], (0, None))
        self.assertEqual(bounds[(5, (0,), 3, (1,), "second", 5)], (None, 0))
        self.assertEqual(bounds[(4, (1,), 5, (0,), "first", 5)], (1, None))
        self.assertEqual(bounds[(3, (1,), 3, (1,), "both", 5)], (0, 0))
        self.assertIs(promise.kept, True)

    def test_neither_least_nor_greatest(self):
        bounds = Promise(EXAMPLE, "told", 2).bounds()
        self.assertEqual(len(bounds), 15)
        self.assertTrue(all(bound[1:] == (None, None) for bound in bounds))


class TestPromise(unittest.TestCase):
    def test_at_least(self):
        kept, broken = Promise(EXAMPLE, "first", 2), Promise(EXAMPLE, "told", 2)
        self.assertEqual([kept.at_least(kept), kept.at_least(broken), broken.at_least(kept), broken.at_least(broken)],
                         [True, True, False, True])
        for other in (*STRANGE, EXAMPLE, 1, True, "told", [kept], Pairs(EXAMPLE, "told")):
            refused(self, BadPromise, other, lambda: kept.at_least(other))

    def test_equality(self):
        two = Program([("group", "a", None), ("group", "b", None)])
        self.assertEqual(Promise(two, "told", 0), Promise(two, "told", 0))
        self.assertNotEqual(Promise(two, "told", 0), Promise(two, "told", 1))
        self.assertNotEqual(Promise(two, "told", 0), Promise(two, "first", 0))
        self.assertNotEqual(Promise(two, "told", 0), Promise(two.with_row(1, ("go", 2)), "told", 0))
        for other in (None, 0, two, Pairs(two, "told"), Everything()):
            self.assertIs(Promise(two, "told", 0) == other, False)
            self.assertIs(Promise(two, "told", 0) != other, True)

    def test_kept_by_leaves_out_rules_that_cannot_be_judged(self):
        program = CROSSED.with_row(2, ("group", "a", None))
        self.assertEqual(Promise(program, "first", 2).kept_by(), [
            rule for rule in ("first", "least", "greatest") if Promise(program, rule, 2).kept
        ])
        self.assertNotIn("told", Promise(program, "least", 2).kept_by())
        self.assertIn("least", Promise(program, "first", 2).kept_by())

    def test_kept_by_in_order(self):
        for _, program, rule in plain_programs(25, 8):
            for row in program.groups():
                kept = []
                for other in RULES:
                    try:
                        kept += [other] if Promise(program, other, row).kept else []
                    except NotNested:
                        pass
                self.assertEqual(Promise(program, rule, row).kept_by(), kept)

    def test_lists_are_new(self):
        promise = Promise(EXAMPLE, "told", 2)
        tellers = (promise.bounds, promise.unrelated, promise.kept_by, lambda: broken_rows(EXAMPLE, "told"))
        for teller in tellers:
            before = teller()
            self.assertIsInstance(before, list)
            teller().append(None)
            self.assertEqual(teller(), before)

    def test_keeps_and_broken_rows(self):
        rows = [("take", "x"), ("if", "x", 1, 3, 3), ("group", "a", None), ("group", "b", None), ("group", "c", 0)]
        program = Program([*rows, ("go", 0)])
        self.assertEqual(broken_rows(program, "told"), [2])
        self.assertIs(keeps(program, "told"), False)
        self.assertEqual(broken_rows(Program(rows), "told"), [])
        self.assertIs(keeps(Program(rows), "told"), True)
        self.assertIs(keeps(Program([("end",)]), "least"), True)
        self.assertEqual(broken_rows(Program([("end",)]), "least"), [])

    def test_the_program_is_not_changed(self):
        before = Program(EXAMPLE.rows)
        Promise(EXAMPLE, "told", 2).bounds()
        keeps(EXAMPLE, "least")
        self.assertEqual(EXAMPLE, before)

    def test_just_sixty_values(self):
        promise = Promise(slow(10), "told", 22)
        kind, one, other, steps = promise.broken()
        self.assertEqual([kind, len(one), len(other), steps], ["stranger", 60, 60, 94])
        self.check_broken(slow(10), "told", 22)

    def test_more_than_sixty_values(self):
        promise = Promise(slow(11), "told", 23)
        self.assertIs(promise.kept, False)
        self.assertEqual(error_of(self, TooLarge, promise.broken), 60)
        self.assertEqual(broken_rows(slow(11), "told"), [23])

    def check_broken(self, program, rule, row):
        """What broken() tells breaks the promise at just this step."""
        promise = Promise(program, rule, row)
        kind, one, other, steps = promise.broken()
        lanes, watch = lanes_of(program, [one, other], rule), Watch(2, row, promise.anchor)
        for step in range(1, steps + 1):
            _, done, together = lanes.step()
            self.assertEqual(watch.see(done, together), [kind] if step == steps else [], (program.rows, rule, row))

    def test_what_is_broken_is_broken_in_the_fewest_steps(self):
        many = 0
        for _, program, rule in plain_programs(80, 8):
            for row in program.groups():
                promise = Promise(program, rule, row)
                self.assertEqual(promise.broken() is None, promise.kept)
                fewest = self.fewest_steps(program, rule, promise)
                self.assertEqual(fewest, None if promise.kept else promise.broken()[3], (program.rows, rule, row))
                if not promise.kept:
                    many += 1
                    self.check_broken(program, rule, row)
        self.assertGreater(many, 50)

    def fewest_steps(self, program, rule, promise):
        """The fewest steps by going from one pair state to the next, with differences of at most 9."""
        pairs = Pairs(program, rule)
        layer = {(pairs.start, 0 if promise.anchor is None else None)}
        seen, steps = set(layer), 1
        while layer:
            if any(breaks(pairs, promise.row, *node) for node in layer):
                return steps
            layer = {later for node in layer for later in behind(pairs, promise, *node)} - seen
            seen |= layer
            steps += 1
        return None

    def test_bounds_and_unrelated(self):
        for _, program, rule in plain_programs(60, 8):
            for row in program.groups():
                promise, pairs = Promise(program, rule, row), Pairs(program, rule)
                seen, left = set(), [(pairs.start, 0 if promise.anchor is None else None)]
                while left:
                    node = left.pop()
                    if node not in seen:
                        seen.add(node)
                        left += behind(pairs, promise, *node)
                self.assertEqual(promise.unrelated(), sorted(state for state, tie in seen if tie is None))
                ties = {}
                for state, tie in seen:
                    if tie is not None:
                        ties.setdefault(state, []).append(tie)
                # What comes near to the limit of 9 has no bound in programs of this size.
                expected = [(state, None if min(ties[state]) < -5 else min(ties[state]),
                             None if max(ties[state]) > 5 else max(ties[state])) for state in sorted(ties)]
                self.assertEqual(promise.bounds(), expected, (program.rows, rule, row))

    def test_machines_of_many_lanes(self):
        for chance in chances(80):
            program = some_program(chance, 9)
            for rule in RULES:
                for row in program.groups():
                    try:
                        promise = Promise(program, rule, row)
                    except NotNested:
                        continue
                    many = chance.randint(2, 5)
                    datas = [some_data(chance, program.size, 6) for _ in range(many)]
                    lanes, watch = lanes_of(program, datas, rule), Watch(many, row, promise.anchor)
                    for _ in range(40):
                        done = lanes.step()
                        if done[0] == "done" and watch.see(*done[1:]):
                            self.assertIs(promise.kept, False, (program.rows, datas, rule, row))


def breaks(pairs, row, state, tie):
    """Whether the step from a pair state breaks a promise, by the difference of the counts."""
    if pairs.does(state) != row:
        return False
    if state[4] == "both":
        return tie != 0
    return tie is not None and (tie if state[4] == "first" else -tie) < 0


def behind(pairs, promise, state, tie):
    """The pair states and differences behind one step, the latter up to 9."""
    if pairs.does(state) is not None and pairs.does(state) == promise.anchor:
        tie = 0 if state[4] == "both" else None
    elif tie is not None and pairs.does(state) == promise.row:
        tie += {"both": 0, "first": 1, "second": -1}[state[4]]
    return [(later, tie) for later in pairs.steps(state) if tie is None or abs(tie) <= 9]


if __name__ == "__main__":
    unittest.main()
