"""[2], [3], [28] and [29]: sources."""

import random
import unittest

from partedlanes.errors import BadBlock, BadData, BadNumber, BadRegisters
from partedlanes.lanes import Data
from partedlanes.machines import Machine
from partedlanes.programs import Program
from partedlanes.promises import keeps
from partedlanes.roads import unnested
from partedlanes.sources import Source
from partedlanes.stands import stands
from tests.helpers import NO_INTEGERS, STRANGE, Everything, Hostile, error_of, refused
from tests.literal import some_data

RULES = ("told", "first", "least")
TAKE, GROUP = ("take", "x"), ("group", "a")
LOOP = (TAKE, ("while", "x", 1, (("group", "turn"), TAKE)), ("meet", "all"))
STEERING = (("any", "x", 1, "x"), ("all", "x", 0, "x"), ("same", "x", "x"))


def nested(levels, inner=(TAKE,)):
    """A block with so many ifs and whiles within one another."""
    for level in range(levels):
        inner = (("if", "x", 1, inner, ()) if level % 2 else ("while", "x", 1, inner),)
    return inner


def some_block(chance, registers, size, kinds, levels=3, in_loop=False):
    """Any block; kinds: what statements may be besides plain ones, "top" for meetings in the outermost block."""
    def inner(loop):
        return some_block(chance, registers, size, kinds, levels - 1, loop)

    block = []
    for _ in range(chance.randint(1 if levels == 3 else 0, 4)):
        word, other, value = chance.choice(registers), chance.choice(registers), chance.randrange(size)
        some = ["take"] * 3 + ["group"] * 3 + ["set", "copy"] + [kind for kind in kinds if kind != "top"]
        some += ["meet"] * ("top" in kinds and levels == 3) + ["leave"] * 2 * in_loop
        some += ["if", "while"] * 3 * (levels > 0)
        made = {
            "take": lambda: (word,), "group": lambda: ("g",), "set": lambda: (word, value),
            "copy": lambda: (word, other), "meet": lambda: ("m",), "leave": lambda: (word, value),
            "any": lambda: (word, value, other), "all": lambda: (word, value, other), "same": lambda: (word, other),
            "if": lambda: (word, value, inner(False), inner(False)), "while": lambda: (word, value, inner(True)),
        }
        kind = chance.choice(some)
        block.append((kind, *made[kind]()))
    return tuple(block)


def some_sources(many, kinds, most=24):
    """Any sources that become up to so many rows."""
    for number in range(many):
        chance = random.Random(number)
        registers, size = chance.choice([(("x",), 2), (("x",), 3), (("x", "y"), 2), (("x", "y"), 3)])
        block = some_block(chance, registers, size, kinds)
        try:
            source = Source(block, registers=registers, values=size)
        except BadBlock:
            continue
        if len(source.lowered()) <= most:
            yield chance, source


class Sight:
    """The words of point 29 about what is seen, done once more."""

    class Over(Exception):
        pass

    def __init__(self, source, datas, most):
        self.program, self.left, self.told = source.lowered(), most, []
        self.everybody = tuple(range(len(datas)))
        self.data = [list(data.digits) for data in datas]
        self.held = [dict.fromkeys(self.program.registers, 0) for _ in datas]
        try:
            self.block(source.block, 0, self.everybody)
        except self.Over:
            pass

    def size(self, block):
        many = {"if": 2, "while": 3}
        return sum(many.get(one[0], 1) + (sum(map(self.size, one[3:])) if one[0] in many else 0) for one in block)

    def count(self):
        if not self.left:
            raise self.Over
        self.left -= 1

    def block(self, block, row, lanes):
        """The lanes that leave the loop around the block, and those that come to its end."""
        gone = ()
        for place, statement in enumerate(block):
            if lanes:
                self.count()
                leavers, lanes = self.statement(statement, row + self.size(block[:place]), lanes)
                gone += leavers
        return gone, lanes

    def split(self, statement, lanes):
        with_value = tuple(lane for lane in lanes if self.held[lane][statement[1]] == statement[2])
        return with_value, tuple(lane for lane in lanes if lane not in with_value)

    def statement(self, statement, row, lanes):
        kind = statement[0]
        if kind == "leave":
            return self.split(statement, lanes)
        if kind == "if":
            some, others = self.split(statement, lanes)
            _, seconds = self.block(statement[4], row + 1, others)
            _, firsts = self.block(statement[3], row + 2 + self.size(statement[4]), some)
            return (), tuple(sorted(firsts + seconds))
        if kind == "while":
            behind = ()
            while lanes:
                lanes, others = self.split(statement, lanes)
                behind += others
                if lanes:
                    self.count()
                    gone, lanes = self.block(statement[3], row + 2, lanes)
                    behind += gone
            return (), tuple(sorted(behind))
        if kind == "meet" and lanes != self.everybody:
            raise self.Over
        self.plain(statement, lanes)
        if kind in ("group", "meet", "any", "all", "same"):
            self.told.append((row, lanes))
        return (), lanes

    def plain(self, statement, lanes):
        held = [self.held[lane] for lane in lanes]
        values = [one[statement[1]] for one in held] if statement[0] not in ("group", "meet") else []
        if statement[0] in ("any", "all", "same"):
            told = {"any": statement[2] in values, "all": set(values) == {statement[2]}, "same": len(set(values)) == 1}
        for lane, one in zip(lanes, held):
            if statement[0] == "take":
                one[statement[1]] = self.data[lane].pop(0) if self.data[lane] else 0
            if statement[0] == "set":
                one[statement[1]] = statement[2]
            if statement[0] == "copy":
                one[statement[1]] = one[statement[2]]
            if statement[0] in ("any", "all", "same"):
                one[statement[-1]] = int(told[statement[0]])


class TestSource(unittest.TestCase):
    def test_each_statement(self):
        for statement in (("set", "x", 1), ("copy", "x", "y"), ("take", "y"), ("meet", "abcdefgh"), ("any", "y", 0, "x"),
                          ("all", "x", 1, "y"), ("same", "y", "y"), ("group", "g"), ("if", "x", 1, (), ()),
                          ("while", "y", 0, ()), ("while", "x", 1, (("leave", "y", 0),))):
            source = Source((statement,), registers=("x", "y"))
            self.assertEqual(source.block, (statement,))

    def test_values_of_registers(self):
        for word, rest in (("set", ()), ("any", ("x",)), ("all", ("x",)), ("if", ((), ())), ("while", ((),))):
            Source(((word, "x", 2, *rest),), values=3)
            for value in (2, -1, *NO_INTEGERS):
                block = ((word, "x", value, *rest),)
                refused(self, BadBlock, block, lambda: Source(block))

    def test_statements_that_are_none(self):
        wrong = [*STRANGE, *NO_INTEGERS, 1, "take", (), ("",), ("take",), ("take", "z"), ("take", "x", "x"),
                 ["take", "x"], ("set", "x"), ("set", "z", 1), ("set", "x", 1, 1), ("copy", "x"), ("copy", "x", "z"),
                 ("meet",), ("meet", ""), ("meet", "Word"), ("meet", "abcdefghi"), ("meet", "a", "b"), ("group",),
                 ("group", ""), ("group", "a", None), ("group", "a", 0), ("group", "a1"), ("group", None), ("end",),
                 ("go", 0), ("go", 1), ("if", "x", 1, 2, 2), ("if", "x", 1), ("if", "x", 1, ()), ("if", "x", 1, [], ()),
                 ("if", "x", 1, (), []), ("if", "x", 1, (), (), ()), ("if", "x", 1, None, ()), ("if", "z", 1, (), ()),
                 ("if", "x", 1, (TAKE,), TAKE), ("while", "x", 1), ("while", "x", 1, []), ("while", "x", 1, TAKE),
                 ("while", "x", 1, (), ()), ("while", "z", 1, ()), ("while", "x", 1, None), ("leave", "x", 1),
                 ("any", "x", 1), ("any", "x", 1, "z"), ("all", "x", 1, "x", "x"), ("same", "x"), ("same", "x", 1, "x"),
                 ("same", "z", "x"), (None, "x"), (Hostile(), "x"), (Everything(), "x"), ("take", Everything()),
                 ("group", Everything()), ("if", Hostile(), 1, (), ()), ("while", "x", Hostile(), ()), ("step", "x", 1)]
        for statement in wrong:
            for block in ((statement,), (TAKE, statement), (("while", "x", 1, (("if", "x", 0, (statement,), ()),)),),
                          (("if", "x", 1, (), (statement,)),)):
                refused(self, BadBlock, block, lambda: Source(block))

    def test_blocks_that_are_none(self):
        for block in (*STRANGE, *NO_INTEGERS, (), [], [TAKE], TAKE, "take", 1, ((),), ([],), {TAKE: TAKE}):
            refused(self, BadBlock, block, lambda: Source(block))

    def test_where_leave_stands(self):
        leave = ("leave", "x", 1)
        for block in ((("while", "x", 1, (leave,)),), (("while", "x", 1, (TAKE, leave, TAKE, leave)),),
                      (("while", "x", 1, (("while", "x", 0, (leave,)), leave)),),
                      (("if", "x", 1, (("while", "x", 1, (leave,)),), ()),)):
            self.assertEqual(Source(block).block, block)
        for block in ((leave,), (TAKE, leave), (("if", "x", 1, (leave,), ()),), (("if", "x", 1, (), (leave,)),),
                      (("while", "x", 1, (("if", "x", 0, (leave,), ()),)),),
                      (("while", "x", 1, (("if", "x", 0, (), (TAKE, leave)),)),), (("while", "x", 1, ()), leave)):
            refused(self, BadBlock, block, lambda: Source(block))
        for bent in (("leave", "z", 1), ("leave", "x", 2), ("leave", "x", True), ("leave", "x"), ("leave",),
                     ("leave", "x", 1, ()), ["leave", "x", 1], ("leave", Hostile(), 1)):
            block = (("while", "x", 1, (bent,)),)
            refused(self, BadBlock, block, lambda: Source(block))

    def test_three_within_one_another_and_four(self):
        for inner in ((), (TAKE,)):
            for levels in (1, 2, 3):
                Source(nested(levels, inner))
                Source((("if", "x", 1, (), nested(levels - 1, inner)), *nested(levels, inner)))
            for levels in (4, 5, 900):
                block = nested(levels, inner)
                refused(self, BadBlock, block, lambda: Source(block))
        deep = ("while", "x", 1, nested(3, ()))
        for block in ((deep,), (("if", "x", 1, (), (deep,)),), (("if", "x", 1, (deep,), ()),), (TAKE, deep)):
            refused(self, BadBlock, block, lambda: Source(block))

    def test_twenty_four_rows_and_one_more(self):
        for own, made in ((0, lambda block: block), (2, lambda block: (("if", "x", 1, block, ()),)),
                          (2, lambda block: (("if", "x", 1, block[:3], block[3:]),)),
                          (3, lambda block: (("while", "x", 1, block),)),
                          (3, lambda block: (("while", "x", 1, tuple([("leave", "x", 0) for _ in block])),)),
                          (4, lambda block: (("while", "x", 1, ()), *block[1:], TAKE, GROUP)),
                          (8, lambda block: (("while", "x", 1, (("if", "x", 0, (("while", "x", 0, block),), ()),)),))):
            self.assertEqual(len(Source(made((TAKE,) * (24 - own))).lowered()), 24)
            block = made((TAKE,) * (25 - own))
            refused(self, BadBlock, block, lambda: Source(block))
        self.assertEqual(len(Source((TAKE,)).lowered()), 1)

    def test_blocks_of_very_many_statements(self):
        wide = (("if", "x", 1, (), ()),) * 10 ** 5
        for _ in range(3):
            refused(self, BadBlock, wide, lambda: Source(wide))
            wide = (("while", "x", 1, wide),) * 10 ** 5

    def test_exceptions_in_order(self):
        for registers in (*STRANGE, *NO_INTEGERS, (), ("x", "x"), ("x", "y", "z"), ["x"], "x", ("X",), ("",), (1,),
                          ("abcdefghi",), (Everything(),)):
            refused(self, BadRegisters, registers, lambda: Source(None, registers=registers, values=None))
        for values in (*NO_INTEGERS, 0, 1, 4, -2, 10 ** 30):
            refused(self, BadNumber, values, lambda: Source(None, registers=("x",), values=values))
        refused(self, BadBlock, None, lambda: Source(None, registers=("x",), values=2))

    def test_names_of_arguments(self):
        source = Source(block=(("take", "abc"),), values=3, registers=("abc",))
        self.assertEqual([source.lowered().size, source.lowered().registers], [3, ("abc",)])
        self.assertRaises(TypeError, Source)
        self.assertRaises(TypeError, Source, (TAKE,), ("x",))

    def test_equality(self):
        self.assertTrue(Source(LOOP) == Source(LOOP) and not Source(LOOP) != Source(tuple(list(LOOP))))
        self.assertEqual(Source((TAKE,)), Source((TAKE,), registers=("x",), values=2))
        for other in (Source((TAKE,)), Source(LOOP, values=3), Source(LOOP, registers=("x", "y")), LOOP, None,
                      Source(LOOP).lowered()):
            self.assertFalse(Source(LOOP) == other)
            self.assertTrue(Source(LOOP) != other)
        self.assertNotEqual(Source((("if", "x", 1, (), ()),)), Source((("if", "x", 1, (), ()), TAKE)))

    def test_nothing_that_was_handed_in_changes_it(self):
        statements = [TAKE, GROUP]
        source = Source(tuple(statements))
        statements.append(TAKE)
        self.assertEqual(source.block, (TAKE, GROUP))
        self.assertEqual(source.lowered().rows, (TAKE, ("group", "a", None)))


class TestLowered(unittest.TestCase):
    def rows(self, block):
        return list(Source(block, registers=("x", "y")).lowered().rows)

    def test_rows_are_themselves(self):
        block = (("set", "x", 1), ("copy", "x", "y"), TAKE, ("meet", "m"), ("any", "x", 1, "y"), ("all", "x", 0, "y"),
                 ("same", "x", "y"))
        self.assertEqual(self.rows(block), list(block))
        self.assertEqual(self.rows((GROUP,)), [("group", "a", None)])

    def test_the_example_of_the_document(self):
        self.assertEqual(list(Source(LOOP).lowered().rows), [
            ("take", "x"), ("if", "x", 1, 3, 6), ("go", 6), ("group", "turn", 1), ("take", "x"), ("go", 1),
            ("meet", "all")])

    def test_an_if(self):
        self.assertEqual(self.rows((("if", "x", 1, (), ()),)), [("if", "x", 1, 2, 2), ("go", 2)])
        self.assertEqual(self.rows((("if", "x", 1, (TAKE,), ()), GROUP)),
                         [("if", "x", 1, 2, 3), ("go", 3), TAKE, ("group", "a", None)])
        self.assertEqual(self.rows((("if", "x", 1, (), (TAKE,)), GROUP)),
                         [("if", "x", 1, 3, 3), TAKE, ("go", 3), ("group", "a", None)])
        self.assertEqual(self.rows((TAKE, ("if", "y", 0, (TAKE, GROUP), (GROUP, ("take", "y"))))),
                         [TAKE, ("if", "y", 0, 5, 7), ("group", "a", None), ("take", "y"), ("go", 7), TAKE,
                          ("group", "a", None)])

    def test_a_while(self):
        self.assertEqual(self.rows((("while", "x", 1, ()),)), [("if", "x", 1, 2, 3), ("go", 3), ("go", 0)])
        self.assertEqual(self.rows((TAKE, ("while", "x", 0, (GROUP, TAKE)), GROUP)),
                         [TAKE, ("if", "x", 0, 3, 6), ("go", 6), ("group", "a", 1), TAKE, ("go", 1),
                          ("group", "a", None)])

    def test_a_leave(self):
        leave = ("leave", "y", 1)
        self.assertEqual(self.rows((("while", "x", 0, (leave, TAKE, leave)), GROUP)),
                         [("if", "x", 0, 2, 6), ("go", 6), ("if", "y", 1, 6, 6), TAKE, ("if", "y", 1, 6, 6), ("go", 0),
                          ("group", "a", None)])
        # A leave is about the while around it, not about that around this one, nor one ahead of it.
        block = (("while", "x", 0, (("while", "y", 0, (leave, GROUP)), leave, GROUP)), GROUP)
        self.assertEqual(self.rows(block), [
            ("if", "x", 0, 2, 10), ("go", 10), ("if", "y", 0, 4, 7), ("go", 7), ("if", "y", 1, 7, 7), ("group", "a", 2),
            ("go", 2), ("if", "y", 1, 10, 10), ("group", "a", 0), ("go", 0), ("group", "a", None)])

    def test_anchors_through_ifs(self):
        block = (("while", "x", 1, (("if", "y", 1, (GROUP,), (("while", "y", 0, (GROUP,)), GROUP)), GROUP)),)
        self.assertEqual(self.rows(block), [
            ("if", "x", 1, 2, 12), ("go", 12), ("if", "y", 1, 9, 10), ("if", "y", 0, 5, 7), ("go", 7), ("group", "a", 3),
            ("go", 3), ("group", "a", 0), ("go", 10), ("group", "a", 0), ("group", "a", 0), ("go", 0)])

    def test_joins_nest(self):
        for _, source in some_sources(600, ("meet", "any", "all", "same")):
            program = source.lowered()
            self.assertEqual([unnested(program, "told"), unnested(program, "first")], [[], []])

    def test_promises_are_kept_by_told_and_first(self):
        many = 0
        for _, source in some_sources(500, ("meet",), 13):
            for rule in ("told", "first"):
                self.assertTrue(keeps(source.lowered(), rule), (source.block, rule))
            many += len(source.lowered().groups()) > 0
        self.assertGreater(many, 80)

    def test_with_meetings_outermost_by_least_and_nothing_stands(self):
        meetings = 0
        for _, source in some_sources(500, ("top",), 13):
            for rule in RULES:
                self.assertTrue(keeps(source.lowered(), rule), (source.block, rule))
                self.assertIsNone(stands(source.lowered(), rule), (source.block, rule))
            meetings += len(source.lowered().meets()) > 0
        self.assertGreater(meetings, 40)

    def test_of_three_values_and_two_registers(self):
        source = Source((("take", "b"), ("set", "a", 2)), registers=("a", "b"), values=3)
        self.assertEqual(source.lowered(), Program([("take", "b"), ("set", "a", 2)], registers=("a", "b"), values=3))
        self.assertEqual(source.lowered(), source.lowered())


class TestSeen(unittest.TestCase):
    def test_a_loop(self):
        source = Source(LOOP)
        datas = [Data(1, 1), Data(1), Data()]
        self.assertEqual(source.seen(datas, 1000), [(3, (0, 1)), (3, (0,)), (6, (0, 1, 2))])

    def test_an_if(self):
        block = (TAKE, ("if", "x", 1, (GROUP,), (("group", "b"),)), ("meet", "m"))
        self.assertEqual(Source(block).seen([Data(1), Data(), Data(1)], 1000), [(2, (1,)), (4, (0, 2)), (5, (0, 1, 2))])
        self.assertEqual(Source(block).seen([Data(1)], 1000), [(4, (0,)), (5, (0,))])

    def test_lanes_that_leave_wait_behind(self):
        block = (TAKE, ("while", "x", 1, (TAKE, ("leave", "x", 1), GROUP, TAKE)), ("group", "b"))
        told = Source(block).seen([Data(1, 1), Data(1, 0, 1), Data(), Data(1, 0, 1, 1)], 1000)
        self.assertEqual(told, [(5, (1, 3)), (5, (1,)), (8, (0, 1, 2, 3))])

    def test_a_meeting_that_not_all_do_ends_everything(self):
        block = (TAKE, GROUP, ("if", "x", 1, (("meet", "m"),), (("group", "b"),)), ("group", "c"))
        source = Source(block)
        self.assertEqual(source.seen([Data(1), Data()], 1000), [(1, (0, 1)), (3, (1,))])
        self.assertEqual(source.seen([Data(1), Data(1)], 1000), [(1, (0, 1)), (5, (0, 1)), (6, (0, 1))])
        inside = Source((TAKE, ("while", "x", 1, (("meet", "m"), TAKE)), GROUP))
        self.assertEqual(inside.seen([Data(1, 1), Data(1)], 1000), [(3, (0, 1))])

    def test_most(self):
        # The statements are: take, while, a turn, group, take, a turn, group, take, meet.
        source, datas = Source(LOOP), [Data(1, 1), Data(1), Data()]
        told = source.seen(datas, 1000)
        self.assertEqual([len(source.seen(datas, most)) for most in range(11)], [0, 0, 0, 0, 1, 1, 1, 2, 2, 3, 3])
        for most in range(11):
            self.assertEqual(source.seen(datas, most), told[:len(source.seen(datas, most))])
        # An if counts, too, also one whose block is empty; statements that nobody does do not count.
        source = Source((("if", "x", 0, (), (GROUP, GROUP)), ("if", "x", 0, (GROUP,), ()), GROUP))
        self.assertEqual([len(source.seen([Data()], most)) for most in range(6)], [0, 0, 0, 1, 2, 2])

    def test_no_end(self):
        for block, most, many in (((("while", "x", 0, ()), GROUP), 1000, 0), ((("while", "x", 0, (GROUP,)),), 1000, 499),
                                  ((("while", "x", 0, (GROUP,)),), 5, 2), ((("while", "x", 0, (GROUP,)),), 4, 1)):
            self.assertEqual(Source(block).seen([Data(), Data(1)], most), [(2, (0, 1))] * many)

    def test_wrong_numbers(self):
        for most in (*NO_INTEGERS, -1, 1001, 10 ** 30):
            refused(self, BadNumber, most, lambda: Source(LOOP).seen([Data()], most))

    def test_wrong_data(self):
        source = Source(LOOP)
        for datas in (*STRANGE, *NO_INTEGERS, 1, Data(1), [1], [Data(), (1,)], [Data(2)], (Data(), Data(0, 2)),
                      [Data()] * 41, [Everything()], {Data: Data()}):
            for most in (10, None):
                refused(self, BadData, datas, lambda: source.seen(datas, most))
        self.assertEqual(len(source.seen([Data()] * 40, 1000)), 1)
        self.assertEqual(len(source.seen((Data(),), 1000)), 1)
        self.assertEqual(Source(LOOP, values=3).seen([Data(2)], 1000), [(6, (0,))])

    def test_names_of_arguments(self):
        source, datas = Source(LOOP), [Data(1)]
        told = source.seen(most=50, datas=datas)
        told.clear()
        datas.append(Data())
        self.assertEqual(source.seen(datas[:1], 50), [(3, (0,)), (6, (0,))])

    def test_beside_the_words(self):
        found = 0
        for kinds in ((), ("meet",), ("top",), ("any", "all", "same"), ("meet", "any", "same")):
            for chance, source in some_sources(150, kinds):
                size = source.lowered().size
                datas = [some_data(chance, size, 6) for _ in range(chance.randint(1, 5))]
                for most in (0, 1, 2, 7, 20, 1000):
                    told = source.seen(datas, most)
                    self.assertEqual(told, Sight(source, datas, most).told, (source.block, datas, most))
                    found += len(told) > 1
        self.assertGreater(found, 500)

    def test_beside_machines(self):
        found = {}
        for kinds in ((), ("meet",), ("top",), ("any", "all", "same", "top"), ("meet", "any", "same")):
            for chance, source in some_sources(200, kinds):
                program = source.lowered()
                datas = [some_data(chance, program.size, 6) for _ in range(chance.randint(1, 6))]
                told = source.seen(datas, 1000)
                for rule in RULES if "meet" not in kinds else ("told",):
                    machine = Machine(program, datas, rule=rule)
                    machine.go(1000)
                    events = machine.events()
                    many = min(len(told), len(events))
                    self.assertEqual(told[:many], events[:many], (source.block, datas, rule))
                    if machine.state() != "goes":
                        self.assertGreaterEqual(len(events), len(told))
                    if "meet" not in kinds:
                        self.assertNotEqual(machine.state(), "stands", (source.block, datas, rule))
                    found[machine.state()] = found.get(machine.state(), 0) + 1
        self.assertEqual(sorted(found), ["goes", "over", "stands"])


if __name__ == "__main__":
    unittest.main()
