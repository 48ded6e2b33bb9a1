"""How long small programs, made anew each time, take; the limits are told relative to plain work done beside it."""

import unittest

from partedlanes.alike import Likeness, events_alone, is_like_table, surely_alike
from partedlanes.desks import Desk
from partedlanes.errors import TooMany
from partedlanes.fewest import Counted, fewest_lanes, fewest_that_stand
from partedlanes.keepers import Keeper, edits_kept, tried_edits
from partedlanes.lanes import Data
from partedlanes.lengths import Steps, lanes_for_most
from partedlanes.machines import Machine
from partedlanes.papers import accepts, closed_paper, promise_paper, stands_paper, verdict
from partedlanes.pieces import is_piece, joined_pieces, pieces_of, touched_pieces, unkept
from partedlanes.programs import Program
from partedlanes.sets import Sets
from partedlanes.sources import Source
from partedlanes.texts import format_data, format_program, parse_data, parse_program
from partedlanes.views import is_view, lanes_for, lanes_that_stand, views
from tests.helpers import error_of, times_of
from tests.literal import some_data
from tests.test_alike import some_pairs
from tests.test_keepers import good_programs, some_edit
from tests.test_pairs import plain_programs
from tests.test_sets import programs
from tests.test_sources import some_sources


def again(program):
    """An equal program, made anew."""
    return Program(program.rows, registers=program.registers, values=program.size)


class TestTimes(unittest.TestCase):
    def check(self, action, limit):
        """The action takes no longer than so many times as long as plain work; limits are some four times as high."""
        needed, plain = times_of(action)
        self.assertLess(needed, limit * plain, f"{needed / plain} instead of {limit}")

    def test_papers(self):
        cases = [(program, rule) for _, program, rule in plain_programs(60, 8)]

        def action():
            for program, rule in cases:
                papers = [closed_paper(again(program), rule), stands_paper(again(program), rule)]
                papers += [promise_paper(again(program), rule, row) for row in program.groups()]
                for paper in papers:
                    verdict(paper)
                    accepts(again(program), rule, paper)

        self.check(action, 60)

    def test_pieces(self):
        cases = [(program, rule) for _, program, rule in programs(40, 8)]

        def action():
            for program, rule in cases:
                pieces = pieces_of(Sets(again(program), rule=rule))
                is_piece(again(program), rule, pieces[0])
                unkept(again(program), rule, pieces)
                joined_pieces(again(program), rule, pieces)
                touched_pieces(again(program), again(program), rule, pieces)

        self.check(action, 30)

    def test_sources(self):
        cases = [(source, [some_data(chance, source.lowered().size, 6) for _ in range(chance.randint(1, 6))])
                 for chance, source in some_sources(200, ("top", "any"))]

        def action():
            for source, datas in cases:
                program = source.lowered()
                made = Source(source.block, registers=program.registers, values=program.size)
                made.lowered()
                made.seen(datas, 100)

        self.check(action, 4)

    def test_texts_and_desks(self):
        cases = [program for _, program, _ in programs(60, 8)]

        def action():
            for program in cases:
                made = parse_program(format_program(program))
                parse_data(format_data(Data(1, 0, 1)))
                desk = Desk(made)
                for line in ("lane 1", "lane 01", "rule first", "step", "go", "lanes", "stands", "broken"):
                    desk.answer(line)

        self.check(action, 20)

    def test_programs_alike(self):
        cases = [(one, other) for _, one, other in some_pairs(150)]

        def action():
            for one, other in cases:
                likeness = Likeness(again(one), again(other))
                likeness.difference()
                likeness(Data(1, 0, 1))
                is_like_table(again(one), again(other), likeness.table())
                surely_alike(again(one), "least", again(other), "greatest")
                events_alone(again(one), Data(1, 0, 1), 40)

        self.check(action, 22)

    def test_keepers(self):
        cases = [(program, rule, [some_edit(chance, program) for _ in range(3)])
                 for chance, program, rule in good_programs(60)]

        def action():
            for program, rule, edits in cases:
                keeper = Keeper(again(program), rule)
                keeper.papers()
                keeper.copy().put_joins({})
                edits_kept(again(program), rule, edits)
                tried_edits(keeper, [("joins", {})] * 2, keep=False)

        self.check(action, 250)


# The programs of issue 15 with a crowd that they can see, and how many lanes at least show it.
WIDE = Program([("take", "x"), ("take", "y"), ("group", "g", None)], registers=("x", "y"), values=3)
SMALL = Program([("take", "y"), ("take", "x"), ("group", "g", None)], registers=("x", "y"))
LONG = Program([("if", "x", 1, 0, 1), ("take", "x"), ("take", "x"), ("take", "x"), ("take", "x"), ("take", "x"),
                ("group", "g", None)])
SEEN = [(WIDE, 2, ((0, 0), (0, 2), (1, 1), (2, 0), (2, 2)), 5), (SMALL, 2, ((0, 0), (1, 1)), 2),
        (LONG, 6, ((0,), (1,)), 2)]
LIMITED = (Sets, Steps, views, lanes_that_stand, fewest_that_stand, lanes_for_most)


def ask_all(program, row, crowd):
    """One call of all that is asked of lanes that show a crowd, each of a program made anew."""
    told = [ask(again(program)) for ask in LIMITED]
    return [*told, lanes_for(again(program), row, crowd), fewest_lanes(again(program), row, crowd)]


class TestLanesThatShow(unittest.TestCase):
    def test_answers_beside_machines(self):
        for program, row, crowd, fewest in SEEN:
            for rule in ("told", "first"):
                for limit in (4000, 20000):
                    asked = {"rule": rule, "limit": limit}
                    self.assertTrue(is_view(program, row, crowd, lanes_for(program, row, crowd, **asked), rule=rule))
                    number, datas = fewest_lanes(program, row, crowd, **asked)
                    self.assertEqual([number, len(datas)], [fewest, fewest])
                    self.assertTrue(is_view(program, row, crowd, datas, rule=rule))
                    self.assertIsNone(lanes_that_stand(program, **asked))
                    self.assertIsNone(fewest_that_stand(program, **asked))
                    most, machine = Steps(program, **asked).greatest, Machine(program, lanes_for_most(program, **asked))
                    self.assertEqual([step[0] for step in machine.go(1000)], ["done"] * most + ["over"])
                    self.assertEqual([most, Steps(program, **asked).wait], [program.end, 0])

    def test_all_crowds_beside_machines(self):
        for program, row, _, _ in SEEN:
            crowds = views(program)[row]
            kinds = program.classes()
            self.assertEqual(len(crowds), 2 ** len(kinds) - 1)
            for crowd in crowds[::3]:
                self.assertTrue(is_view(program, row, crowd, lanes_for(program, row, crowd)))
                if len(crowd) <= 7:
                    number, datas = fewest_lanes(program, row, crowd, limit=20000)
                    self.assertEqual([number, len(datas)], [len(crowd), len(crowd)])
                    self.assertTrue(is_view(program, row, crowd, datas))
            self.assertIsNone(lanes_for(program, row, ((9,),)))
            self.assertIsNone(fewest_lanes(program, row, ((9,),)))
        # A table of eight lanes of nine classes has more scenes and arrivals than any limit.
        self.assertEqual(error_of(self, TooMany, lambda: fewest_lanes(WIDE, 2, tuple(WIDE.classes()), limit=20000)), 20000)

    def test_limits(self):
        for program, row, crowd, fewest in SEEN:
            table = Sets(program, limit=20000).table()
            least = sum(1 + len(arrivals) for _, arrivals in table)
            for ask in (*LIMITED, lambda program, limit: lanes_for(program, row, crowd, limit=limit)):
                ask(program, limit=least)
                self.assertEqual(error_of(self, TooMany, lambda: ask(program, limit=least - 1)), least - 1)
            counted = [sum(1 + len(arrivals) for _, arrivals in Counted(program, lanes, limit=20000).table())
                       for lanes in range(1, fewest + 1)]
            most = max(least, *counted)
            self.assertEqual(fewest_lanes(program, row, crowd, limit=most)[0], fewest)
            self.assertEqual(error_of(self, TooMany, lambda: fewest_lanes(program, row, crowd, limit=most - 1)), most - 1)

    def test_times(self):
        def all_of(cases, times):
            for program, row, crowd, _ in cases * times:
                ask_all(program, row, crowd)

        # Some hundreds of calls each; the limits are some two and a half times as high as what is needed.
        for cases, times, limit in ((SEEN[:1], 40, 16), (SEEN[1:], 60, 14)):
            needed, plain = times_of(lambda: all_of(cases, times))
            self.assertLess(needed, limit * plain, f"{needed / plain} instead of {limit}")

    def test_times_of_each(self):
        # Each call alone, so that none of them hides behind the others.
        limits = (1.6, 2.7, 2.4, 1.4, 1.4, 4.5, 4, 5)
        for program, row, crowd, _ in SEEN[1:]:
            asked = (*LIMITED, lambda program: lanes_for(program, row, crowd),
                     lambda program: fewest_lanes(program, row, crowd))
            for place, (ask, limit) in enumerate(zip(asked, limits)):
                needed, plain = times_of(lambda: [ask(again(program)) for _ in range(200)])
                self.assertLess(needed, limit * plain, f"{place}: {needed / plain} instead of {limit}")


if __name__ == "__main__":
    unittest.main()
