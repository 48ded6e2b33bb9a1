"""How long small programs, made anew each time, take; the limits are told relative to plain work done beside it."""

import unittest

from partedlanes.alike import Likeness, events_alone, is_like_table, surely_alike
from partedlanes.desks import Desk
from partedlanes.keepers import Keeper, edits_kept, tried_edits
from partedlanes.lanes import Data
from partedlanes.papers import accepts, closed_paper, promise_paper, stands_paper, verdict
from partedlanes.pieces import is_piece, joined_pieces, pieces_of, touched_pieces, unkept
from partedlanes.programs import Program
from partedlanes.sets import Sets
from partedlanes.sources import Source
from partedlanes.texts import format_data, format_program, parse_data, parse_program
from tests.helpers import times_of
from tests.literal import some_data
from tests.test_alike import some_pairs
from tests.test_keepers import good_programs, some_edit
from tests.test_pairs import plain_programs
from tests.test_sets import programs
from tests.test_sources import some_sources


def again(program):
    """An equal program, made anew."""
    return Program(program.rows, registers=program.registers, values=program.size)


class TestTimes(unittest.TestCase):
    def check(self, action, limit):
        """The action takes no longer than so many times as long as plain work; limits are some four times as high."""
        needed, plain = times_of(action)
        self.assertLess(needed, limit * plain, f"{needed / plain} instead of {limit}")

    def test_papers(self):
        cases = [(program, rule) for _, program, rule in plain_programs(60, 8)]

        def action():
            for program, rule in cases:
                papers = [closed_paper(again(program), rule), stands_paper(again(program), rule)]
                papers += [promise_paper(again(program), rule, row) for row in program.groups()]
                for paper in papers:
                    verdict(paper)
                    accepts(again(program), rule, paper)

        self.check(action, 60)

    def test_pieces(self):
        cases = [(program, rule) for _, program, rule in programs(40, 8)]

        def action():
            for program, rule in cases:
                pieces = pieces_of(Sets(again(program), rule=rule))
                is_piece(again(program), rule, pieces[0])
                unkept(again(program), rule, pieces)
                joined_pieces(again(program), rule, pieces)
                touched_pieces(again(program), again(program), rule, pieces)

        self.check(action, 40)

    def test_sources(self):
        cases = [(source, [some_data(chance, source.lowered().size, 6) for _ in range(chance.randint(1, 6))])
                 for chance, source in some_sources(200, ("top", "any"))]

        def action():
            for source, datas in cases:
                program = source.lowered()
                made = Source(source.block, registers=program.registers, values=program.size)
                made.lowered()
                made.seen(datas, 100)

        self.check(action, 4)

    def test_texts_and_desks(self):
        cases = [program for _, program, _ in programs(60, 8)]

        def action():
            for program in cases:
                made = parse_program(format_program(program))
                parse_data(format_data(Data(1, 0, 1)))
                desk = Desk(made)
                for line in ("lane 1", "lane 01", "rule first", "step", "go", "lanes", "stands", "broken"):
                    desk.answer(line)

        self.check(action, 20)

    def test_programs_alike(self):
        cases = [(one, other) for _, one, other in some_pairs(150)]

        def action():
            for one, other in cases:
                likeness = Likeness(again(one), again(other))
                likeness.difference()
                likeness(Data(1, 0, 1))
                is_like_table(again(one), again(other), likeness.table())
                surely_alike(again(one), "least", again(other), "greatest")
                events_alone(again(one), Data(1, 0, 1), 40)

        self.check(action, 22)

    def test_keepers(self):
        cases = [(program, rule, [some_edit(chance, program) for _ in range(3)])
                 for chance, program, rule in good_programs(60)]

        def action():
            for program, rule, edits in cases:
                keeper = Keeper(again(program), rule)
                keeper.papers()
                keeper.copy().put_joins({})
                edits_kept(again(program), rule, edits)
                tried_edits(keeper, [("joins", {})] * 2, keep=False)

        self.check(action, 250)


if __name__ == "__main__":
    unittest.main()
