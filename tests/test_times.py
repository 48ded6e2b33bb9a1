"""How long small programs, made anew each time, take; the limits are told relative to plain work done beside it."""

import unittest

from partedlanes.papers import accepts, closed_paper, promise_paper, stands_paper, verdict
from partedlanes.pieces import is_piece, joined_pieces, pieces_of, touched_pieces, unkept
from partedlanes.programs import Program
from partedlanes.sets import Sets
from partedlanes.sources import Source
from tests.helpers import times_of
from tests.literal import some_data
from tests.test_pairs import plain_programs
from tests.test_sets import programs
from tests.test_sources import some_sources


def again(program):
    """An equal program, made anew."""
    return Program(program.rows, registers=program.registers, values=program.size)


class TestTimes(unittest.TestCase):
    def check(self, action, limit):
        """The action takes no longer than so many times as long as plain work; limits are some four times as high."""
        needed, plain = times_of(action)
        self.assertLess(needed, limit * plain, f"{needed / plain} instead of {limit}")

    def test_papers(self):
        cases = [(program, rule) for _, program, rule in plain_programs(60, 8)]

        def action():
            for program, rule in cases:
                papers = [closed_paper(again(program), rule), stands_paper(again(program), rule)]
                papers += [promise_paper(again(program), rule, row) for row in program.groups()]
                for paper in papers:
                    verdict(paper)
                    accepts(again(program), rule, paper)

        self.check(action, 60)

    def test_pieces(self):
        cases = [(program, rule) for _, program, rule in programs(40, 8)]

        def action():
            for program, rule in cases:
                pieces = pieces_of(Sets(again(program), rule=rule))
                is_piece(again(program), rule, pieces[0])
                unkept(again(program), rule, pieces)
                joined_pieces(again(program), rule, pieces)
                touched_pieces(again(program), again(program), rule, pieces)

        self.check(action, 40)

    def test_sources(self):
        cases = [(source, [some_data(chance, source.lowered().size, 6) for _ in range(chance.randint(1, 6))])
                 for chance, source in some_sources(200, ("top", "any"))]

        def action():
            for source, datas in cases:
                program = source.lowered()
                made = Source(source.block, registers=program.registers, values=program.size)
                made.lowered()
                made.seen(datas, 100)

        self.check(action, 4)


if __name__ == "__main__":
    unittest.main()
