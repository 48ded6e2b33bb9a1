"""Sources: blocks of statements, which become programs that keep their promises."""

from partedlanes.blocks import is_block, lowered_rows
from partedlanes.checks import are_registers, is_between
from partedlanes.errors import BadBlock, BadData, BadNumber, BadRegisters
from partedlanes.guards import ask_most
from partedlanes.loads import are_datas
from partedlanes.programs import Program
from partedlanes.turns import Turns


class Source:
    """A block of statements with the registers and the number of values that lanes have; it never changes."""

    def __init__(self, block, *, registers=("x",), values=2):
        if not are_registers(registers):
            raise BadRegisters(registers)
        if not is_between(values, 2, 3):
            raise BadNumber(values)
        if not is_block(block, registers, values):
            raise BadBlock(block)
        self.block = block
        self.program = Program(lowered_rows(block), registers=registers, values=values)

    def __eq__(self, other):
        return (
            isinstance(other, Source)
            and self.block == other.block
            and self.program.registers == other.program.registers
            and self.program.size == other.program.size
        )

    def lowered(self):
        """The program that the source becomes."""
        return self.program

    def seen(self, datas, most):
        """Which lanes do which rows that see lanes, by the blocks alone, as far as so many statements go."""
        if not are_datas(self.program, datas):
            raise BadData(datas)
        ask_most(most)
        turns = Turns(self.program, datas, most)
        turns.do_block(self.block, 0, turns.everybody)
        return turns.told()
