"""Texts of programs and of data."""

from partedlanes.digits import MOST_VALUES
from partedlanes.errors import BadData, BadText, LanesError
from partedlanes.guards import ask_program
from partedlanes.lanes import Data
from partedlanes.programs import Program

_MOST_SIGNS = 3000
_NOTHING = "-"
_DIGITS = "0123456789"


def format_program(program):
    """The lines of a program, each ended by a line feed."""
    ask_program(program)
    heads = [("values", program.size), ("registers", *program.registers)]
    return "".join([_line_of(parts) for parts in [*heads, *program.rows]])


def _line_of(parts):
    line = " ".join([_NOTHING if part is None else str(part) for part in parts])
    return f"{line}\n"


def parse_program(text):
    """The program that a text tells; only a text that is written as `format_program` does it tells one."""
    if not isinstance(text, str) or len(text) > _MOST_SIGNS:
        raise BadText(text)
    program = _read_program([line.split(" ") for line in text.split("\n")])
    if program is None or format_program(program) != text:
        raise BadText(text)
    return program


def _read_program(lines):
    """The program that lines of words tell if all else is written right, or None."""
    if len(lines) < 3:
        return None
    rows = [tuple([_part_of(word) for word in line]) for line in lines[2:-1]]
    try:
        return Program(rows, registers=tuple(lines[1][1:]), values=_part_of(lines[0][-1]))
    except LanesError:
        return None


def _part_of(word):
    """The part of a row that a word tells."""
    if word == _NOTHING:
        return None
    # No number of a program has more than two digits.
    is_number = 1 <= len(word) <= 2 and all([sign in _DIGITS for sign in word])
    return int(word) if is_number else word


def format_data(data):
    """The digits of data, one behind another."""
    if not isinstance(data, Data):
        raise BadData(data)
    return "".join([str(value) for value in data.digits]) if len(data) > 0 else _NOTHING


def parse_data(text):
    """The data that a text tells; only a text that is written as `format_data` does it tells some."""
    if not isinstance(text, str) or len(text) > MOST_VALUES:
        raise BadText(text)
    if text == _NOTHING:
        return Data()
    if len(text) == 0 or text[-1] == "0" or not all([sign in "012" for sign in text]):
        raise BadText(text)
    return Data.of([int(sign) for sign in text])
