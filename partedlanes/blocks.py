"""Blocks of statements, and the rows that they become."""

from partedlanes.checks import MOST_ROWS, is_row, is_word

MOST_NESTED = 3
PLAIN = ("set", "copy", "take", "meet", "any", "all", "same")

# Statements with blocks in them: how many parts they have, and how many rows they become besides those of the blocks.
PARTS = {"if": 5, "while": 4}
OWN_ROWS = {"if": 2, "while": 3}


def is_block(value, registers, size):
    """Whether any value is a block of a source with these registers and so many values."""
    many = _count_block(value, (registers, size), MOST_NESTED, False)
    return many is not None and many > 0


def _count_block(value, form, levels, in_loop):
    """How many rows any value becomes, None if it is no block of this form or becomes too many.

    levels: how many ifs and whiles may stand within one another; in_loop: whether it is the very block of a while.
    """
    if not isinstance(value, tuple):
        return None
    many = 0
    for statement in value:
        rows = _count_statement(statement, form, levels, in_loop)
        if rows is None or many + rows > MOST_ROWS:
            return None
        many += rows
    return many


def _count_statement(value, form, levels, in_loop):
    """The same for any value that may be a statement."""
    if not isinstance(value, tuple) or len(value) == 0 or not isinstance(value[0], str):
        return None
    word = value[0]
    if word in PLAIN:
        return 1 if _is_plain_row(value, form) else None
    if word == "group":
        return 1 if len(value) == 2 and is_word(value[1]) else None
    if len(value) < 3 or not _is_plain_row(("set", value[1], value[2]), form):
        return None
    if word == "leave":
        return 1 if len(value) == 3 and in_loop else None
    if word not in PARTS or len(value) != PARTS[word] or levels == 0:
        return None
    counts = [_count_block(block, form, levels - 1, word == "while") for block in value[3:]]
    return None if None in counts else OWN_ROWS[word] + sum(counts)


def _is_plain_row(value, form):
    # These rows tell no other row, so the number of the end does not matter.
    return is_row(value, form[0], form[1], 0)


def many_rows(block):
    """How many rows a block becomes."""
    return sum([rows_of(statement) for statement in block])


def rows_of(statement):
    """How many rows a statement becomes."""
    word = statement[0]
    if word not in PARTS:
        return 1
    return OWN_ROWS[word] + sum([many_rows(block) for block in statement[3:]])


def lowered_rows(block):
    """The rows that the block of a source becomes."""
    rows = []
    _write_block(rows, block, None, None)
    return rows


def _write_block(rows, block, loop, behind):
    """Writes the rows of a block; loop: the branch of the innermost while around it; behind: the row behind that."""
    for statement in block:
        word = statement[0]
        if word == "if":
            _write_if(rows, statement, loop, behind)
        elif word == "while":
            _write_while(rows, statement)
        elif word == "leave":
            rows.append(("if", statement[1], statement[2], behind, behind))
        else:
            rows.append((*statement, loop) if word == "group" else statement)


def _write_if(rows, statement, loop, behind):
    _, word, value, block, other = statement
    to = len(rows) + 2 + many_rows(other)
    join = to + many_rows(block)
    rows.append(("if", word, value, to, join))
    _write_block(rows, other, loop, behind)
    rows.append(("go", join))
    _write_block(rows, block, loop, behind)


def _write_while(rows, statement):
    _, word, value, block = statement
    here = len(rows)
    join = here + rows_of(statement)
    rows.append(("if", word, value, here + 2, join))
    rows.append(("go", join))
    _write_block(rows, block, here, join)
    rows.append(("go", here))
