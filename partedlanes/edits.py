"""Edits: changes of rows and of joins."""


def are_edits(value):
    """Whether any value is a list or tuple of edits, whether or not these can be made."""
    return isinstance(value, (list, tuple)) and all([_is_edit(edit) for edit in value])


def _is_edit(value):
    if not isinstance(value, tuple) or len(value) == 0 or not isinstance(value[0], str):
        return False
    return (value[0], len(value)) in (("row", 3), ("joins", 2))


def edited(program, edit):
    """The program to which an edit leads."""
    if edit[0] == "row":
        return program.with_row(edit[1], edit[2])
    return program.with_joins(edit[1])
