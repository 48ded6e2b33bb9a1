"""Whether any values are integers, words, registers and rows, as the programs have them."""

LETTERS = "abcdefghijklmnopqrstuvwxyz"
MOST_LETTERS = 8
MOST_ROWS = 24
STEERING = ("any", "all", "same")
# The rows that change what registers have.
CHANGING = ("set", "copy", "take", "any", "all", "same")

# What stands in a row behind its first word, part by part.
FORMS = {
    "set": ("place", "value"),
    "copy": ("place", "place"),
    "take": ("place",),
    "if": ("place", "value", "to", "to"),
    "go": ("to",),
    "group": ("word", "anchor"),
    "meet": ("word",),
    "any": ("place", "value", "place"),
    "all": ("place", "value", "place"),
    "same": ("place", "place"),
    "end": (),
}


def is_whole(value):
    """Whether any value is an integer; True and False are none."""
    return isinstance(value, int) and not isinstance(value, bool)


def is_between(value, least, most):
    """Whether any value is an integer from least to most."""
    return isinstance(value, int) and not isinstance(value, bool) and least <= value <= most


def is_word(value):
    """Whether any value is a text of one to eight small letters."""
    if not isinstance(value, str) or not 1 <= len(value) <= MOST_LETTERS:
        return False
    return all([letter in LETTERS for letter in value])


def are_registers(value):
    """Whether any value is a tuple of one or two unlike words."""
    if not isinstance(value, tuple) or not 1 <= len(value) <= 2:
        return False
    return all([is_word(word) for word in value]) and (len(value) == 1 or value[0] != value[1])


def is_row(row, registers, size, end):
    """Whether any value is a row of a program with these registers, so many values and this end."""
    if not isinstance(row, tuple) or len(row) == 0:
        return False
    kind = row[0]
    if not isinstance(kind, str) or kind not in FORMS:
        return False
    form = FORMS[kind]
    if len(row) != len(form) + 1:
        return False
    for part, name in zip(row[1:], form):
        if not _is_part(part, name, registers, size, end):
            return False
    return True


def _is_part(part, name, registers, size, end):
    if name == "place":
        return isinstance(part, str) and part in registers
    if name == "word":
        return is_word(part)
    if name == "anchor" and part is None:
        return True
    if not isinstance(part, int) or isinstance(part, bool) or part < 0:
        return False
    if name == "value":
        return part < size
    return part <= end if name == "to" else part < end
