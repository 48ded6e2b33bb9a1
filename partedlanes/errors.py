"""The exceptions of the package; each one tells in `value` what was refused, found or exceeded."""

# The value itself is not written out: it may be any value, also one that cannot be shown.
_MESSAGE = "the attribute value tells what this is about"


class LanesError(ValueError):
    """Above all errors about a value that is not as it should be."""

    def __init__(self, value):
        ValueError.__init__(self, _MESSAGE)
        self.value = value


class BadRegisters(LanesError):
    """No tuple of one or two words, or one word twice."""


class BadNumber(LanesError):
    """A number of another kind or size than is asked for."""


class BadRow(LanesError):
    """No row of the program, told by its index or by itself."""


class BadRows(LanesError):
    """No list or tuple of as many rows as a program may have."""


class BadJoins(LanesError):
    """No joins, or no choice of marks, of the program."""


class BadProgram(LanesError):
    """No program, or none of the kind that is asked for."""


class BadRule(LanesError):
    """None of the rules that are asked for."""


class BadData(LanesError):
    """No data, or data that the program does not take."""


class BadText(LanesError):
    """No text of the form that is asked for."""


class BadKind(LanesError):
    """None of the kinds that are asked for."""


class BadMachine(LanesError):
    """No machine."""


class NotNested(LanesError):
    """The joins of the program do not nest; value: the least pair that shows it."""


class NotPlain(LanesError):
    """A row of the program steers; value: the least such row."""


class BadState(LanesError):
    """No pair state that is come to."""


class BadPromise(LanesError):
    """No promise."""


class BadPaper(LanesError):
    """No paper, or no pieces."""


class BadLine(LanesError):
    """No line that a desk answers."""


class BadBlock(LanesError):
    """No block of statements."""


class Guarded(LanesError):
    """A keeper refuses a program; value: the paper that shows why."""


class Unlike(LanesError):
    """Two programs that cannot be compared."""


class BadEdits(LanesError):
    """No edits, or one that cannot be made."""


class BadKeeper(LanesError):
    """No keeper."""


class Absent(KeyError):
    """Above all errors about what is asked for and is not there."""

    def __init__(self, value):
        KeyError.__init__(self, _MESSAGE)
        self.value = value


class NoLane(Absent):
    """No number of a lane."""


class NoScene(Absent):
    """No scene that is there."""


class TooLarge(OverflowError):
    """An answer is too long to be told; value: the limit."""

    def __init__(self, value):
        OverflowError.__init__(self, _MESSAGE)
        self.value = value


class TooMany(OverflowError):
    """There are more than the limit; value: the limit."""

    def __init__(self, value):
        OverflowError.__init__(self, _MESSAGE)
        self.value = value


class NothingToUndo(RuntimeError):
    """No change is left that could be taken back."""
