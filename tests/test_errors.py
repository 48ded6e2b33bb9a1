"""[34] the exceptions."""

import inspect
import unittest

from partedlanes import errors

UNDER_LANES = (
    "BadRegisters", "BadNumber", "BadRow", "BadRows", "BadJoins", "BadProgram", "BadRule", "BadData", "BadText",
    "BadKind", "BadMachine", "NotNested", "NotPlain", "BadState", "BadPromise", "BadPaper", "BadLine", "BadBlock",
    "Guarded", "Unlike", "BadEdits", "BadKeeper",
)
UNDER_ABSENT = ("NoLane", "NoScene")
UNDER_OVERFLOW = ("TooLarge", "TooMany")
PARENTS = {
    "LanesError": ValueError,
    "Absent": KeyError,
    "NothingToUndo": RuntimeError,
    **{name: errors.LanesError for name in UNDER_LANES},
    **{name: errors.Absent for name in UNDER_ABSENT},
    **{name: OverflowError for name in UNDER_OVERFLOW},
}


class TestErrors(unittest.TestCase):
    def test_every_class_is_there_and_no_other(self):
        found = [name for name, kind in vars(errors).items() if inspect.isclass(kind)]
        self.assertEqual(sorted(found), sorted(PARENTS))
        for name in PARENTS:
            self.assertEqual(getattr(errors, name).__module__, "partedlanes.errors")

    def test_each_class_stands_under_just_one(self):
        for name, parent in PARENTS.items():
            self.assertEqual(getattr(errors, name).__bases__, (parent,), name)

    def test_none_stands_under_another_one_but_as_told(self):
        for name, parent in PARENTS.items():
            for other in PARENTS:
                under = issubclass(getattr(errors, name), getattr(errors, other))
                self.assertEqual(under, name == other or parent is getattr(errors, other), (name, other))

    def test_python_errors_above_are_just_those_told(self):
        for name in UNDER_LANES:
            self.assertFalse(issubclass(getattr(errors, name), (KeyError, OverflowError, RuntimeError)), name)
        for name in UNDER_ABSENT + UNDER_OVERFLOW + ("Absent", "NothingToUndo"):
            self.assertFalse(issubclass(getattr(errors, name), ValueError), name)

    def test_value_by_position_and_by_name(self):
        marker = object()
        for name in PARENTS:
            if name != "NothingToUndo":
                kind = getattr(errors, name)
                self.assertIs(kind(marker).value, marker)
                self.assertIs(kind(value=marker).value, marker)
                self.assertRaises(TypeError, kind)

    def test_a_raised_error_carries_its_value(self):
        with self.assertRaises(KeyError) as caught:
            raise errors.NoLane([1])
        self.assertEqual(caught.exception.value, [1])

    def test_nothing_to_undo_takes_nothing(self):
        with self.assertRaises(RuntimeError):
            raise errors.NothingToUndo()
        self.assertFalse(hasattr(errors.NothingToUndo(), "value"))

    def test_errors_can_be_shown(self):
        for name in PARENTS:
            kind = getattr(errors, name)
            error = kind() if name == "NothingToUndo" else kind(3)
            self.assertIsInstance(str(error), str)


if __name__ == "__main__":
    unittest.main()
