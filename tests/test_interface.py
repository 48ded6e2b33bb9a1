"""[34] the modules, and [3] the names of arguments."""

import ast
import importlib
import inspect
import pathlib
import unittest

from partedlanes.alike import Likeness
from partedlanes.desks import Desk
from partedlanes.fewest import Counted
from partedlanes.keepers import Keeper
from partedlanes.lanes import Alone, Data
from partedlanes.lengths import Steps
from partedlanes.machines import Machine
from partedlanes.pairs import Pairs
from partedlanes.programs import Program
from partedlanes.promises import Promise
from partedlanes.sets import Sets
from partedlanes.sources import Source
from tests.test_errors import PARENTS

PACKAGE = pathlib.Path(__file__).resolve().parent.parent / "partedlanes"
LIMITED = "(program, *, rule='told', limit=4000)"

# For each module its functions and classes, with the arguments that the document tells.
INTERFACE = {
    "programs": {"Program": "(rows, *, registers=('x',), values=2)"},
    "roads": {"first_common": "(program, index)", "joins_of": "(program, rule)", "unnested": "(program, rule)"},
    "lanes": {"Data": "(*values)", "Alone": "(program, data)"},
    "machines": {"Machine": "(program, datas, *, rule='told')", "tried": "(machine, most, *, keep=True)"},
    "pairs": {"Pairs": "(program, rule)"},
    "stands": {"stands": "(program, rule)", "standing_rows": "(program, rule)"},
    "promises": {"Promise": "(program, rule, row)", "keeps": "(program, rule)", "broken_rows": "(program, rule)"},
    "papers": {
        "accepts": "(program, rule, paper)",
        "closed_paper": "(program, rule)",
        "stands_paper": "(program, rule)",
        "promise_paper": "(program, rule, row)",
        "verdict": "(paper)",
    },
    "sets": {"Sets": LIMITED},
    "tables": {"is_table": "(program, rule, value)"},
    "views": {
        "views": LIMITED,
        "results": LIMITED,
        "can_stand_in_sets": LIMITED,
        "lanes_for": "(program, row, crowd, *, rule='told', limit=4000)",
        "lanes_that_stand": LIMITED,
        "is_view": "(program, row, crowd, datas, *, rule='told')",
        "is_stand": "(program, datas, *, rule='told')",
    },
    "marks": {
        "marked": "(program, choice)",
        "is_good": "(program)",
        "least_marks": "(program)",
        "verdicts": "(program)",
        "views_unlike": "(program, *, limit=4000)",
    },
    "lengths": {
        "Steps": LIMITED,
        "leads": "(program, scene, *, rule='told', limit=4000)",
        "is_ring": "(program, value, *, rule='told', limit=4000)",
        "is_steps_table": "(program, rule, value)",
        "lanes_for_most": LIMITED,
        "is_longer": "(program, datas, steps, *, rule='told')",
    },
    "fewest": {
        "Counted": "(program, lanes, *, rule='told', limit=4000)",
        "is_counted_table": "(program, lanes, rule, value)",
        "fewest_lanes": "(program, row, crowd, *, rule='told', limit=4000)",
        "fewest_that_stand": LIMITED,
    },
    "pieces": {
        "is_piece": "(program, rule, value)",
        "pieces_of": "(sets)",
        "unkept": "(program, rule, pieces)",
        "joined_pieces": "(program, rule, pieces)",
        "touched_pieces": "(program, other, rule, pieces)",
    },
    "sources": {"Source": "(block, *, registers=('x',), values=2)"},
    "texts": {
        "format_program": "(program)",
        "parse_program": "(text)",
        "format_data": "(data)",
        "parse_data": "(text)",
    },
    "desks": {"Desk": "(program)"},
    "alike": {
        "Likeness": "(one, other)",
        "events_alone": "(program, data, most)",
        "is_like_table": "(one, other, table)",
        "surely_alike": "(one, rule, other, other_rule)",
    },
    "keepers": {
        "Keeper": "(program, rule)",
        "tried_edits": "(keeper, edits, *, keep=True)",
        "edits_kept": "(program, rule, edits)",
    },
}

# The methods of classes, and what they take besides the object itself; None for operators, which are used by signs.
SETS = {
    "scenes": "()", "arrivals": "(scene)", "__contains__": None, "__len__": "()", "table": "()", "can_end": "()",
    "rounds": "()",
}
METHODS = {
    ("programs", "Program"): {
        "__getitem__": None, "__len__": "()", "__eq__": None, "branches": "()", "steering": "()", "groups": "()",
        "meets": "()", "is_plain": "()", "classes": "()", "with_row": "(index, row)", "with_joins": "(joins)",
        "ways": "(index)",
    },
    ("lanes", "Data"): {
        "of": "(values)", "__getitem__": None, "__add__": None, "__radd__": None, "__mul__": None, "__rmul__": None,
        "__len__": "()", "__eq__": None, "__repr__": "()",
    },
    ("lanes", "Alone"): {"step": "()", "go": "(most)", "copy": "()", "__eq__": None},
    ("machines", "Machine"): {
        "step": "()", "go": "(most)", "events": "()", "row_of": "(lane)", "registers_of": "(lane)", "alive": "()",
        "__len__": "()", "state": "()", "copy": "()", "__eq__": None, "trial": "()", "pile": "()",
    },
    ("pairs", "Pairs"): {
        "states": "()", "__contains__": None, "__len__": "()", "steps": "(state)", "does": "(state)",
        "are_together": "(row)", "is_alone": "(row)", "others": "(row)", "shown": "(state)", "__eq__": None,
    },
    ("promises", "Promise"): {
        "broken": "()", "bounds": "()", "unrelated": "()", "at_least": "(other)", "__eq__": None, "kept_by": "()",
    },
    ("sets", "Sets"): SETS,
    ("fewest", "Counted"): SETS,
    ("lengths", "Steps"): {
        "is_endless": "()", "ring": "()", "__getitem__": None, "numbers": "(scene)", "table": "()",
        "__contains__": None, "__len__": "()",
    },
    ("sources", "Source"): {"lowered": "()", "seen": "(datas, most)", "__eq__": None},
    ("desks", "Desk"): {"answer": "(line)"},
    ("alike", "Likeness"): {"is_alike": "()", "difference": "()", "__call__": "(data)", "table": "()"},
    ("keepers", "Keeper"): {
        "now": "()", "__getitem__": None, "__setitem__": None, "put_row": "(index, row)", "put_joins": "(joins)",
        "__len__": "()", "undo": "()", "papers": "()", "copy": "()", "__eq__": None, "trial": "()",
    },
}


def signature(action):
    return str(inspect.signature(action)).replace("(self, ", "(").replace("(self)", "()")


def names_at_top(path):
    """The names that a file defines by itself at module level, but for those that begin with an underscore."""
    found = []
    for node in ast.parse(path.read_text()).body:
        if isinstance(node, (ast.FunctionDef, ast.ClassDef)):
            found.append(node.name)
        if isinstance(node, ast.Assign):
            found += [part.id for part in node.targets]
    return sorted(name for name in found if not name.startswith("_"))


class TestInterface(unittest.TestCase):
    def test_all_stands_where_it_is_listed(self):
        for name, things in INTERFACE.items():
            module = importlib.import_module(f"partedlanes.{name}")
            for thing, told in things.items():
                found = getattr(module, thing)
                self.assertEqual(found.__module__, f"partedlanes.{name}")
                self.assertEqual(signature(found), told, thing)

    def test_methods_stand_in_the_classes_themselves(self):
        classes = {(name, thing) for name, things in INTERFACE.items() for thing in things if thing[0].isupper()}
        self.assertEqual(classes, set(METHODS))
        for (name, kind), methods in METHODS.items():
            found = vars(getattr(importlib.import_module(f"partedlanes.{name}"), kind))
            for method, told in methods.items():
                self.assertIn(method, found)
                if told is not None:
                    action = found[method].__func__ if isinstance(found[method], staticmethod) else found[method]
                    self.assertEqual(signature(action), told, method)

    def test_modules_have_just_the_names_that_the_document_gives_them(self):
        for name, things in [*INTERFACE.items(), ("errors", PARENTS)]:
            self.assertEqual(names_at_top(PACKAGE / f"{name}.py"), sorted(things), name)

    def test_public_methods_are_just_those_that_the_document_tells(self):
        for (name, kind), methods in METHODS.items():
            found = vars(getattr(importlib.import_module(f"partedlanes.{name}"), kind))
            public = {method for method, thing in found.items() if method[0] != "_" and callable(thing)}
            public |= {method for method, thing in found.items() if isinstance(thing, staticmethod)}
            self.assertEqual(public, {method for method in methods if method[0] != "_"}, kind)

    def test_attributes_are_set_when_objects_are_made(self):
        program = Program([("take", "x"), ("group", "a", None)])
        for made, names in ((program, "registers size rows end"), (Data(1), "digits"),
                            (Alone(program, Data()), "row registers many_taken"), (Machine(program, [Data()]), "keep"),
                            (Pairs(program, "told"), "start"), (Promise(program, "told", 1), "row anchor kept"),
                            (Steps(program), "greatest wait"), (Source((("take", "x"),)), "block"),
                            (Keeper(program, "told"), "keep")):
            for name in names.split():
                self.assertIn(name, vars(made))

    def test_classes_that_can_be_made(self):
        program = Program([("take", "x"), ("group", "a", None)])
        for made in (Sets(program), Counted(program, 1), Desk(program), Likeness(program, program)):
            self.assertIn((made.__class__.__module__.split(".")[1], made.__class__.__name__), METHODS)


if __name__ == "__main__":
    unittest.main()
