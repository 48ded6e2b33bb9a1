"""[34] the modules, and [3] the names of arguments."""

import importlib
import inspect
import unittest

# For each module its functions and classes, with the arguments that the document tells.
INTERFACE = {
    "programs": {"Program": "(rows, *, registers=('x',), values=2)"},
    "roads": {"first_common": "(program, index)", "joins_of": "(program, rule)", "unnested": "(program, rule)"},
    "lanes": {"Data": "(*values)", "Alone": "(program, data)"},
    "machines": {"Machine": "(program, datas, *, rule='told')", "tried": "(machine, most, *, keep=True)"},
    "pairs": {"Pairs": "(program, rule)"},
    "promises": {"Promise": "(program, rule, row)", "keeps": "(program, rule)", "broken_rows": "(program, rule)"},
    "papers": {
        "accepts": "(program, rule, paper)",
        "closed_paper": "(program, rule)",
        "stands_paper": "(program, rule)",
        "promise_paper": "(program, rule, row)",
        "verdict": "(paper)",
    },
    "sets": {"Sets": "(program, *, rule='told', limit=4000)"},
    "tables": {"is_table": "(program, rule, value)"},
    "views": {
        "views": "(program, *, rule='told', limit=4000)",
        "results": "(program, *, rule='told', limit=4000)",
        "can_stand_in_sets": "(program, *, rule='told', limit=4000)",
        "lanes_for": "(program, row, crowd, *, rule='told', limit=4000)",
        "lanes_that_stand": "(program, *, rule='told', limit=4000)",
        "is_view": "(program, row, crowd, datas, *, rule='told')",
        "is_stand": "(program, datas, *, rule='told')",
    },
    "stands": {"stands": "(program, rule)", "standing_rows": "(program, rule)"},
    "marks": {
        "marked": "(program, choice)",
        "is_good": "(program)",
        "least_marks": "(program)",
        "verdicts": "(program)",
        "views_unlike": "(program, *, limit=4000)",
    },
    "lengths": {
        "Steps": "(program, *, rule='told', limit=4000)",
        "leads": "(program, scene, *, rule='told', limit=4000)",
        "is_ring": "(program, value, *, rule='told', limit=4000)",
        "is_steps_table": "(program, rule, value)",
        "lanes_for_most": "(program, *, rule='told', limit=4000)",
        "is_longer": "(program, datas, steps, *, rule='told')",
    },
    "fewest": {
        "Counted": "(program, lanes, *, rule='told', limit=4000)",
        "is_counted_table": "(program, lanes, rule, value)",
        "fewest_lanes": "(program, row, crowd, *, rule='told', limit=4000)",
        "fewest_that_stand": "(program, *, rule='told', limit=4000)",
    },
    "pieces": {
        "is_piece": "(program, rule, value)",
        "pieces_of": "(sets)",
        "unkept": "(program, rule, pieces)",
        "joined_pieces": "(program, rule, pieces)",
        "touched_pieces": "(program, other, rule, pieces)",
    },
    "sources": {"Source": "(block, *, registers=('x',), values=2)"},
}

# The methods of classes, and what they take besides the object itself.
SETS = {
    "scenes": "()", "arrivals": "(scene)", "__contains__": None, "__len__": "()", "table": "()", "can_end": "()",
    "rounds": "()",
}
METHODS = {
    ("sets", "Sets"): SETS,
    ("fewest", "Counted"): SETS,
    ("lengths", "Steps"): {
        "is_endless": "()", "ring": "()", "__getitem__": None, "numbers": "(scene)", "table": "()",
        "__contains__": None, "__len__": "()",
    },
    ("sources", "Source"): {"lowered": "()", "seen": "(datas, most)", "__eq__": None},
    ("machines", "Machine"): {
        "step": "()", "go": "(most)", "events": "()", "row_of": "(lane)", "registers_of": "(lane)", "alive": "()",
        "__len__": "()", "state": "()", "copy": "()", "__eq__": None, "trial": "()", "pile": "()",
    },
}


def signature(action):
    return str(inspect.signature(action)).replace("(self, ", "(").replace("(self)", "()")


class TestInterface(unittest.TestCase):
    def test_all_stands_where_it_is_listed(self):
        for name, things in INTERFACE.items():
            module = importlib.import_module(f"partedlanes.{name}")
            for thing, told in things.items():
                found = getattr(module, thing)
                self.assertEqual(found.__module__, f"partedlanes.{name}")
                self.assertEqual(signature(found), told, thing)

    def test_methods_stand_in_the_classes_themselves(self):
        for (name, kind), methods in METHODS.items():
            found = vars(getattr(importlib.import_module(f"partedlanes.{name}"), kind))
            for method, told in methods.items():
                self.assertIn(method, found)
                if told is not None:
                    self.assertEqual(signature(found[method]), told, method)


if __name__ == "__main__":
    unittest.main()
