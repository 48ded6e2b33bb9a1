"""[34] the modules, and [3] the names of arguments."""

import importlib
import inspect
import unittest

# For each module its functions and classes, with the arguments that the document tells.
INTERFACE = {
    "programs": {"Program": "(rows, *, registers=('x',), values=2)"},
    "roads": {"first_common": "(program, index)", "joins_of": "(program, rule)", "unnested": "(program, rule)"},
    "lanes": {"Data": "(*values)", "Alone": "(program, data)"},
    "machines": {"Machine": "(program, datas, *, rule='told')", "tried": "(machine, most, *, keep=True)"},
    "pairs": {"Pairs": "(program, rule)"},
    "promises": {"Promise": "(program, rule, row)", "keeps": "(program, rule)", "broken_rows": "(program, rule)"},
    "sets": {"Sets": "(program, *, rule='told', limit=4000)"},
    "tables": {"is_table": "(program, rule, value)"},
    "views": {
        "views": "(program, *, rule='told', limit=4000)",
        "results": "(program, *, rule='told', limit=4000)",
        "can_stand_in_sets": "(program, *, rule='told', limit=4000)",
        "lanes_for": "(program, row, crowd, *, rule='told', limit=4000)",
        "lanes_that_stand": "(program, *, rule='told', limit=4000)",
        "is_view": "(program, row, crowd, datas, *, rule='told')",
        "is_stand": "(program, datas, *, rule='told')",
    },
}

# The methods of classes, and what they take besides the object itself.
METHODS = {
    ("sets", "Sets"): {
        "scenes": "()", "arrivals": "(scene)", "__contains__": None, "__len__": "()", "table": "()", "can_end": "()",
        "rounds": "()",
    },
}


def signature(action):
    return str(inspect.signature(action)).replace("(self, ", "(").replace("(self)", "()")


class TestInterface(unittest.TestCase):
    def test_all_stands_where_it_is_listed(self):
        for name, things in INTERFACE.items():
            module = importlib.import_module(f"partedlanes.{name}")
            for thing, told in things.items():
                found = getattr(module, thing)
                self.assertEqual(found.__module__, f"partedlanes.{name}")
                self.assertEqual(signature(found), told, thing)

    def test_methods_stand_in_the_classes_themselves(self):
        for (name, kind), methods in METHODS.items():
            found = vars(getattr(importlib.import_module(f"partedlanes.{name}"), kind))
            for method, told in methods.items():
                self.assertIn(method, found)
                if told is not None:
                    self.assertEqual(signature(found[method]), told, method)


if __name__ == "__main__":
    unittest.main()
