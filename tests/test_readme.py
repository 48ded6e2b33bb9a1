"""The examples of README.md."""

import ast
import pathlib
import re
import unittest

README = pathlib.Path(__file__).resolve().parent.parent / "README.md"


class TestReadme(unittest.TestCase):
    def test_examples(self):
        names, told = {}, 0
        for code in re.findall(r"```python\n(.*?)```", README.read_text(), re.DOTALL):
            for statement in ast.parse(code).body:
                row = code.split("\n")[statement.end_lineno - 1]
                _, mark, expected = row.partition("#")
                source = ast.get_source_segment(code, statement)
                if isinstance(statement, ast.Expr):
                    value = eval(source, names)
                else:
                    exec(source, names)
                    value = names.get(statement.targets[0].id) if isinstance(statement, ast.Assign) and isinstance(
                        statement.targets[0], ast.Name) else None
                # What stands behind a mark, up to a colon behind brackets, is what is told, if it is a value.
                expected = re.sub(r"^(.*[)\]}]|None|\d+): .*$", r"\1", expected.strip())
                if mark and value is not None or expected == "None":
                    try:
                        right = eval(expected, names)
                    except (SyntaxError, NameError):
                        continue
                    told += 1
                    self.assertEqual(value, right, source)
        self.assertGreater(told, 20)

    def test_all_modules_are_told(self):
        text = README.read_text()
        for path in (README.parent / "partedlanes").iterdir():
            if path.suffix == ".py" and path.stem != "__init__":
                self.assertRegex(text, rf"`(partedlanes\.)?{path.stem}`")


if __name__ == "__main__":
    unittest.main()
