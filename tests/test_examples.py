"""The examples of the document, as they stand in examples.txt.

Each begins with `>>>`; the line behind it, if it is none, is what Python shows of the value,
or the error that is raised. Lines with # name the section.
"""

import ast
import importlib
import os
import unittest

import spanalike
from spanalike.errors import BeatError
from tests.tools import fields_of

HERE = os.path.dirname(os.path.abspath(__file__))


def names_of_the_package():
    """All names that the modules of the package define."""
    names = {}
    folder = os.path.dirname(os.path.abspath(spanalike.__file__))
    for file in sorted(os.listdir(folder)):
        if file.endswith(".py") and file != "__init__.py":
            module = importlib.import_module("spanalike." + file[:-3])
            for name, value in vars(module).items():
                if getattr(value, "__module__", None) == module.__name__ or name in ("DEEDS", "ASKS"):
                    names[name] = value
    return names


def examples():
    """All examples: the section, the line, and what is shown, None for nothing."""
    with open(os.path.join(HERE, "examples.txt"), encoding="utf-8") as file:
        lines = file.read().split("\n")
    found, section = [], None
    for index, line in enumerate(lines):
        if line.startswith("# "):
            section = line[2:]
        if line.startswith(">>> "):
            behind = lines[index + 1] if index + 1 < len(lines) else ""
            found.append((section, line[4:], None if behind.startswith(">>> ") or behind == "" else behind))
    return found


def shown_error(error):
    """An error with its fields."""
    told = [getattr(error, name) for name in fields_of(error)]
    fields = ", ".join(shown_error(value) if isinstance(value, BeatError) else repr(value) for value in told)
    return f"{type(error).__name__}({fields})"


def shown(line, names):
    """What a line shows: its value, or its error."""
    try:
        if isinstance(ast.parse(line).body[0], ast.Expr):
            return repr(eval(line, names))
        exec(line, names)
        return None
    except BeatError as error:
        return "raises " + shown_error(error)


class TestExamples(unittest.TestCase):
    def test_each_shows_what_it_shows(self):
        names = names_of_the_package()
        told = examples()
        self.assertEqual(len(told), 132)
        for section, line, wanted in told:
            with self.subTest(section=section, line=line):
                wanted = wanted.replace('"', "'") if wanted and wanted.startswith("raises ") else wanted
                self.assertEqual(shown(line, names), wanted)


if __name__ == "__main__":
    unittest.main()
