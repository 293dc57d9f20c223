"""The interface, as interface.txt lists it: each name stands in its file, with its parameters.

Lines with # name the file. A method stands in the body of its class.
"""

import ast
import importlib
import inspect
import os
import unittest

import spanalike

HERE = os.path.dirname(os.path.abspath(__file__))
FOLDER = os.path.dirname(os.path.abspath(spanalike.__file__))


def listed():
    """All pairs of a file's name and a name with its parameters."""
    with open(os.path.join(HERE, "interface.txt"), encoding="utf-8") as file:
        lines = file.read().split("\n")
    found, section = [], None
    for line in lines:
        if line.startswith("# "):
            section = line[2:]
        elif line:
            found.append((section, line))
    return found


def defined_in(section):
    """The names that a file defines by `def` and `class`."""
    with open(os.path.join(FOLDER, section + ".py"), encoding="utf-8") as file:
        tree = ast.parse(file.read())
    return {node.name for node in tree.body if isinstance(node, (ast.FunctionDef, ast.ClassDef))}


class TestInterface(unittest.TestCase):
    def test_each_name(self):
        told = listed()
        self.assertEqual(len(told), 242)
        for section, line in told:
            with self.subTest(section=section, line=line):
                name, parameters = line[:-1].split("(", 1)
                owner, _, method = name.partition(".")
                self.assertIn(owner, defined_in(section))
                value = getattr(importlib.import_module("spanalike." + section), owner)
                if method:
                    self.assertIn(method, vars(value))
                    kept = vars(value)[method]
                    value = kept.__func__ if isinstance(kept, staticmethod) else kept
                names = [str(its) for its in inspect.signature(value).parameters.values()]
                if method and not isinstance(kept, staticmethod):
                    self.assertEqual(names.pop(0), "self")
                self.assertEqual(", ".join(names), parameters)


if __name__ == "__main__":
    unittest.main()
