"""The examples of the document, word for word, and those of README.md."""

import doctest
import importlib
import inspect
import pathlib
import unittest

from giveways.errors import HouseError

HERE = pathlib.Path(__file__).resolve().parent
SECTIONS = {"03": 5, "04": 6, "05": 8, "06": 7, "07": 8, "08": 7, "09": 9, "10": 6, "11": 7, "12": 5, "13": 7, "14": 7, "15": 5}
MODULES = ("houses", "scripts", "texts", "lanes", "groups", "needs", "clash", "orders", "ends", "sides", "watch", "told", "edits",
           "claims", "board", "desk")


def functions():
    """Every function and class that stands in a file of the interface."""
    told = {}
    for name in MODULES:
        module = importlib.import_module("giveways." + name)
        told.update({key: worth for key, worth in vars(module).items()
                     if (inspect.isfunction(worth) or inspect.isclass(worth)) and worth.__module__ == module.__name__})
    return told


def examples(section):
    """Each row behind >>> with the row below it that tells what comes, None if there is none."""
    rows = (HERE / "examples" / f"section_{section}.txt").read_text(encoding="utf-8").splitlines()
    for at, row in enumerate(rows):
        if row.startswith(">>> "):
            below = rows[at + 1] if at + 1 < len(rows) and not rows[at + 1].startswith(">>> ") else None
            yield row[4:], below


def outcome(source, known):
    """What the row tells, or raises."""
    try:
        return repr(eval(source, known))
    except HouseError as error:
        worths = ", ".join(f"{key}={worth!r}" for key, worth in vars(error).items())
        return f"raises {type(error).__name__}({worths})"


class Document(unittest.TestCase):
    def test_each_section(self):
        for section, many in SECTIONS.items():
            known, told = functions(), 0
            for source, below in examples(section):
                if below is None:
                    exec(source, known)
                else:
                    self.assertEqual(outcome(source, known), below, source)
                    told += 1
            self.assertEqual(told, many, section)


class Readme(unittest.TestCase):
    def test_its_examples(self):
        told = doctest.testfile(str(HERE.parent / "README.md"), module_relative=False)
        self.assertEqual(told.failed, 0)
        self.assertGreater(told.attempted, 0)
