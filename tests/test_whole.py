"""What chapter 00 says of the whole program."""

import ast
import copy
import importlib
import inspect
import pathlib
import unittest

from rangekeep.clocks import Clock
from rangekeep.console import run_script
from rangekeep.errors import RangekeepError
from rangekeep.fixing import Problem
from rangekeep.framing import Framer
from rangekeep.later import Chain, KeyReceiver, KeySender
from rangekeep.margin import Settings
from rangekeep.offsets import Observation
from rangekeep.orbits import Orbit
from rangekeep.planning import Plan
from rangekeep.receiver import Heard
from rangekeep.records import Collector
from rangekeep.samples import Stream
from rangekeep.tracks import Journey, Tracker
from rangekeep.worlds import Beacon, Sky

PACKAGE = pathlib.Path(__file__).resolve().parent.parent / "rangekeep"
MODULES = [importlib.import_module(f"rangekeep.{path.stem}") for path in sorted(PACKAGE.glob("*.py"))]
CLASSES = [value for module in MODULES for value in vars(module).values()
           if inspect.isclass(value) and value.__module__ == module.__name__]

# Objects whose attributes are as alike as their classes let them be, each made anew.
MADE = {
    "Stream": lambda: Stream((), 0, 0, [], []),
    "Settings": lambda: Settings([], [], 0, False),
    "Orbit": lambda: Orbit(0, 0, (0, 0, 0), (0, 0, 0), (0, 0, 0)),
    "Clock": lambda: Clock(0, 0, 0),
    "Observation": lambda: Observation(0, (0, 0, 0), 0, 0, None),
    "Problem": lambda: Problem([], ((0, 0),) * 3, 0, 0, 0),
    "Journey": lambda: Journey([], 0, 0, 0),
    "Heard": lambda: Heard([], [], []),
    "Beacon": lambda: Beacon(0, None, None, 0, 0, []),
    "Plan": lambda: Plan([], ((0, 0),) * 3, 0, 0, 0, 0),
}
OTHERS = [lambda: Framer(), lambda: Collector(), lambda: Tracker(0, 0, 0), lambda: Chain(0, 1),
          lambda: KeySender(Chain(0, 1), 1, 1), lambda: KeyReceiver(("word", 0), 1, 1, 1, 0),
          lambda: Sky([], 0, (0, 1), [])]


class Anything:
    """An object of another program, with all attributes of another object."""

    def __init__(self, one):
        vars(self).update(vars(one))


class EqualityTest(unittest.TestCase):
    """Point 00.2: an object of a class of this program is equal to no value of another class."""

    def test_each_class_that_compares_is_looked_at(self):
        self.assertEqual(sorted(MADE), sorted(one.__name__ for one in CLASSES if "__eq__" in vars(one)))

    def test_equal_to_its_like(self):
        for name, make in MADE.items():
            with self.subTest(name):
                self.assertIs(make() == make(), True)
                self.assertIs(make() != make(), False)
                self.assertIs(make() == copy.deepcopy(make()), True)

    def test_equal_to_nothing_else(self):
        values = [make() for make in list(MADE.values()) + OTHERS]
        for k, one in enumerate(values):
            row = tuple(vars(one).values())
            others = values[:k] + values[k + 1:] + [None, 0, "", row, list(row), vars(one), object(), type(one),
                                                    Anything(one)]
            for other in others:
                self.assertIs(one == other, False)
                self.assertIs(other == one, False)
                self.assertIs(one != other, True)


class ErrorsTest(unittest.TestCase):
    """Point 00.3."""

    def test_derived_directly_from_one_class(self):
        errors = [one for one in CLASSES if issubclass(one, BaseException)]
        self.assertEqual(len(errors), 7)
        for one in errors:
            self.assertEqual(one.__bases__, (ValueError if one is RangekeepError else RangekeepError,))
            self.assertEqual(one(5).place, 5)

    def test_only_own_errors_are_raised(self):
        names = {one.__name__ for one in CLASSES if issubclass(one, RangekeepError)}
        for module in MODULES:
            for node in ast.walk(ast.parse(inspect.getsource(module))):
                if isinstance(node, ast.Raise):
                    self.assertIn(node.exc.func.id, names)


class TimeTest(unittest.TestCase):
    """Point 00.1: nothing depends on a clock, on random numbers or on what was done before."""

    def test_the_same_answers_again(self):
        script = "\n".join(["band 1 still", "code (2 3) 10 10", "beacon 0 -10 3 0 (9 9 9)", "send 0 time", "know 0",
                            "at (5 6 7) 2", "noise 900 5", "hear", "box (4 6) (5 7) (6 8)", "offsets 0 9", "fix 800",
                            "stop 0 800", "stop 9 800", "kept 1048576 0 0", "moments 0 0 1"])
        first = run_script(script)
        self.assertEqual(run_script(script), first)
        self.assertGreater(len(first), 10)


if __name__ == "__main__":
    unittest.main()
