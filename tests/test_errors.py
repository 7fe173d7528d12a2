import unittest

from everyrounding import errors
from everyrounding.errors import BadProgram, BadText, Refused, TooMany

PLAIN = ["BadCount", "BadFormat", "BadNumber", "BadExact", "BadMode", "BadOp", "BadCut", "BadPlan", "BadChain",
         "BadFamily", "BadSpan", "BadBox", "NotAsked"]


class TestErrors(unittest.TestCase):
    def test_all_sixteen_are_direct_subclasses(self):
        self.assertEqual(Refused.__bases__, (ValueError,))
        names = PLAIN + ["BadText", "BadProgram", "TooMany"]
        self.assertEqual(len(names), 16)
        for name in names:
            self.assertEqual(getattr(errors, name).__bases__, (Refused,), name)
        self.assertEqual({c.__name__ for c in Refused.__subclasses__()}, set(names))

    def test_creation(self):
        self.assertIsInstance(Refused(), ValueError)
        for name in PLAIN:
            self.assertIsInstance(getattr(errors, name)(), Refused)
        self.assertEqual(BadText(3).at, 3)
        self.assertEqual(BadProgram(-1).at, -1)
        self.assertEqual(TooMany(64).limit, 64)

    def test_creation_checks_nothing(self):
        for value in (None, "x", True, -7, [1]):
            self.assertEqual(BadText(value).at, value)
            self.assertEqual(BadProgram(value).at, value)
            self.assertEqual(TooMany(value).limit, value)
