import unittest
from fractions import Fraction

from everyrounding.doors import both_ways, door_holds, door_question, room, sumdoor_holds, sumdoor_question, threshold
from everyrounding.errors import BadCount, BadFormat, BadMode, BadNumber, BadOp, NotAsked
from everyrounding.places import high_power
from everyrounding.products import exact_product, exact_quotient
from everyrounding.rests import convert
from everyrounding.stations import deed
from everyrounding.sums import exact_sum
from everyrounding.values import alike, digits, exact_of, fits, number
from tests.oracle import INF, MINUS_INF, MINUS_ZERO, MODES, NAN, TINY, ZERO, assert_refused, finite_numbers, two, value_of

OPS = ("add", "mul", "div", "root")
NEARS = ("even", "away")
FIVE = ("even", "away", "zero", "up", "down")
ONE, THREE = (0, 1, 0), (0, 3, 0)


def bound(op, p):
    return {"add": 2 * p + 1, "mul": 2 * p, "div": 2 * p, "root": 2 * p + 2}[op]


def unlike(op, form, inner, x, y, mode):
    return not alike(*both_ways(op, form, inner, x, y, mode=mode))


def door_fails_at(op, near, p, P, x, y):
    return unlike(op, (p, -600, 600), (P, -600, 600), x, y, near)


def operands_of(op, p):
    """Operands that stand for all: their digits and how far their powers are apart matter alone."""
    ms = range(1 << (p - 1), 1 << p)
    if op == "root":
        return [(number(0, m, k), None) for m in ms for k in (0, 1)]
    if op == "add":
        return [(number(0, m, 0), number(s, m2, k)) for m in ms for m2 in ms for k in range(-2 * p - 4, 1) for s in (0, 1)]
    return [(number(0, m, 0), number(0, m2, 0)) for m in ms for m2 in ms]


class TestDoors(unittest.TestCase):
    def test_threshold(self):
        for op in OPS:
            for p in range(2, 69):
                self.assertEqual(threshold(op, p), bound(op, p))
            for p in (1, 69, 0, -2, True, None, "2"):
                assert_refused(self, BadCount, threshold, op, p)
        for op in ("sub", "muladd", "convert", "x", "", None, True, ["add"]):
            assert_refused(self, BadOp, threshold, op, None)

    def test_claims_against_all_operands(self):
        for p in (2, 3, 4):
            for op in OPS:
                operands = operands_of(op, p)
                for near in NEARS:
                    for P in range(p, bound(op, p) + 3):
                        fails = any(door_fails_at(op, near, p, P, x, y) for x, y in operands)
                        self.assertIs(door_holds(op, near, p, P), not fails, (op, near, p, P))

    def test_bounds_of_the_claim(self):
        for op in OPS:
            for near in NEARS:
                for p in range(2, 69):
                    T = bound(op, p)
                    small = (op == "mul" and near == "even" and p <= 3) or (op == "div" and near == "away" and p == 2)
                    for P in {p, p + 1, (p + T) // 2, T - 1, T, T + 1, 140}:
                        if P <= 140:
                            holds = P == p or P >= T or small
                            self.assertIs(door_holds(op, near, p, P), holds)
                            told = door_question(op, near, p, P)
                            self.assertEqual(told[0], "holds" if holds else "fails")
                            self.assertEqual(len(told), 1 if holds else 3)

    def test_witnesses_when_they_are_run(self):
        for op in OPS:
            for near in NEARS:
                for p in range(2, 69):
                    T = bound(op, p)
                    found = {door_question(op, near, p, P) for P in range(p + 1, min(T, 141))}
                    # The witness does not depend on P.
                    self.assertEqual(len(found), 1)
                    told = found.pop()
                    if told == ("holds",):
                        continue
                    _, x, y = told
                    self.assertLessEqual(max(digits(z) for z in (x, y) if z is not None), p)
                    for P in range(p + 1, min(T, 141)):
                        self.assertTrue(door_fails_at(op, near, p, P, x, y), (op, near, p, P))

    def test_told_witnesses(self):
        told = {("add", "even", 4): (9, Fraction(15, 32)), ("add", "away", 2): (3, Fraction(3, 8)), ("mul", "away", 5): (31, 17),
                ("mul", "even", 4): (13, 13), ("mul", "even", 5): (23, 23), ("mul", "even", 6): (61, 53), ("div", "even", 3): (64, 7),
                ("div", "away", 3): (4, 5), ("div", "away", 4): (7, 9), ("root", "even", 2): (3, None), ("root", "even", 3): (14, None),
                ("root", "away", 2): (6, None), ("root", "away", 3): (5, None)}
        for (op, near, p), (x, y) in told.items():
            found = door_question(op, near, p, p + 1)
            self.assertEqual([None if z is None else value_of(z) for z in found[1:]], [x, y], (op, near, p))

    def test_order_of_errors(self):
        for call in (door_holds, door_question):
            assert_refused(self, BadOp, call, "sub", None, None, None)
            for near in ("zero", "up", "down", "odd", "x", None, True, ["even"]):
                assert_refused(self, BadMode, call, "add", near, None, None)
            for p in (1, 0, -2, 69, True, None):
                assert_refused(self, BadCount, call, "add", "even", p, 100)
                assert_refused(self, BadCount, call, "add", "even", p, None)
            for P in (3, 141, True, None, -1):
                assert_refused(self, BadCount, call, "add", "even", 4, P)
            self.assertIn(call("add", "even", 4, 4), (True, ("holds",)))
            self.assertIn(call("root", "away", 68, 140), (True, ("holds",)))


def exact_power(op, x, y):
    """The power of the exact result."""
    if op == "root":
        n, d, _ = exact_of(x)
        return high_power((n, d, 2))
    return high_power({"add": exact_sum, "mul": exact_product, "div": exact_quotient}[op](x, y))


def slow_room(op, near, form):
    """The told room by walking through the moves of both operands."""
    p, lo, hi = form
    _, x, y = door_question(op, near, p, p + 1)
    moves = range(lo - 3 * p - 3, hi + 3 * p + 4)
    for a in moves:
        if op == "root" and a % 2 == 1:
            continue
        for b in [a] if op in ("add", "root") else moves:
            x2, y2 = (0, x[1], x[2] + a), None if y is None else (0, y[1], y[2] + b)
            if fits(form, x2) and (y2 is None or fits(form, y2)) and lo <= exact_power(op, x2, y2) - p + 1 <= hi:
                return (x2, y2)
    return None


class TestRoom(unittest.TestCase):
    def test_against_walking(self):
        empty = 0
        for p in (2, 3, 4, 5):
            for lo in (-9, -4, -1, 0, 3, 7):
                for hi in range(lo, lo + 8):
                    for op in OPS:
                        for near in NEARS:
                            form = (p, lo, hi)
                            if (op == "mul" and near == "even" and p <= 3) or (op == "div" and near == "away" and p == 2):
                                assert_refused(self, NotAsked, room, op, near, form)
                                continue
                            told = room(op, near, form)
                            self.assertEqual(told, slow_room(op, near, form), (op, near, form))
                            empty += told is None
        self.assertGreater(empty, 50)

    def test_great_formats(self):
        for p in (24, 53, 67, 68):
            for op in OPS:
                for near in NEARS:
                    x, y = room(op, near, (p, -300, 300))
                    for P in (p + 1, bound(op, p) - 1):
                        self.assertTrue(unlike(op, (p, -300, 300), (P, -600, 600), x, y, near), (op, near, p))
                    for form in [(p, 600, 600), (p, -600, -600), (p, 0, 0)]:
                        self.assertIsNone(room(op, near, form))
                assert_refused(self, NotAsked, room, op, "even", (69, -600, 600))
                assert_refused(self, NotAsked, room, op, "away", (140, 0, 0))

    def test_order_of_errors(self):
        assert_refused(self, BadOp, room, "sub", None, None)
        assert_refused(self, BadMode, room, "add", "zero", None)
        assert_refused(self, BadFormat, room, "add", "even", (1, 0, 0))
        assert_refused(self, BadMode, room, "mul", "odd", (2, 0, 2))
        assert_refused(self, NotAsked, room, "mul", "even", (3, 0, 2))
        self.assertIsNotNone(room("mul", "even", (4, -20, 20)))


class TestBothWays(unittest.TestCase):
    def test_against_two_steps(self):
        numbers = finite_numbers(TINY)[::2] + [INF, MINUS_INF, NAN, ZERO, (0, 5, -3), (1, 1, 1999), (0, (1 << 600) - 1, -2000)]
        for mode in MODES:
            for inner in [(4, -2, 3), (2, 0, 2), (3, 1, 1)]:
                for x in numbers:
                    for y in numbers:
                        for op in ("add", "mul", "div"):
                            first = deed(op, inner, x, y, mode=mode)[0]
                            told = (deed(op, TINY, x, y, mode=mode)[0], convert(TINY, first, mode=mode)[0])
                            self.assertEqual(both_ways(op, TINY, inner, x, y, mode=mode), told)
                    told = (deed("root", TINY, x, mode=mode)[0], convert(TINY, deed("root", inner, x, mode=mode)[0], mode=mode)[0])
                    self.assertEqual(both_ways("root", TINY, inner, x, mode=mode), told)
                    self.assertEqual(both_ways("root", TINY, inner, x, None, mode=mode), told)
        self.assertEqual(both_ways("add", TINY, TINY, ONE, ONE), ((0, 1, 1), (0, 1, 1)))

    def test_wrong_arguments(self):
        for op in ("add", "mul", "div"):
            assert_refused(self, BadNumber, both_ways, op, TINY, TINY, ONE)
            assert_refused(self, BadNumber, both_ways, op, TINY, TINY, ONE, None, mode="x")
            assert_refused(self, BadNumber, both_ways, op, TINY, TINY, ONE, (0, 2, 0), mode="x")
        for y in (ONE, NAN, True, 0, (), "y"):
            assert_refused(self, BadNumber, both_ways, "root", TINY, TINY, ONE, y, mode="x")
        assert_refused(self, BadOp, both_ways, "sub", None, None, None, None, mode=None)
        assert_refused(self, BadFormat, both_ways, "add", None, None, None, None, mode=None)
        assert_refused(self, BadFormat, both_ways, "add", TINY, None, None, None, mode=None)
        assert_refused(self, BadNumber, both_ways, "add", TINY, TINY, None, None, mode=None)
        assert_refused(self, BadMode, both_ways, "root", TINY, TINY, ONE, mode="x")


class TestSumDoors(unittest.TestCase):
    def fails_somewhere(self, form, inner, five, numbers):
        return any(unlike("add", form, inner, x, y, five) for at, x in enumerate(numbers) for y in numbers[at:])

    def test_against_all_pairs(self):
        for p, lo in [(2, -1), (2, 0), (3, 0)]:
            for R in range(4 if p == 3 else 6):
                form = (p, lo, lo + R)
                numbers = finite_numbers(form)
                for P in {max(p - 1, 2), p, p + 1, p + R - 1, p + R, p + R + 1, 2 * p, 2 * p + 1, 2 * p + 2} - {1}:
                    inner = (P, lo - P % 2, max(lo, form[2] + p - P) + P % 3)
                    for five in FIVE:
                        fails = self.fails_somewhere(form, inner, five, numbers)
                        self.assertIs(sumdoor_holds(form, inner, five), not fails, (form, inner, five))
                        told = sumdoor_question(form, inner, five)
                        self.assertEqual(told[0], "fails" if fails else "holds")

    def test_condition_and_witnesses_when_they_are_run(self):
        for p in (2, 3, 5, 11, 53):
            for R in (0, 1, 2, 3, 4, p - 1, p, p + 1, p + 2, 2 * p, 90):
                for lo in (-40, 3):
                    form = (p, lo, lo + R)
                    for P in {2, p - 1, p, p + 1, p + R - 1, p + R, p + R + 1, 2 * p - 1, 2 * p, 2 * p + 1, 2 * p + 2} - {1}:
                        if not 2 <= P <= 140:
                            continue
                        inner = (P, lo - 2, max(lo - 2, form[2] + p - P))
                        for five in FIVE:
                            self.check(form, inner, five, R)

    def check(self, form, inner, five, R):
        p, lo, hi = form
        P = inner[0]
        if five in ("zero", "up", "down"):
            holds = P >= p
        elif five == "away":
            holds = P == p or P >= min(2 * p + 1, p + R)
        else:
            holds = P == p or P >= min(2 * p + 1, p + R) or (P > p and R <= 2)
        self.assertIs(sumdoor_holds(form, inner, five), holds)
        told = sumdoor_question(form, inner, five)
        if holds:
            self.assertEqual(told, ("holds",))
            return
        kind, x, y = told
        if P < p:
            values = ((2 ** p - 1) * two(lo), 0)
        else:
            values = ((2 ** (p - 1) + 1) * two(hi), two(hi - 1) - two(max(hi - p - 1, lo)))
        self.assertEqual((kind, value_of(x), value_of(y)), ("fails",) + values)
        self.assertNotEqual(y, MINUS_ZERO)
        self.assertTrue(fits(form, x) and fits(form, y))
        self.assertTrue(unlike("add", form, inner, x, y, five), (form, inner, five))

    def test_wrong_arguments(self):
        for call in (sumdoor_holds, sumdoor_question):
            assert_refused(self, BadFormat, call, None, None, None)
            assert_refused(self, BadFormat, call, TINY, (1, 0, 2), None)
            for five in ("odd", "x", None, True, ["even"]):
                assert_refused(self, BadMode, call, TINY, (3, 1, 1), five)
            for inner in [(3, 1, 1), (3, 1, 5), (3, 0, 0), (2, 0, 1), (3, -1, 0)]:
                assert_refused(self, NotAsked, call, TINY, inner, "even")
                assert_refused(self, BadMode, call, TINY, inner, "odd")
            self.assertIn(call(TINY, (4, 0, 0), "even"), (True, ("holds",)))
            self.assertIn(call(TINY, (2, 0, 2), "away"), (True, ("holds",)))
