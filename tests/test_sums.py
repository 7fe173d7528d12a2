import unittest

from everyrounding.errors import BadFormat, BadMode, BadNumber
from everyrounding.sums import add, exact_sum, muladd, sub
from everyrounding.values import minus
from tests.oracle import (HUGE_M, INF, MINUS_INF, MINUS_ZERO, MODES, NAN, SPECIALS, ZERO, assert_refused, exact_from,
                          finite_numbers, slow_round, value_of)

FORM = (2, 0, 2)
INVALID = (NAN, ("invalid",))
OVERFLOW = ("overflow", "inexact")
UNDERFLOW = ("underflow", "inexact")
OTHERS = [(0, 1, 0), (1, 3, 1), (0, 5, -3), (1, 1, -2000), (0, HUGE_M, 2000)]


def told_sum(form, x, y, mode):
    """The sum by [14] and [15]."""
    if NAN in (x, y):
        return (NAN, ())
    if x[1] == -1 and y[1] == -1:
        return (x, ()) if x == y else INVALID
    if x[1] == -1 or y[1] == -1:
        return (x if x[1] == -1 else y, ())
    value = value_of(x) + value_of(y)
    if value == 0:
        if x[1] == 0 and y[1] == 0 and x[0] == y[0]:
            return (x, ())
        return ((1 if mode == "down" else 0, 0, 0), ())
    return slow_round(form, exact_from(value), mode)


def told_muladd(form, x, y, z, mode):
    """x*y + z by [14] and [15]."""
    if NAN in (x, y, z):
        return (NAN, ())
    s = x[0] ^ y[0]
    if -1 in (x[1], y[1]):
        return INVALID if 0 in (x[1], y[1]) else told_sum(form, (s, -1, 0), z, mode)
    if z[1] == -1:
        return (z, ())
    value = value_of(x) * value_of(y) + value_of(z)
    if value == 0:
        if 0 in (x[1], y[1]) and z[1] == 0 and s == z[0]:
            return ((s, 0, 0), ())
        return ((1 if mode == "down" else 0, 0, 0), ())
    return slow_round(form, exact_from(value), mode)


class TestSums(unittest.TestCase):
    def test_all_pairs(self):
        numbers = list(SPECIALS) + OTHERS + [x for x in finite_numbers(FORM) if x[1] > 0]
        for x in numbers:
            for y in numbers:
                for mode in MODES:
                    self.assertEqual(add(FORM, x, y, mode=mode), told_sum(FORM, x, y, mode), (x, y, mode))
                    self.assertEqual(sub(FORM, x, y, mode=mode), told_sum(FORM, x, minus(y), mode), (x, y, mode))

    def test_specials(self):
        self.assertEqual(add(FORM, INF, MINUS_INF), INVALID)
        self.assertEqual(sub(FORM, INF, INF), INVALID)
        self.assertEqual(sub(FORM, INF, MINUS_INF), (INF, ()))
        self.assertEqual(add(FORM, NAN, INF), (NAN, ()))
        self.assertEqual(sub(FORM, MINUS_INF, NAN), (NAN, ()))
        self.assertEqual(add(FORM, (0, HUGE_M, 2000), MINUS_INF), (MINUS_INF, ()))

    def test_signs_of_zero(self):
        for mode in MODES:
            other = (MINUS_ZERO if mode == "down" else ZERO, ())
            self.assertEqual(add(FORM, ZERO, ZERO, mode=mode), (ZERO, ()))
            self.assertEqual(add(FORM, MINUS_ZERO, MINUS_ZERO, mode=mode), (MINUS_ZERO, ()))
            self.assertEqual(add(FORM, ZERO, MINUS_ZERO, mode=mode), other)
            self.assertEqual(add(FORM, (0, 3, 1), (1, 3, 1), mode=mode), other)
            self.assertEqual(sub(FORM, MINUS_ZERO, MINUS_ZERO, mode=mode), other)
            self.assertEqual(sub(FORM, MINUS_ZERO, ZERO, mode=mode), (MINUS_ZERO, ()))
            self.assertEqual(sub(FORM, (0, HUGE_M, 2000), (0, HUGE_M, 2000), mode=mode), other)

    def test_default_mode_is_even(self):
        self.assertEqual(add(FORM, (0, 1, 2), (0, 1, 0)), ((0, 1, 2), ("inexact",)))
        self.assertEqual(sub(FORM, (0, 1, 3), (0, 1, 0)), ((0, 1, 3), ("inexact",)))
        self.assertEqual(muladd(FORM, (0, 1, 1), (0, 1, 1), (0, 1, 0)), ((0, 1, 2), ("inexact",)))

    def test_halves_and_just_beside(self):
        one, four, tiny = (0, 1, 0), (0, 1, 2), (0, 1, -2000)
        self.assertEqual(muladd(FORM, tiny, tiny, (0, 5, 0)), ((0, 3, 1), ("inexact",)))
        self.assertEqual(muladd(FORM, tiny, minus(tiny), (0, 5, 0), mode="away"), ((0, 1, 2), ("inexact",)))
        self.assertEqual(add(FORM, four, one), ((0, 1, 2), ("inexact",)))
        self.assertEqual(add(FORM, four, one, mode="away"), ((0, 3, 1), ("inexact",)))
        self.assertEqual(add(FORM, (0, 5, 0), tiny), ((0, 3, 1), ("inexact",)))
        self.assertEqual(sub(FORM, (0, 5, 0), tiny, mode="away"), ((0, 1, 2), ("inexact",)))

    def test_ends_of_the_format(self):
        top, over_half = (0, 3, 2), (0, 1, 1)
        self.assertEqual(add(FORM, top, over_half), (INF, OVERFLOW))
        self.assertEqual(add(FORM, top, over_half, mode="zero"), (top, ("inexact",)))
        self.assertEqual(add(FORM, top, top, mode="odd"), (top, OVERFLOW))
        self.assertEqual(sub(FORM, minus(top), top, mode="up"), (minus(top), OVERFLOW))
        self.assertEqual(sub(FORM, minus(top), top, mode="down"), (MINUS_INF, OVERFLOW))
        self.assertEqual(add(FORM, (0, HUGE_M, 2000), (1, 1, -2000)), (INF, OVERFLOW))
        self.assertEqual(add(FORM, (0, 1, -2), (0, 1, -2)), (ZERO, UNDERFLOW))
        self.assertEqual(add(FORM, (1, 1, -2), (1, 1, -2)), (MINUS_ZERO, UNDERFLOW))
        self.assertEqual(add(FORM, (1, 1, -2000), ZERO, mode="down"), ((1, 1, 0), UNDERFLOW))
        self.assertEqual(add(FORM, (0, 1, -1), (0, 1, -1)), ((0, 1, 0), ()))
        self.assertEqual(add(FORM, (0, 1, 1), (0, 1, -1)), ((0, 1, 1), ("inexact",)))

    def test_wrong_arguments(self):
        for call in (add, sub):
            assert_refused(self, BadFormat, call, (2, 0), None, None, mode=None)
            assert_refused(self, BadNumber, call, FORM, (0, 2, 0), NAN, mode=None)
            assert_refused(self, BadNumber, call, FORM, NAN, (True, 1, 0), mode=None)
            assert_refused(self, BadMode, call, FORM, NAN, NAN, mode="Even")


class TestMuladd(unittest.TestCase):
    def test_all_triples(self):
        numbers = list(SPECIALS) + [(0, 1, 0), (1, 3, 1), (0, 3, 2), (0, 1, -1), (1, 5, -3)]
        for x in numbers:
            for y in numbers:
                for z in numbers:
                    for mode in MODES:
                        told = told_muladd(FORM, x, y, z, mode)
                        self.assertEqual(muladd(FORM, x, y, z, mode=mode), told, (x, y, z, mode))

    def test_specials(self):
        self.assertEqual(muladd(FORM, ZERO, INF, NAN), (NAN, ()))
        self.assertEqual(muladd(FORM, ZERO, MINUS_INF, INF), INVALID)
        self.assertEqual(muladd(FORM, INF, (1, 1, 0), INF), INVALID)
        self.assertEqual(muladd(FORM, INF, (1, 1, 0), (0, 1, 0)), (MINUS_INF, ()))
        self.assertEqual(muladd(FORM, (0, HUGE_M, 2000), (0, HUGE_M, 2000), MINUS_INF), (MINUS_INF, ()))

    def test_rounds_once(self):
        # 3*3 = 9 would round to 8 before the sum with -1; once rounded 8, twice 6 or 8 by the mode.
        three = (0, 3, 0)
        self.assertEqual(muladd(FORM, three, three, (1, 1, 0)), ((0, 1, 3), ()))
        self.assertEqual(muladd(FORM, three, three, (1, 1, 3)), ((0, 1, 0), ()))
        self.assertEqual(muladd(FORM, (0, 3, 2), (0, 3, 2), (1, 17, 3)), ((0, 1, 3), ()))

    def test_zeros(self):
        for mode in MODES:
            other = (MINUS_ZERO if mode == "down" else ZERO, ())
            self.assertEqual(muladd(FORM, (0, 3, 0), (0, 3, 0), (1, 9, 0), mode=mode), other)
            self.assertEqual(muladd(FORM, MINUS_ZERO, (0, 3, 700), MINUS_ZERO, mode=mode), (MINUS_ZERO, ()))
            self.assertEqual(muladd(FORM, MINUS_ZERO, (1, 3, -700), MINUS_ZERO, mode=mode), other)
            self.assertEqual(muladd(FORM, MINUS_ZERO, (1, 3, 0), ZERO, mode=mode), (ZERO, ()))

    def test_great(self):
        big, small = (0, HUGE_M, 2000), (0, 1, -2000)
        form = (140, -600, 600)
        self.assertEqual(muladd(form, big, small, (1, HUGE_M, 0)), (ZERO, ()))
        self.assertEqual(muladd(form, big, big, minus(big)), (INF, OVERFLOW))
        self.assertEqual(muladd(form, small, small, (0, 1, 0), mode="up"), ((0, (1 << 139) + 1, -139), ("inexact",)))
        self.assertEqual(muladd(form, small, minus(small), (0, 1, -600), mode="down"), (ZERO, UNDERFLOW))
        self.assertEqual(muladd(form, small, small, big, mode="zero"), ((0, (1 << 140) - 1, 600), OVERFLOW))

    def test_wrong_arguments(self):
        assert_refused(self, BadNumber, muladd, FORM, NAN, NAN, (0, 1, 2001), mode="x")
        assert_refused(self, BadNumber, muladd, FORM, NAN, None, NAN, mode="x")
        assert_refused(self, BadMode, muladd, FORM, NAN, NAN, NAN, mode=None)


class TestExactSum(unittest.TestCase):
    def test_lowest_terms(self):
        numbers = [ZERO, MINUS_ZERO] + OTHERS + [minus(x) for x in OTHERS]
        for x in numbers:
            for y in numbers:
                self.assertEqual(exact_sum(x, y), exact_from(value_of(x) + value_of(y)))
        self.assertEqual(exact_sum((0, 1, -1), (0, 1, -1)), (1, 1, 1))
        self.assertEqual(exact_sum((0, 1, -2), (0, 1, -1)), (3, 4, 1))

    def test_refused(self):
        for x in (INF, MINUS_INF, NAN, None, (0, 2, 0), (0, 1, False)):
            assert_refused(self, BadNumber, exact_sum, x, ZERO)
            assert_refused(self, BadNumber, exact_sum, ZERO, x)
