import unittest
from fractions import Fraction

from everyrounding.errors import BadFormat, BadMode, BadNumber
from everyrounding.products import div, exact_product, exact_quotient, mul, root
from everyrounding.values import minus
from tests.oracle import (HUGE_M, INF, MINUS_INF, MINUS_ZERO, MODES, NAN, SPECIALS, ZERO, assert_refused, exact_from,
                          finite_numbers, slow_round, value_of)

FORM = (2, 0, 2)
INVALID = (NAN, ("invalid",))
OVERFLOW = ("overflow", "inexact")
UNDERFLOW = ("underflow", "inexact")
OTHERS = [(0, 5, -3), (1, 1, -2000), (0, HUGE_M, 2000), (1, 7, 0)]
NUMBERS = list(SPECIALS) + OTHERS + [x for x in finite_numbers(FORM) if x[1] > 0]


def told_product(form, x, y, mode):
    """The product by [14] and [15]."""
    if NAN in (x, y):
        return (NAN, ())
    s = x[0] ^ y[0]
    if -1 in (x[1], y[1]):
        return INVALID if 0 in (x[1], y[1]) else ((s, -1, 0), ())
    return slow_round(form, exact_from(value_of(x) * value_of(y)), mode, s)


def told_quotient(form, x, y, mode):
    """The quotient by [14] and [15]."""
    if NAN in (x, y):
        return (NAN, ())
    s = x[0] ^ y[0]
    if x[1] == y[1] and x[1] in (0, -1):
        return INVALID
    if x[1] > 0 and y[1] == 0:
        return ((s, -1, 0), ("divzero",))
    if x[1] == -1:
        return ((s, -1, 0), ())
    if y[1] == -1:
        return ((s, 0, 0), ())
    return slow_round(form, exact_from(value_of(x) / value_of(y)), mode, s)


class TestProducts(unittest.TestCase):
    def test_all_pairs(self):
        for x in NUMBERS:
            for y in NUMBERS:
                for mode in MODES:
                    self.assertEqual(mul(FORM, x, y, mode=mode), told_product(FORM, x, y, mode), (x, y, mode))

    def test_signs_of_zero(self):
        for mode in MODES:
            self.assertEqual(mul(FORM, ZERO, (1, 3, 0), mode=mode), (MINUS_ZERO, ()))
            self.assertEqual(mul(FORM, MINUS_ZERO, MINUS_ZERO, mode=mode), (ZERO, ()))
            self.assertEqual(mul(FORM, MINUS_ZERO, ZERO, mode=mode), (MINUS_ZERO, ()))

    def test_great_and_small(self):
        form = (140, -600, 600)
        big, small = (0, HUGE_M, 2000), (0, 1, -2000)
        self.assertEqual(mul(form, big, big), (INF, OVERFLOW))
        self.assertEqual(mul(form, big, minus(big), mode="odd"), ((1, (1 << 140) - 1, 600), OVERFLOW))
        self.assertEqual(mul(form, small, minus(small)), (MINUS_ZERO, UNDERFLOW))
        self.assertEqual(mul(form, small, small, mode="up"), ((0, 1, -600), UNDERFLOW))
        self.assertEqual(mul(form, big, small, mode="zero"), ((0, (1 << 140) - 1, 460), ("inexact",)))
        self.assertEqual(mul((2, 0, 2), (0, 1, 1), (0, 5, -1)), ((0, 1, 2), ("inexact",)))

    def test_wrong_arguments(self):
        for call in (mul, div):
            assert_refused(self, BadFormat, call, [2, 0, 2], None, None, mode=None)
            assert_refused(self, BadNumber, call, FORM, None, NAN, mode=None)
            assert_refused(self, BadNumber, call, FORM, NAN, (0, 1, True), mode=None)
            assert_refused(self, BadMode, call, FORM, NAN, NAN, mode=True)


class TestQuotients(unittest.TestCase):
    def test_all_pairs(self):
        for x in NUMBERS:
            for y in NUMBERS:
                for mode in MODES:
                    self.assertEqual(div(FORM, x, y, mode=mode), told_quotient(FORM, x, y, mode), (x, y, mode))

    def test_specials(self):
        one = (0, 1, 0)
        self.assertEqual(div(FORM, ZERO, MINUS_ZERO), INVALID)
        self.assertEqual(div(FORM, INF, MINUS_INF), INVALID)
        self.assertEqual(div(FORM, one, MINUS_ZERO), (MINUS_INF, ("divzero",)))
        self.assertEqual(div(FORM, INF, MINUS_ZERO), (MINUS_INF, ()))
        self.assertEqual(div(FORM, MINUS_ZERO, INF), (MINUS_ZERO, ()))
        self.assertEqual(div(FORM, NAN, ZERO), (NAN, ()))
        self.assertEqual(div(FORM, ZERO, (1, 1, 0)), (MINUS_ZERO, ()))

    def test_great_and_small(self):
        form = (140, -600, 600)
        big, small = (0, HUGE_M, 2000), (0, 1, -2000)
        self.assertEqual(div(form, big, small), (INF, OVERFLOW))
        self.assertEqual(div(form, small, minus(big)), (MINUS_ZERO, UNDERFLOW))
        self.assertEqual(div(form, big, big), ((0, 1, 0), ()))
        third = div(form, (0, 1, 0), (0, 3, 0), mode="down")
        self.assertEqual(third, ((0, (1 << 140) // 3, -140), ("inexact",)))


class TestRoots(unittest.TestCase):
    def test_specials(self):
        for mode in MODES:
            for x in (ZERO, MINUS_ZERO, INF, NAN):
                self.assertEqual(root(FORM, x, mode=mode), (x, ()))
            for x in (MINUS_INF, (1, 1, 0), (1, 1, -2000)):
                self.assertEqual(root(FORM, x, mode=mode), INVALID)

    def test_ordinary(self):
        for form in [FORM, (3, -3, 1)]:
            for m in range(1, 40, 2):
                for q in range(-8, 8):
                    value = value_of((0, m, q))
                    for mode in MODES:
                        told = slow_round(form, exact_from(value, 2), mode)
                        self.assertEqual(root(form, (0, m, q), mode=mode), told, (form, m, q, mode))

    def test_great_and_small(self):
        form = (140, -600, 600)
        self.assertEqual(root(form, (0, HUGE_M, 2000)), (INF, OVERFLOW))
        self.assertEqual(root(form, (0, 1, -2000)), (ZERO, UNDERFLOW))
        self.assertEqual(root(form, (0, 1, -1200)), ((0, 1, -600), ()))
        self.assertEqual(root(form, (0, 1, -1202)), (ZERO, UNDERFLOW))
        self.assertEqual(root(form, (0, HUGE_M, 0), mode="down"), ((0, (1 << 140) - 1, 160), ("inexact",)))
        self.assertEqual(root(form, (0, HUGE_M, 0)), ((0, 1, 300), ("inexact",)))

    def test_wrong_arguments(self):
        assert_refused(self, BadFormat, root, (2, 0, 601), None, mode=None)
        assert_refused(self, BadNumber, root, FORM, (True, 1, 0), mode=None)
        assert_refused(self, BadMode, root, FORM, MINUS_INF, mode="nearest")


class TestExact(unittest.TestCase):
    def test_lowest_terms(self):
        numbers = [ZERO, MINUS_ZERO] + OTHERS + [minus(x) for x in OTHERS] + [(0, 3, 0), (0, 9, -4), (1, 15, 2)]
        for x in numbers:
            for y in numbers:
                self.assertEqual(exact_product(x, y), exact_from(value_of(x) * value_of(y)))
                if y[1]:
                    self.assertEqual(exact_quotient(x, y), exact_from(Fraction(value_of(x)) / value_of(y)))
        self.assertEqual(exact_quotient((0, 9, 0), (1, 15, 0)), (-3, 5, 1))
        self.assertEqual(exact_quotient(MINUS_ZERO, (1, 15, 0)), (0, 1, 1))

    def test_refused(self):
        for call in (exact_product, exact_quotient):
            for x in (INF, MINUS_INF, NAN, None, (0, 2, 0), (False, 1, 0)):
                assert_refused(self, BadNumber, call, x, (0, 1, 0))
                assert_refused(self, BadNumber, call, (0, 1, 0), x)
        for y in (ZERO, MINUS_ZERO):
            assert_refused(self, BadNumber, exact_quotient, (0, 1, 0), y)
            assert_refused(self, BadNumber, exact_quotient, ZERO, y)
