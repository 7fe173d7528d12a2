import unittest
from fractions import Fraction
from math import gcd

from everyrounding.errors import BadCount, BadExact
from everyrounding.places import check_exact, compare_exact, high_power, place, ratio, root_of, sign_of
from tests.oracle import assert_refused, two

FULL = (1 << 12000) - 1
WRONG = [None, True, 0, 1, "1/2", [1, 1, 1], (1, 1), (1, 1, 1, 1), (), (1, 0, 1), (1, -1, 1), (1, 1, 0), (1, 1, 3),
         (-1, 1, 2), (FULL + 1, 1, 1), (-FULL - 1, 1, 1), (1, FULL + 1, 1), (1, FULL + 1, 2), (FULL + 1, 1, 2),
         (True, 1, 1), (1, True, 1), (1, 1, True), (False, 1, 1), (0, 1, True), ("1", 1, 1), (1, None, 1), ((1, 1, 1),)]
RIGHT = [(0, 1, 1), (0, 5, 2), (-3, 6, 1), (4, 6, 2), (FULL, 1, 1), (-FULL, FULL, 1), (FULL, FULL, 2), (1, FULL, 1)]


def where_of(size, unit, k):
    """Count and place by fractions; the size is squared for k = 2."""
    count = 0
    while (unit * (count + 1)) ** k <= size:
        count += 1
    if (unit * count) ** k == size:
        return (count, 0)
    half = (unit * (2 * count + 1) / 2) ** k
    return (count, 1 if size < half else 2 if size == half else 3)


class TestShapes(unittest.TestCase):
    def test_check(self):
        for exact in RIGHT:
            self.assertIsNone(check_exact(exact))
        for exact in WRONG:
            assert_refused(self, BadExact, check_exact, exact)
            assert_refused(self, BadExact, sign_of, exact)
            assert_refused(self, BadExact, high_power, exact)
            assert_refused(self, BadExact, place, exact, 0)
            assert_refused(self, BadExact, compare_exact, exact, (1, 1, 1))
            assert_refused(self, BadExact, compare_exact, (1, 1, 1), exact)

    def test_lowest_terms(self):
        for n in range(-12, 13):
            for d in range(1, 13):
                common = gcd(n, d)
                self.assertEqual(ratio(n, d), (n // common, d // common, 1))
                if n >= 0:
                    self.assertEqual(root_of(n, d), (n // common, d // common, 2))
        self.assertEqual(ratio(0, 7), (0, 1, 1))
        self.assertEqual(root_of(0, 7), (0, 1, 2))
        self.assertEqual(root_of(4, 1), (4, 1, 2))
        self.assertEqual(ratio(FULL, FULL), (1, 1, 1))
        self.assertEqual(ratio(-FULL, 1), (-FULL, 1, 1))

    def test_faults(self):
        for n, d in [(1, 0), (1, -1), (FULL + 1, 1), (1, FULL + 1), (-FULL - 1, 1), (FULL + 1, FULL + 1), (True, 1),
                     (1, True), (False, 1), (None, 1), (1, "2"), ((1,), 1), ([1], 2), (1, None)]:
            assert_refused(self, BadExact, ratio, n, d)
            assert_refused(self, BadExact, root_of, n, d)
        assert_refused(self, BadExact, root_of, -1, 2)
        self.assertEqual(ratio(1, 1), (1, 1, 1))

    def test_sign(self):
        self.assertEqual([sign_of(e) for e in RIGHT], [0, 0, -1, 1, 1, -1, 1, 1])


class TestHighPower(unittest.TestCase):
    def test_fractions_and_roots(self):
        for n in range(1, 40):
            for d in range(1, 40):
                E = high_power((n, d, 1))
                self.assertTrue(two(E) <= Fraction(n, d) < two(E + 1))
                self.assertEqual(high_power((-n, d, 1)), E)
                E = high_power((n, d, 2))
                self.assertTrue(two(2 * E) <= Fraction(n, d) < two(2 * E + 2))

    def test_ends(self):
        self.assertEqual(high_power((FULL, 1, 1)), 11999)
        self.assertEqual(high_power((FULL, 1, 2)), 5999)
        self.assertEqual(high_power((1, FULL, 1)), -12000)
        self.assertEqual(high_power((1, FULL, 2)), -6000)
        self.assertEqual(high_power((1, 1 << 11999, 1)), -11999)
        self.assertEqual(high_power((1, 1 << 11999, 2)), -6000)
        self.assertEqual(high_power((FULL, FULL, 1)), 0)
        self.assertEqual(high_power((FULL - 1, FULL, 1)), -1)

    def test_zero(self):
        for exact in [(0, 1, 1), (0, 7, 1), (0, 1, 2)]:
            assert_refused(self, BadExact, high_power, exact)


class TestPlace(unittest.TestCase):
    def test_small_fractions_and_roots(self):
        for u in range(-3, 4):
            for n in range(0, 50):
                for d in (1, 2, 3, 4, 5, 8, 16, 64):
                    told = where_of(Fraction(n, d), two(u), 1)
                    self.assertEqual(place((n, d, 1), u), told)
                    self.assertEqual(place((-n, d, 1), u), told)
                    self.assertEqual(place((n, d, 2), u), where_of(Fraction(n, d), two(u), 2))

    def test_zero(self):
        for u in (-5000, 0, 5000):
            self.assertEqual(place((0, 3, 1), u), (0, 0))
            self.assertEqual(place((0, 3, 2), u), (0, 0))

    def test_beside_units_and_halves(self):
        big = 1 << 5900
        for u, count in [(0, 5), (40, 12), (-40, 7), (-3000, (1 << 200) + 1)]:
            unit = two(u)
            for half in (0, 1):
                at = unit * (2 * count + half) / 2
                for step, told in [(-1, (count, 1) if half else (count - 1, 3)), (0, (count, 2 * half)),
                                   (1, (count, 3) if half else (count, 1))]:
                    z = at + Fraction(step, big)
                    self.assertEqual(place((z.numerator, z.denominator, 1), u), told)
                    square = z * z
                    if square.denominator.bit_length() <= 12000:
                        self.assertEqual(place((square.numerator, square.denominator, 2), u), told)
                    near = at * at + Fraction(step, big * big)
                    if near.denominator.bit_length() <= 12000 and u > -3000:
                        self.assertEqual(place((near.numerator, near.denominator, 2), u), told)

    def test_ends_of_u(self):
        self.assertEqual(place((1, 1, 1), -5000), (1 << 5000, 0))
        self.assertEqual(place((1, 1, 1), 5000), (0, 1))
        self.assertEqual(place((1 << 4999, 1, 1), 5000), (0, 2))
        self.assertEqual(place(((1 << 4999) + 1, 1, 1), 5000), (0, 3))
        self.assertEqual(place((1 << 9998, 1, 2), 5000), (0, 2))
        self.assertEqual(place(((1 << 9998) - 1, 1, 2), 5000), (0, 1))
        self.assertEqual(place((4, 1, 2), -5000), (1 << 5001, 0))
        self.assertEqual(place((FULL, 1, 1), -5000), (FULL << 5000, 0))
        k, where = place((2, 1, 2), -5000)
        self.assertTrue(k * k < 2 << 10000 < (k + 1) ** 2)
        self.assertEqual(where, 3 if (2 * k + 1) ** 2 < 8 << 10000 else 1)
        for u in (5001, -5001, True, False, None, "0", (0,)):
            assert_refused(self, BadCount, place, (1, 1, 1), u)
        assert_refused(self, BadExact, place, (1, 0, 1), 5001)


class TestCompare(unittest.TestCase):
    def signed_square(self, exact):
        n, d, k = exact
        value = Fraction(n, d)
        return value if k == 2 else value * abs(value)

    def test_small(self):
        found = [(n, d, 1) for n in range(-5, 6) for d in (1, 2, 3)] + [(n, d, 2) for n in range(0, 9) for d in (1, 2, 3, 4)]
        for exact in found:
            for other in found:
                a, b = self.signed_square(exact), self.signed_square(other)
                self.assertEqual(compare_exact(exact, other), (a > b) - (a < b), (exact, other))

    def test_great(self):
        self.assertEqual(compare_exact((FULL, FULL - 1, 1), (FULL - 1, FULL - 2, 1)), -1)
        self.assertEqual(compare_exact((-FULL, FULL - 1, 1), (1 - FULL, FULL - 2, 1)), 1)
        root = 1 << 5999
        self.assertEqual(compare_exact((root, 1, 1), (root * root, 1, 2)), 0)
        self.assertEqual(compare_exact((root, 1, 1), (root * root + 1, 1, 2)), -1)
        self.assertEqual(compare_exact((root * root - 1, 1, 2), (root, 1, 1)), -1)
        self.assertEqual(compare_exact((-root, 1, 1), (root * root, 1, 2)), -1)
        self.assertEqual(compare_exact((FULL, FULL, 2), (7, 7, 1)), 0)
        self.assertEqual(compare_exact((0, 3, 2), (0, 1, 1)), 0)
        self.assertEqual(compare_exact((FULL, 1, 1), (FULL, 1, 2)), 1)

    def test_true_between_equal_right_calls(self):
        self.assertEqual(compare_exact((1, 1, 1), (0, 1, 1)), 1)
        assert_refused(self, BadExact, compare_exact, (1, 1, 1), (False, 1, 1))
        assert_refused(self, BadExact, compare_exact, (True, 1, 1), (0, 1, 1))
        self.assertEqual(compare_exact((1, 1, 1), (0, 1, 1)), 1)
