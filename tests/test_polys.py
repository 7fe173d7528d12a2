import random
import unittest
from fractions import Fraction
from itertools import product

from everyrounding.errors import BadCount, BadExact, NotAsked, TooMany
from everyrounding.polys import Poly
from tests.oracle import assert_refused

BIG = 1 << 12000


def terms_of(found):
    """The terms of a dict of fractions, by [43]."""
    return [(powers, value.numerator, value.denominator) for powers, value in sorted(found.items()) if value]


def added(terms):
    found = {}
    for powers, n, d in terms:
        found[powers] = found.get(powers, 0) + Fraction(n, d)
    return found


def some_terms(picker, variables, many, most=3):
    return [(tuple(picker.randint(0, most) for _ in range(variables)), picker.randint(-9, 9), picker.randint(1, 9)) for _ in range(many)]


def value_at(terms, exacts):
    total = Fraction(0)
    for powers, n, d in terms:
        part = Fraction(n, d)
        for power, (over, under, _) in zip(powers, exacts):
            part *= Fraction(over, under) ** power
        total += part
    return total


class TestMaking(unittest.TestCase):
    def test_any_order_and_terms(self):
        picker = random.Random(43)
        for variables in range(1, 5):
            for many in (0, 1, 2, 5, 20, 50):
                for kind in (list, tuple):
                    terms = kind(some_terms(picker, variables, many))
                    kept = kind(terms)
                    poly = Poly(variables, terms)
                    self.assertEqual(list(poly), terms_of(added(terms)))
                    self.assertEqual(list(poly), list(poly))
                    self.assertEqual(len(poly), len(list(poly)))
                    self.assertEqual(poly.variables, variables)
                    self.assertEqual(terms, kept)
        self.assertEqual(list(Poly(2)), [])
        self.assertEqual(len(Poly(1, [])), 0)

    def test_told(self):
        poly = Poly(2, [((1, 0), 2, 4), ((0, 3), -6, 4), ((1, 0), 1, 2), ((0, 0), 0, 7), ((2, 2), 1, 3), ((2, 2), -2, 6)])
        self.assertEqual(list(poly), [((0, 3), -3, 2), ((1, 0), 1, 1)])
        self.assertEqual(list(Poly.variable(3, 1)), [((0, 1, 0), 1, 1)])
        self.assertEqual(list(Poly.constant(2, -6, 4)), [((0, 0), -3, 2)])
        self.assertEqual(list(Poly.constant(2, 0, 4)), [])
        self.assertEqual(Poly.constant(4, 0, 1), Poly(4))

    def test_lists_are_not_kept(self):
        terms = [((1,), 1, 1)]
        poly = Poly(1, terms)
        terms.append(((2,), 1, 1))
        terms[0] = ((0,), 1, 1)
        first = list(poly)
        first.append(None)
        self.assertEqual(list(poly), [((1,), 1, 1)])

    def test_bounds_of_variables_and_places(self):
        for variables in (0, 5, -1, True, None, "1", (1,)):
            assert_refused(self, BadCount, Poly, variables, None)
            assert_refused(self, BadCount, Poly.variable, variables, None)
            assert_refused(self, BadCount, Poly.constant, variables, None, None)
        for variables in range(1, 5):
            for at in range(variables):
                self.assertEqual(list(Poly.variable(variables, at)), [(tuple(int(k == at) for k in range(variables)), 1, 1)])
            for at in (-1, variables, True, False, None, "0"):
                assert_refused(self, BadCount, Poly.variable, variables, at)

    def test_bounds_of_terms(self):
        for right in [((64,), 1, 1), ((0,), 1, 1), ((1,), BIG - 1, 1), ((1,), 1 - BIG, BIG - 1), ((1,), 3, BIG - 1)]:
            self.assertEqual(len(Poly(1, [right])), 1)
        wrongs = [((65,), 1, 1), ((-1,), 1, 1), ((1, 1), 1, 1), ((), 1, 1), ([1], 1, 1), (1, 1, 1), ((True,), 1, 1), ((1,), True,
                    1), ((1,), 1, True),
                  ((1,), 1, 0), ((1,), 1, -1), ((1,), BIG, 1), ((1,), -BIG, 1), ((1,), 1, BIG), ((1,), BIG, BIG), ((1,), 1), ((1,),
                              1, 1, 1),
                  [(1,), 1, 1], None, True, 0, "term", (("1",), 1, 1), ((1,), "1", 1), ((1,), 1, None), ((1,), 0, 0), ((65,), 0, 1)]
        for wrong in wrongs:
            for kind in (list, tuple):
                assert_refused(self, BadExact, Poly, 1, kind([wrong]))
                assert_refused(self, BadExact, Poly, 1, kind([((0,), 1, 1), wrong]))
        for wrong in (None, True, 0, "terms", ((1,), 1, 1)):
            assert_refused(self, BadExact, Poly, 1, wrong)

    def test_sixty_terms(self):
        many = [((k // 8, k % 8), 1, 1) for k in range(64)]
        self.assertEqual(len(Poly(2, many[:60])), 60)
        self.assertEqual(assert_refused(self, TooMany, Poly, 2, many[:61]).limit, 60)
        # What is added up or is zero does not count.
        gone = [(powers, -1, 1) for powers, _, _ in many[:5]]
        self.assertEqual(len(Poly(2, many[:64] + gone)), 59)
        self.assertEqual(len(Poly(2, many[:60] + [((9, 9), 0, 1)])), 60)
        self.assertEqual(len(Poly(1, [((1,), 1, 1)] * 200)), 1)
        self.assertEqual(list(Poly(1, (((1,), 1, 1),) * 200)), [((1,), 200, 1)])
        assert_refused(self, BadExact, Poly, 1, [((1,), 1, 1)] * 201)
        assert_refused(self, BadExact, Poly, 2, many + many + many + many[:9])
        assert_refused(self, TooMany, Poly, 2, many + many + many + many[:8])

    def test_added_coefficients_at_the_bound(self):
        self.assertEqual(list(Poly(1, [((1,), BIG - 2, 1), ((1,), 1, 1)])), [((1,), BIG - 1, 1)])
        assert_refused(self, BadExact, Poly, 1, [((1,), BIG - 1, 1), ((1,), 1, 1)])
        assert_refused(self, BadExact, Poly, 1, [((1,), 1 - BIG, 1), ((1,), -1, 1)])
        assert_refused(self, BadExact, Poly, 1, [((1,), 1, BIG - 1), ((1,), 1, BIG - 3)])
        self.assertEqual(list(Poly(1, [((1,), BIG - 1, 1), ((1,), 1, 1), ((1,), -1, 1)])), [((1,), BIG - 1, 1)])
        self.assertEqual(list(Poly(1, [((1,), 1, BIG - 1), ((1,), 1, BIG - 3), ((1,), -1, BIG - 3)])), [((1,), 1, BIG - 1)])
        # Too many terms go before a coefficient.
        many = [((k,), 1, 1) for k in range(61)] + [((0,), BIG - 1, 1)]
        assert_refused(self, TooMany, Poly, 1, many)

    def test_constants(self):
        self.assertEqual(list(Poly.constant(1, BIG - 1, BIG - 2)), [((0,), BIG - 1, BIG - 2)])
        for n, d in [(BIG, 1), (-BIG, 1), (1, BIG), (1, 0), (1, -1), (True, 1), (1, True), (None, 1), (1, None), ("1", 1), (BIG,
                    BIG), (0, 0)]:
            assert_refused(self, BadExact, Poly.constant, 1, n, d)


class TestOperators(unittest.TestCase):
    def test_against_fractions(self):
        picker = random.Random(44)
        for variables in range(1, 5):
            for _ in range(60):
                first, second = [some_terms(picker, variables, picker.randint(0, 7)) for _ in range(2)]
                a, b = Poly(variables, first), Poly(variables, second)
                kept = list(a), list(b)
                self.assertEqual(list(-a), terms_of({powers: -value for powers, value in added(first).items()}))
                self.assertEqual(list(a + b), terms_of(added(first + second)))
                self.assertEqual(list(a - b), terms_of(added(first + [(powers, -n, d) for powers, n, d in second])))
                products = [(tuple(map(sum, zip(powers, powers2))), n * n2, d * d2) for (powers, n, d), (powers2, n2,
                            d2) in product(first, second)]
                self.assertEqual(list(a * b), terms_of(added(products)))
                self.assertEqual((list(a), list(b)), kept)
                for made in (-a, a + b, a - b, a * b):
                    self.assertIs(type(made), Poly)
                    self.assertEqual(made.variables, variables)

    def test_equality(self):
        x, y = Poly.variable(2, 0), Poly.variable(2, 1)
        self.assertTrue((x + y) * (x - y) == x * x - y * y)
        self.assertFalse(x * x == y * y)
        self.assertFalse(Poly(1) == Poly(2))
        self.assertTrue(Poly(3) == Poly(3, ()))
        self.assertFalse(Poly.constant(1, 1, 2) == Poly.constant(1, 1, 3))
        self.assertTrue(Poly.constant(1, 1, 2) == Poly(1, [((0,), 50, 100)]))
        for other in (None, 0, 1, [], [((0,), 1, 1)], "x", ((0,), 1, 1)):
            self.assertIs(Poly.constant(1, 1, 1) == other, False)
            self.assertIs(Poly.constant(1, 1, 1) != other, True)
        self.assertIs(x - x == Poly(2), True)
        self.assertEqual(len(x - x), 0)

    def test_unlike_variables(self):
        for a, b in [(Poly(1), Poly(2)), (Poly.variable(3, 1), Poly.variable(4, 1))]:
            for deed in (lambda a, b: a + b, lambda a, b: a - b, lambda a, b: a * b):
                assert_refused(self, NotAsked, deed, a, b)
                assert_refused(self, NotAsked, deed, b, a)

    def test_too_many_terms(self):
        first = Poly(2, [((0, k), 1, 1) for k in range(60)])
        one, two = Poly(2, [((1, 0), 1, 1)]), Poly(2, [((0, 59), -1, 1), ((1, 0), 1, 1)])
        self.assertEqual(assert_refused(self, TooMany, lambda: first + one).limit, 60)
        assert_refused(self, TooMany, lambda: first - one)
        self.assertEqual(len(first + two), 60)
        self.assertEqual(len(first - first), 0)
        row, column = Poly(2, [((0, k), 1, 1) for k in range(8)]), Poly(2, [((k, 0), 1, 1) for k in range(8)])
        assert_refused(self, TooMany, lambda: row * column)
        self.assertEqual(len(row * row), 15)
        self.assertEqual(len(Poly(2, [((0, k), 1, 1) for k in range(6)]) * Poly(2, [((k, 0), 1, 1) for k in range(10)])), 60)

    def test_bounds_of_results(self):
        great, high = Poly.constant(1, BIG - 1, 1), Poly(1, [((40,), 1, 1)])
        assert_refused(self, BadExact, lambda: great + Poly.constant(1, 1, 1))
        assert_refused(self, BadExact, lambda: great * great)
        assert_refused(self, BadExact, lambda: Poly.constant(1, 1, BIG - 1) * Poly.constant(1, 1, 3))
        assert_refused(self, BadExact, lambda: high * high)
        assert_refused(self, BadExact, lambda: high * Poly(1, [((25,), 1, 1)]))
        self.assertEqual(list(high * Poly(1, [((24,), 1, 1)])), [((64,), 1, 1)])
        self.assertEqual(list(great - Poly.constant(1, 1, 1)), [((0,), BIG - 2, 1)])
        self.assertEqual(list(great * Poly.constant(1, 1, BIG - 1)), [((0,), 1, 1)])
        self.assertEqual(list(-great), [((0,), 1 - BIG, 1)])
        self.assertEqual(list(great * Poly(1)), [])
        # Too many terms go before a power and a coefficient.
        wide = Poly(2, [((40, k), 1, 1) for k in range(8)])
        assert_refused(self, TooMany, lambda: wide * Poly(2, [((40 + k, 0), 1, 1) for k in range(8)]))
        assert_refused(self, BadExact, lambda: wide * wide)
        # A middle coefficient may vanish though its parts are great.
        half = Poly(1, [((0,), 1, 1), ((1,), (1 << 7000), 1)])
        other = Poly(1, [((0,), 1, 1), ((1,), -(1 << 7000), 1)])
        assert_refused(self, BadExact, lambda: half * other)
        self.assertEqual(len(half + other), 1)


class TestValues(unittest.TestCase):
    def test_against_fractions(self):
        picker = random.Random(45)
        for variables in range(1, 5):
            for _ in range(60):
                terms = some_terms(picker, variables, picker.randint(0, 9), 6)
                exacts = [(picker.randint(-30, 30), picker.randint(1, 30), 1) for _ in range(variables)]
                kept = list(exacts)
                told = value_at(terms, exacts)
                self.assertEqual(Poly(variables, terms)(exacts), (told.numerator, told.denominator, 1))
                self.assertEqual(exacts, kept)
        self.assertEqual(Poly(2)([(1, 1, 1), (5, 7, 1)]), (0, 1, 1))
        self.assertEqual(Poly.variable(2, 1)([(1, 1, 1), (50, 70, 1)]), (5, 7, 1))

    def test_parts_beyond_the_bound(self):
        wide = (1 << 300) - 1
        power = Poly(2, [((64, 0), 1, 1), ((0, 64), -1, 1), ((0, 0), 5, 3)])
        self.assertEqual(power([(wide, 1, 1), (wide, 1, 1)]), (5, 3, 1))
        self.assertEqual(power([(1, wide, 1), (2, 2 * wide, 1)][:1] + [(1, wide, 1)]), (5, 3, 1))
        assert_refused(self, BadExact, power, [(wide, 1, 1), (1, 1, 1)])
        assert_refused(self, BadExact, power, [(1, wide, 1), (1, 1, 1)])
        x = Poly.variable(1, 0)
        top = Poly(1, [((40,), 1, 1)])
        # 2^299 to the power 40 is 2^11960.
        self.assertEqual(top([(1 << 299, 1, 1)]), (1 << 11960, 1, 1))
        self.assertEqual((top * Poly.constant(1, (1 << 40) - 1, 1))([(1 << 299, 1, 1)]), (((1 << 40) - 1) << 11960, 1, 1))
        assert_refused(self, BadExact, top * Poly.constant(1, 1 << 40, 1), [(1 << 299, 1, 1)])
        assert_refused(self, BadExact, top * Poly.constant(1, -1 << 40, 1), [(1 << 299, 1, 1)])
        assert_refused(self, BadExact, top * Poly.constant(1, 1, (1 << 40) + 1), [(1, (1 << 299) + 1, 1)])
        self.assertEqual((x * x)([(-wide, wide - 1, 1)]), (wide * wide, (wide - 1) ** 2, 1))
        inverse = Poly(1, [((64,), 1, 1)])
        self.assertEqual(inverse([(wide * 0, wide, 1)]), (0, 1, 1))
        full = Poly(4, [((64, 64, 64, 64), 1, 3)])
        self.assertEqual(full([(wide, 1, 1), (1, wide, 1), (wide, wide, 1), (wide, wide, 1)]), (1, 3, 1))

    def test_wrong_exacts(self):
        poly = Poly(2, [((1, 1), 1, 1)])
        one = (1, 1, 1)
        wrongs = [None, True, 0, (one, one), [one], [one, one, one], [], [one, None], [one, (1, 1, 2)], [one, (1, 0, 1)], [one, (1,
                    1)], [one, [1, 1, 1]],
                  [one, (1 << 300, 1, 1)], [one, (-(1 << 300), 1, 1)], [one, (1, 1 << 300, 1)], [(True, 1, 1), one], [(1, True, 1), one],
                  [(1, 1, True), one], [one, (0, 1, 2)], "xy", [one] * 5]
        for wrong in wrongs:
            assert_refused(self, BadExact, poly, wrong)
        self.assertEqual(poly([one, ((1 << 300) - 1, (1 << 300) - 2, 1)]), ((1 << 300) - 1, (1 << 300) - 2, 1))
        self.assertEqual(poly([(2, 4, 1), (-6, 3, 1)]), (-1, 1, 1))


class TestShape(unittest.TestCase):
    def test_what_the_class_defines(self):
        for name in ("variable", "constant", "variables", "__init__", "__iter__", "__len__", "__neg__", "__add__", "__sub__",
                    "__mul__", "__eq__",
                     "__call__"):
            self.assertIn(name, vars(Poly))
        self.assertIsInstance(vars(Poly)["variables"], property)
        self.assertIsInstance(vars(Poly)["variable"], staticmethod)
        self.assertIsInstance(vars(Poly)["constant"], staticmethod)
