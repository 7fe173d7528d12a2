import unittest
from fractions import Fraction

from everyrounding.errors import BadCount, BadFormat, BadNumber, NotAsked
from everyrounding.order import (compare, difference_exact, difference_question, greatest_of, least_of, ratio_bound,
                                 total)
from everyrounding.values import fits, minus
from tests.oracle import (HUGE_M, INF, MINUS_INF, MINUS_ZERO, NAN, SPECIALS, ZERO, assert_refused, finite_numbers,
                          positives, tuple_of, two, value_of)

# All kinds of numbers in the total order of [8].
ORDERED = ([MINUS_INF, (1, HUGE_M, 2000), (1, 1, 2000), (1, 3, 1), (1, 11, -1), (1, 5, 0), (1, 9, -1), (1, 1, 2), (1, 1, 0),
            (1, 1, -2000), MINUS_ZERO, ZERO, (0, 1, -2000), (0, 3, -2000), (0, HUGE_M, -2000), (0, 1, 0),
            (0, (1 << 599) + 1, -599), (0, 3, 0), (0, 1, 2), (0, 9, -1), (0, 5, 0), (0, 11, -1), (0, 3, 1), (0, 7, 0),
            (0, 1, 2000), (0, HUGE_M - 2, 2000), (0, HUGE_M, 2000), INF, NAN])
PAIRS = (compare, total, least_of, greatest_of)


def total_key(x):
    kind = {-2: 3, -1: 2}.get(x[1], 1)
    if kind == 1:
        return (0, value_of(x), 1 - x[0])
    return (1, 0, 0) if x == INF else (2, 0, 0) if x == NAN else (-1, 0, 0)


class TestTotalOrder(unittest.TestCase):
    def test_list_is_ordered(self):
        told = sorted(ORDERED, key=total_key)
        self.assertEqual([total_key(x) for x in ORDERED], [total_key(x) for x in told])

    def test_all_pairs(self):
        for at, x in enumerate(ORDERED):
            for at2, y in enumerate(ORDERED):
                order = (at > at2) - (at < at2)
                self.assertEqual(total(x, y), order, (x, y))
                if NAN in (x, y):
                    told = "apart"
                elif x == y or (x[1] == 0 and y[1] == 0):
                    told = "same"
                else:
                    told = "less" if order < 0 else "more"
                self.assertEqual(compare(x, y), told, (x, y))
                self.assertEqual(least_of(x, y), NAN if NAN in (x, y) else ORDERED[min(at, at2)])
                self.assertEqual(greatest_of(x, y), NAN if NAN in (x, y) else ORDERED[max(at, at2)])

    def test_zeros(self):
        self.assertEqual(total(MINUS_ZERO, ZERO), -1)
        self.assertEqual(compare(MINUS_ZERO, ZERO), "same")
        self.assertEqual(least_of(ZERO, MINUS_ZERO), MINUS_ZERO)
        self.assertEqual(greatest_of(MINUS_ZERO, ZERO), ZERO)

    def test_wrong_numbers(self):
        for call in PAIRS:
            for x in (None, (0, 2, 0), (0, 1, True), (False, 1, 0), [0, 1, 0], (0, 1, 2001)):
                assert_refused(self, BadNumber, call, x, ZERO)
                assert_refused(self, BadNumber, call, NAN, x)


class TestDifferenceExact(unittest.TestCase):
    def test_small_formats(self):
        for form in [(2, 0, 2), (3, -2, -1), (2, 1, 1)]:
            held = set(positives(form)) | {0}
            for x in finite_numbers(form):
                for y in finite_numbers(form):
                    self.assertIs(difference_exact(form, x, y), abs(value_of(x) - value_of(y)) in held, (form, x, y))

    def test_great_format(self):
        form = (140, -600, 600)
        top, least = (0, (1 << 140) - 1, 600), (0, 1, -600)
        self.assertIs(difference_exact(form, top, least), False)
        self.assertIs(difference_exact(form, top, top), True)
        self.assertIs(difference_exact(form, top, minus(top)), False)
        self.assertIs(difference_exact(form, (0, 1, 700), (0, (1 << 140) - 1, 560)), True)
        self.assertIs(difference_exact(form, ZERO, minus(top)), True)

    def test_wrong_numbers(self):
        form = (2, 0, 2)
        for x in (INF, MINUS_INF, NAN, (0, 5, 0), (0, 1, -1), (0, 1, 4), None, (0, True, 0)):
            assert_refused(self, BadNumber, difference_exact, form, x, ZERO)
            assert_refused(self, BadNumber, difference_exact, form, ZERO, x)
        assert_refused(self, BadFormat, difference_exact, (1, 0, 2), None, None)


class TestRatioBound(unittest.TestCase):
    def test_told(self):
        self.assertEqual(ratio_bound((2, 0, 2)), (8, 3))
        self.assertEqual(ratio_bound((3, -5, 9)), (16, 7))
        self.assertEqual(ratio_bound((2, 0, 1)), (6, 1))
        self.assertEqual(ratio_bound((3, 4, 5)), (14, 5))
        self.assertIsNone(ratio_bound((2, 0, 0)))
        self.assertIsNone(ratio_bound((140, 600, 600)))
        self.assertEqual(ratio_bound((140, -600, 600)), (1 << 141, (1 << 140) - 1))
        self.assertEqual(ratio_bound((140, 1, 2)), ((1 << 141) - 2, (1 << 140) - 3))
        assert_refused(self, BadFormat, ratio_bound, (2, 1, 0))
        assert_refused(self, BadFormat, ratio_bound, (2, False, 1))


class TestDifferenceQuestion(unittest.TestCase):
    def claim(self, form, n, d):
        """The claim by trying all numbers."""
        held = set(positives(form)) | {0}
        return all(x - y in held for x in held for y in held if x >= y > 0 and x * d <= n * y)

    def test_small_formats(self):
        for form in [(2, 0, 2), (2, 0, 3), (2, -1, 0), (3, 0, 1), (3, -2, 1), (2, 2, 2), (3, 0, 0)]:
            ratios = {Fraction(n, d) for d in range(1, 8) for n in range(d, 8 * d)}
            bound = ratio_bound(form)
            if bound:
                star = Fraction(*bound)
                ratios |= {star, star - Fraction(1, 999), star + Fraction(1, 999)}
            for told in ratios:
                if told < 1:
                    continue
                answer = difference_question(form, told.numerator, told.denominator)
                if self.claim(form, told.numerator, told.denominator):
                    self.assertEqual(answer, ("holds",))
                else:
                    self.assertEqual(answer[0], "fails")
                    _, x, y = answer
                    self.assertTrue(fits(form, x) and fits(form, y))
                    self.assertTrue(value_of(x) <= told * value_of(y) and value_of(x) >= value_of(y) > 0)
                    self.assertIs(difference_exact(form, x, y), False)

    def test_witnesses(self):
        for form, n, d in [((2, 0, 2), 8, 3), ((3, -5, -3), 99, 1), ((53, -600, 600), 3, 1)]:
            p, lo, _ = form
            x, y = two(p + 1 + lo), ((1 << p) - 1) * two(lo)
            self.assertEqual(difference_question(form, n, d), ("fails", tuple_of(x), tuple_of(y)))
        for form, n, d in [((2, 0, 1), 6, 1), ((3, -5, -4), 99, 1), ((140, 599, 600), 3, 1)]:
            p, lo, _ = form
            x, y = ((1 << (p + 1)) - 2) * two(lo), ((1 << p) - 3) * two(lo)
            self.assertEqual(difference_question(form, n, d), ("fails", tuple_of(x), tuple_of(y)))

    def test_at_the_bound_and_beside(self):
        for form in [(2, 0, 2), (2, 0, 1), (5, -3, 9), (140, -600, 600), (140, 0, 1)]:
            n, d = ratio_bound(form)
            many = 1 << 400
            self.assertEqual(difference_question(form, n, d)[0], "fails")
            self.assertEqual(difference_question(form, n * many, d * many)[0], "fails")
            self.assertEqual(difference_question(form, n * many - 1, d * many)[0], "holds")
            self.assertEqual(difference_question(form, n * many + 1, d * many)[0], "fails")
            self.assertEqual(difference_question(form, n * many, d * many + 1)[0], "holds")
        for form in [(2, 0, 0), (140, -600, -600)]:
            self.assertEqual(difference_question(form, (1 << 600) - 1, 1), ("holds",))

    def test_ends(self):
        last = (1 << 600) - 1
        form = (2, 0, 2)
        self.assertEqual(difference_question(form, 1, 1), ("holds",))
        self.assertEqual(difference_question(form, last, last), ("holds",))
        self.assertEqual(difference_question(form, last, last - 1), ("holds",))
        self.assertEqual(difference_question(form, last, 1)[0], "fails")
        for wrong in (0, -1, last + 1, True, False, None, "1", (1,)):
            assert_refused(self, BadCount, difference_question, form, wrong, 1)
            assert_refused(self, BadCount, difference_question, form, last, wrong)
        for n, d in [(1, 2), (last - 1, last), (1, last)]:
            assert_refused(self, NotAsked, difference_question, form, n, d)
            assert_refused(self, NotAsked, difference_question, (2, 0, 0), n, d)
        assert_refused(self, BadFormat, difference_question, (2, 0), 0, True)
        assert_refused(self, BadCount, difference_question, form, 1, last + 1)


class TestSpecials(unittest.TestCase):
    def test_same_only_where_alike(self):
        for x in SPECIALS:
            for y in SPECIALS:
                same = x != NAN and y != NAN and (x == y or x[1] == y[1] == 0)
                self.assertIs(compare(x, y) == "same", same)
