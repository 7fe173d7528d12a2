import unittest
from fractions import Fraction

from everyrounding.cuts import cell, check_cut, cut_at, cut_less, inner_point, is_above
from everyrounding.errors import BadCount, BadCut, BadExact, BadFormat, BadMode, BadNumber
from everyrounding.formats import many
from everyrounding.rounding import rounded
from everyrounding.seats import at_rank, rank
from tests.oracle import (HUGE_M, MODES, SPECIALS, assert_refused, exact_from, finite_numbers, positives, tuple_of, two)

FORMS = [(2, 0, 2), (3, -2, 1), (4, 1, 1), (2, -1, 3)]
WRONG = [0, True, "NEVER", [1, 0, 0], (1, 0), (1, 0, 0, 0), (), (1, 0, 2), (1, 0, -1), (2, 0, 0), (-1, 0, 0), (0, 1, 0),
         (0, -1, 1), (1 << 600, 0, 0), ((1 << 600) + 1, 0, 0), (1, 2001, 0), (1, -2001, 0), (True, 0, 0), (1, False, 0),
         (1, True, 0), (1, 0, True), (1, 0, False), (False, 0, 0), (0, False, 0), (0, 0, False), ("1", 0, 0),
         (1, None, 0), False]
RIGHT = [None, (0, 0, 0), (0, 0, 1), (1, 0, 0), (HUGE_M, 2000, 1), (1, -2000, 0), (3, -5, 1)]


def point(cut):
    return cut[0] * two(cut[1])


def made_cut(value, side):
    _, m, q = tuple_of(value)
    return (m, q, side)


def told_cut(form, i, mode):
    """The cut of [13] from the list of the numbers."""
    sizes = [Fraction(0)] + positives(form) + [two(form[2] + form[0])]
    last = i == len(sizes) - 2
    mid = (sizes[i] + sizes[i + 1]) / 2
    if mode == "even":
        return made_cut(mid, 1 - i % 2)
    if mode == "away":
        return made_cut(mid, 0)
    if mode == "up" or (mode == "odd" and i % 2 == 0):
        return made_cut(sizes[i], 1)
    return None if last else made_cut(sizes[i + 1], 0)


class TestCheck(unittest.TestCase):
    def test_bounds(self):
        for cut in RIGHT:
            self.assertIsNone(check_cut(cut))
        for cut in WRONG:
            assert_refused(self, BadCut, check_cut, cut)
            assert_refused(self, BadCut, is_above, (1, 1, 1), cut)
            assert_refused(self, BadCut, cut_less, cut, None)
            assert_refused(self, BadCut, cut_less, None, cut)
            assert_refused(self, BadCut, inner_point, cut, None)
            assert_refused(self, BadCut, inner_point, (0, 0, 0), cut)


class TestCutAt(unittest.TestCase):
    def test_small_formats(self):
        for form in FORMS:
            for mode in MODES:
                for i in range(many(form) + 1):
                    cut = cut_at(form, i, mode=mode)
                    self.assertEqual(cut, told_cut(form, i, mode), (form, i, mode))
                    self.assertIsNone(check_cut(cut))

    def test_cuts_rise(self):
        for form in FORMS:
            for mode in MODES:
                cuts = [cut_at(form, i, mode=mode) for i in range(many(form) + 1)]
                for low, high in zip(cuts, cuts[1:]):
                    # By odd two neighbouring cuts can have one point, never one side.
                    self.assertIs(cut_less(low, high), True)
                    self.assertIs(cut_less(high, low), False)

    def test_default_mode(self):
        self.assertEqual(cut_at((2, 0, 2), 3), cut_at((2, 0, 2), 3, mode="even"))

    def test_great_formats(self):
        for form in [(140, -600, 600), (2, -600, 600), (140, 600, 600), (53, -600, -600)]:
            p, lo, hi = form
            n = many(form)
            full = (1 << p) - 1
            self.assertEqual(cut_at(form, 0), (1, lo - 1, 1))
            self.assertEqual(cut_at(form, 0, mode="away"), (1, lo - 1, 0))
            self.assertEqual(cut_at(form, 0, mode="zero"), (1, lo, 0))
            self.assertEqual(cut_at(form, 0, mode="down"), (1, lo, 0))
            self.assertEqual(cut_at(form, 0, mode="up"), (0, 0, 1))
            self.assertEqual(cut_at(form, 0, mode="odd"), (0, 0, 1))
            self.assertEqual(cut_at(form, n), (2 * full + 1, hi - 1, 0))
            self.assertEqual(cut_at(form, n, mode="away"), (2 * full + 1, hi - 1, 0))
            self.assertEqual(cut_at(form, n, mode="up"), (full, hi, 1))
            for mode in ("zero", "down", "odd"):
                self.assertIsNone(cut_at(form, n, mode=mode))
            self.assertEqual(cut_at(form, n - 1, mode="zero"), (full, hi, 0))
            half = 1 << (p - 1)
            self.assertEqual(cut_at(form, half - 1, mode="zero"), (1, lo + p - 1, 0))

    def test_the_rank_is_the_number_of_cuts(self):
        for form in FORMS[:2]:
            over = two(form[2] + form[0])
            sizes = [Fraction(0)] + positives(form) + [over, 2 * over]
            values = {low + (high - low) * Fraction(j, 8) for low, high in zip(sizes, sizes[1:]) for j in range(9)}
            values |= {(low + high) / 2 + e * two(-40) for low, high in zip(sizes, sizes[1:]) for e in (-1, 1)}
            for mode in MODES:
                cuts = [cut_at(form, i, mode=mode) for i in range(many(form) + 1)]
                for value in values - {0}:
                    told = rank(form, rounded(form, exact_from(value), mode=mode)[0])
                    self.assertEqual(sum(is_above(exact_from(value), cut) for cut in cuts), told)

    def test_wrong_arguments(self):
        n = many((2, 0, 2))
        for i in (-1, n + 1, True, False, None, "0"):
            assert_refused(self, BadCount, cut_at, (2, 0, 2), i)
        assert_refused(self, BadFormat, cut_at, (1, 0, 2), -1, mode="x")
        assert_refused(self, BadCount, cut_at, (2, 0, 2), -1, mode="x")
        assert_refused(self, BadMode, cut_at, (2, 0, 2), 1, mode=None)


class TestAbove(unittest.TestCase):
    def test_at_and_beside(self):
        for m, q in [(1, 0), (3, -2), (5, 4), (HUGE_M, 10), (1, -1000)]:
            c = m * two(q)
            for step, told in [(-1, (False, False)), (0, (True, False)), (1, (True, True))]:
                z = c + step * two(-1500)
                root = c * c + step * two(-3000)
                for exact in (exact_from(z), exact_from(root, 2)):
                    self.assertEqual((is_above(exact, (m, q, 0)), is_above(exact, (m, q, 1))), told)

    def test_zero(self):
        for k in (1, 2):
            self.assertIs(is_above((0, 1, k), (0, 0, 0)), True)
            self.assertIs(is_above((0, 1, k), (0, 0, 1)), False)
            self.assertIs(is_above((0, 1, k), (1, -2000, 0)), False)
            self.assertIs(is_above((1, 1 << 11999, k), (0, 0, 1)), True)

    def test_never(self):
        for exact in [(0, 1, 1), (1, 1, 1), ((1 << 12000) - 1, 1, 1), (5, 1, 2)]:
            self.assertIs(is_above(exact, None), False)

    def test_roots(self):
        self.assertIs(is_above((9, 1, 2), (3, 0, 0)), True)
        self.assertIs(is_above((9, 1, 2), (3, 0, 1)), False)
        self.assertIs(is_above((8, 1, 2), (3, 0, 0)), False)
        self.assertIs(is_above((10, 1, 2), (3, 0, 1)), True)
        self.assertIs(is_above((18, 2, 2), (3, 0, 0)), True)

    def test_great(self):
        self.assertIs(is_above((HUGE_M << 2000, 1, 1), (HUGE_M, 2000, 0)), True)
        self.assertIs(is_above((HUGE_M << 2000, 1, 1), (HUGE_M, 2000, 1)), False)
        self.assertIs(is_above((1, 1 << 2000, 1), (1, -2000, 1)), False)

    def test_below_zero(self):
        assert_refused(self, BadExact, is_above, (-1, 1, 1), (1, 0, 0))
        assert_refused(self, BadExact, is_above, (-1, 1 << 11999, 1), None)
        assert_refused(self, BadExact, is_above, (-1, 1, 1), "x")
        assert_refused(self, BadExact, is_above, (True, 1, 1), "x")


class TestLess(unittest.TestCase):
    def test_all_pairs(self):
        cuts = [(0, 0, 0), (0, 0, 1), (1, -2000, 0), (1, -3, 0), (1, -3, 1), (3, -4, 0), (1, 0, 0), (1, 0, 1), (5, -2, 0),
                (3, 0, 1), (1, 600, 0), (HUGE_M, 2000, 1), None]
        keys = [(1, 0, 0) if cut is None else (0, point(cut), cut[2]) for cut in cuts]
        for cut, key in zip(cuts, keys):
            for cut2, key2 in zip(cuts, keys):
                self.assertIs(cut_less(cut, cut2), key < key2, (cut, cut2))


class TestCell(unittest.TestCase):
    def test_each_positive_number(self):
        for form in FORMS:
            for mode in MODES:
                for i in range(1, many(form) + 1):
                    x = at_rank(form, i)
                    self.assertEqual(cell(form, x, mode=mode), (told_cut(form, i - 1, mode), told_cut(form, i, mode)))
        self.assertEqual(cell((2, 0, 2), (0, 1, 0)), ((1, -1, 1), (3, -1, 0)))

    def test_refused_for_others(self):
        form = (2, 0, 2)
        for x in list(SPECIALS) + [x for x in finite_numbers(form) if x[0] == 1]:
            assert_refused(self, BadNumber, cell, form, x)
        for x in [(0, 5, 0), (0, 1, 4), (0, 1, -1), None, (0, True, 0), (False, 1, 0)]:
            assert_refused(self, BadNumber, cell, form, x)
        assert_refused(self, BadNumber, cell, form, (1, 1, 0), mode="x")
        assert_refused(self, BadMode, cell, form, (0, 1, 0), mode="x")
        assert_refused(self, BadFormat, cell, (2, 0), (1, 1, 0), mode="x")


class TestInnerPoint(unittest.TestCase):
    def test_cases(self):
        self.assertEqual(inner_point((1, 0, 1), (1, 1, 0)), (3, 2, 1))
        self.assertEqual(inner_point((1, 0, 0), (3, -1, 1)), (5, 4, 1))
        self.assertEqual(inner_point((1, 0, 0), (1, 0, 1)), (1, 1, 1))
        self.assertEqual(inner_point((3, 2, 0), (3, 2, 1)), (12, 1, 1))
        self.assertEqual(inner_point((3, -2, 0), (3, -2, 1)), (3, 4, 1))
        self.assertEqual(inner_point((0, 0, 0), (0, 0, 1)), (0, 1, 1))
        self.assertEqual(inner_point((0, 0, 1), (1, 0, 0)), (1, 2, 1))
        self.assertEqual(inner_point((0, 0, 0), (3, 1, 0)), (3, 1, 1))
        self.assertEqual(inner_point((3, 2, 1), None), (24, 1, 1))
        self.assertEqual(inner_point((3, -2, 0), None), (3, 2, 1))
        self.assertEqual(inner_point((0, 0, 0), None), (1, 1, 1))
        self.assertEqual(inner_point((0, 0, 1), None), (1, 1, 1))

    def test_between(self):
        cuts = [(0, 0, 0), (0, 0, 1), (1, -2000, 0), (1, -2000, 1), (3, -4, 0), (HUGE_M, -600, 1), (1, 0, 0), (1, 0, 1),
                (HUGE_M, 2000, 0), (HUGE_M, 2000, 1), None]
        for at, cut in enumerate(cuts):
            for second in cuts[at + 1:]:
                z = inner_point(cut, second)
                self.assertEqual(z[2], 1)
                self.assertEqual(exact_from(Fraction(z[0], z[1])), z)
                self.assertIs(is_above(z, cut), True)
                self.assertIs(is_above(z, second), False)
                if second is not None and point(cut) < point(second):
                    self.assertEqual(Fraction(z[0], z[1]), (point(cut) + point(second)) / 2)

    def test_equal_and_falling(self):
        cuts = [(0, 0, 0), (0, 0, 1), (1, -3, 0), (1, -3, 1), (1, 0, 0), None]
        for at, cut in enumerate(cuts):
            for second in cuts[:at + 1]:
                assert_refused(self, BadCut, inner_point, cut, second)
