import unittest
from fractions import Fraction

from everyrounding.errors import BadCount, BadFamily, BadFormat, TooMany
from everyrounding.families import (check_family, check_series, family_size, first_from, member, numbers_family, shifted, texts_family,
                                    times)
from everyrounding.formats import many
from everyrounding.seats import at_rank
from everyrounding.values import exact_of
from tests.oracle import TINY, assert_refused, exact_from, positives

HUGE, FAR = (1 << 3000) - 1, (1 << 140) - 1
RIGHT = [(0, 1, 1, 1, 1), (-5, 2, 3, 3, 9), (7, 1, 1, -6, 0), (HUGE, HUGE, HUGE, 0, FAR), (-HUGE, HUGE, 1, 2, 2), (1, 1, HUGE, 0, 0),
         (HUGE, 1, 1, -FAR, -FAR), (0, 1, 100, 1, 99)]
WRONG = [None, True, 0, "s", (), [], [1, 1, 1, 1, 2], (1, 1, 1, 1), (1, 1, 1, 1, 1, 1), (1, 0, 1, 1, 2), (1, -1, 1, 1, 2), (1, 1, 0, 1, 2),
         (1, 1, -1, 1, 2), (1, 1, 1, 2, 1), (0, 1, 1, 0, 5), (-1, 1, 1, 1, 5), (5, 1, 1, -5, 5), (HUGE + 1, 1, 1, 1, 2),
         (-HUGE - 1, HUGE, 1, 3, 4), (1, HUGE + 1, 1, 1, 2), (1, 1, HUGE + 1, 1, 2), (1, 1, 1, 1, FAR + 1), (HUGE, 1, 1, -FAR - 1, 0),
         (True, 1, 1, 1, 2), (1, True, 1, 1, 2), (1, 1, True, 1, 2), (1, 1, 1, True, 2), (1, 1, 1, 1, True), (1, 1, 1, False, 0),
         ("1", 1, 1, 1, 2), (1, 1, 1, None, 2), (1, 1, 1, (1,), 2)]


def members(family):
    return [Fraction(s + t * m, d) for s, t, d, a, b in family for m in range(a, b + 1)]


class TestChecks(unittest.TestCase):
    def test_series(self):
        for series in RIGHT:
            self.assertIsNone(check_series(series))
            self.assertIsNone(check_family((series,)))
        for wrong in WRONG:
            assert_refused(self, BadFamily, check_series, wrong)
            assert_refused(self, BadFamily, check_family, (wrong,))
            assert_refused(self, BadFamily, check_family, (RIGHT[0], wrong))
            assert_refused(self, BadFamily, member, wrong, None)
            assert_refused(self, BadFamily, first_from, wrong, None, None)

    def test_family(self):
        self.assertIsNone(check_family(tuple(RIGHT)))
        self.assertIsNone(check_family((RIGHT[0],) * 64))
        for wrong in [None, True, 0, (), [], [RIGHT[0]], RIGHT[0], (RIGHT[0],) * 65, "f", (None,), ((),)]:
            for call in (check_family, family_size):
                assert_refused(self, BadFamily, call, wrong)
            for call in (times, shifted):
                assert_refused(self, BadFamily, call, wrong, None, None)

    def test_size(self):
        self.assertEqual(family_size(((0, 1, 1, 1, 1),)), 1)
        self.assertEqual(family_size(((0, 1, 1, 1, 1), (0, 1, 1, 1, 1), (-5, 2, 3, 3, 9))), 9)
        self.assertEqual(family_size(((HUGE, 1, 1, -FAR, FAR),) * 64), 64 * (2 * FAR + 1))


class TestMember(unittest.TestCase):
    def test_members(self):
        for s, t, d, a, b in RIGHT:
            for m in {a, (a + b) // 2, b}:
                self.assertEqual(member((s, t, d, a, b), m), exact_from(Fraction(s + t * m, d)))
        self.assertEqual(member((-5, 2, 3, 3, 9), 7), (3, 1, 1))

    def test_places(self):
        for m in (2, 10, -3, True, None, "3", FAR + 1):
            assert_refused(self, BadCount, member, (-5, 2, 3, 3, 9), m)
        assert_refused(self, BadCount, member, (0, 1, 1, 1, 1), True)

    def test_first_from(self):
        for series in [(-5, 2, 3, 3, 9), (0, 1, 1, 1, 1), (7, 1, 2, -6, 4), (1, 5, 7, 0, 12)]:
            s, t, d, a, b = series
            for n in range(-5, 60):
                for under in (1, 2, 7, 21):
                    found = [m for m in range(a, b + 1) if Fraction(s + t * m, d) >= Fraction(n, under)]
                    self.assertEqual(first_from(series, n, under), found[0] if found else b + 1)

    def test_first_from_great(self):
        most = (1 << 9000) - 1
        self.assertEqual(first_from((0, 1, 1, 1, FAR), most, 1), FAR + 1)
        self.assertEqual(first_from((0, 1, 1, 1, FAR), -most, 1), 1)
        self.assertEqual(first_from((0, 1, 1, 1, FAR), most, most * most), 1)
        self.assertEqual(first_from((0, 1, 3, 1, FAR), FAR, 3), FAR)
        for n, d in [(most + 1, 1), (-most - 1, 1), (True, 1), (None, 1), (1, 0), (1, -1), (1, True), (1, None)]:
            assert_refused(self, BadCount, first_from, (0, 1, 1, 1, 9), n, d)


class TestNumbersFamily(unittest.TestCase):
    def test_whole_small_formats(self):
        for form in [TINY, (3, -2, 1), (2, -3, -1), (4, 1, 1), (3, 0, 4)]:
            values = positives(form)
            for i in range(1, many(form) + 1):
                for j in range(i, many(form) + 1):
                    family = numbers_family(form, i, j)
                    self.assertIsNone(check_family(family))
                    self.assertEqual(members(family), values[i - 1:j])
                    for s, t, d, a, b in family:
                        self.assertTrue(s == 0 and 1 in (t, d) and b < 1 << form[0])

    def test_told(self):
        self.assertEqual(numbers_family(TINY, 1, 7), ((0, 1, 1, 1, 3), (0, 2, 1, 2, 3), (0, 4, 1, 2, 3)))
        self.assertEqual(numbers_family(TINY, 5, 6), ((0, 2, 1, 3, 3), (0, 4, 1, 2, 2)))
        self.assertEqual(numbers_family((3, -2, 1), 2, 9), ((0, 1, 4, 2, 7), (0, 1, 2, 4, 5)))
        self.assertEqual(numbers_family((3, -1, 1), 9, 12), ((0, 1, 1, 5, 7), (0, 2, 1, 4, 4)))

    def test_great_formats(self):
        form = (140, -600, 600)
        n, half = many(form), 1 << 139
        family = numbers_family(form, n - 64 * half + 1, n)
        self.assertEqual(len(family), 64)
        self.assertEqual(family_size(family), 64 * half)
        self.assertEqual(family[0], (0, 1 << 537, 1, half, 2 * half - 1))
        self.assertEqual(family[-1], (0, 1 << 600, 1, half, 2 * half - 1))
        self.assertEqual(member(family[-1], 2 * half - 1), exact_of(at_rank(form, n)))
        self.assertEqual(numbers_family(form, 1, 64 * half + half - 1)[0], (0, 1, 1 << 600, 1, 2 * half - 1))
        self.assertEqual(len(numbers_family(form, 1, 64 * half + half - 1)), 64)

    def test_too_many(self):
        form = (140, -600, 600)
        n, half = many(form), 1 << 139
        for i, j in [(n - 64 * half, n), (1, 65 * half), (1, n)]:
            self.assertEqual(assert_refused(self, TooMany, numbers_family, form, i, j).limit, 64)
        self.assertEqual(len(numbers_family((2, 0, 63), 1, many((2, 0, 63)))), 64)
        assert_refused(self, TooMany, numbers_family, (2, 0, 64), 1, many((2, 0, 64)))

    def test_wrong_arguments(self):
        for i, j in [(0, 1), (-1, 1), (1, 8), (8, 8), (3, 2), (True, 1), (1, True), (None, 1), (1, None)]:
            assert_refused(self, BadCount, numbers_family, TINY, i, j)
        assert_refused(self, BadCount, numbers_family, (2, 0, 64), 1, many((2, 0, 64)) + 1)
        assert_refused(self, BadFormat, numbers_family, (1, 0, 0), 0, 0)


class TestChanged(unittest.TestCase):
    family = ((-5, 2, 3, 3, 9), (0, 1, 100, 1, 99), (7, 1, 1, -6, 0))

    def test_times(self):
        for n, d in [(1, 1), (2, 3), (6, 4), (HUGE >> 10, 1)]:
            told = times(self.family, n, d)
            self.assertEqual(told, tuple((s * n, t * n, under * d, a, b) for s, t, under, a, b in self.family))
            self.assertEqual(members(told), [value * Fraction(n, d) for value in members(self.family)])

    def test_shifted(self):
        for n, d in [(0, 1), (2, 3), (-1, 300), (6, 4), (0, 7)]:
            told = shifted(self.family, n, d)
            self.assertEqual(told, tuple((s * d + n * under, t * d, under * d, a, b) for s, t, under, a, b in self.family))
            self.assertEqual(members(told), [value + Fraction(n, d) for value in members(self.family)])

    def test_results_that_are_no_series(self):
        one = ((0, 1, 1, 1, 1),)
        for family, n, d in [(((1 << 2990, 1, 1, 0, 0),), 1 << 10, 1), (((1, 1 << 2990, 1, 0, 0),), 1 << 10, 1),
                             (((1, 1, 1 << 2990, 0, 0),), 1, 1 << 10), (self.family + ((HUGE, 1, 1, 0, 0),), 2, 1)]:
            assert_refused(self, BadFamily, times, family, n, d)
        for family, n, d in [(one, -1, 1), (one, -2, 1), (((HUGE, 1, 1, 0, 0),), 1, 1), (((1, 1, 1 << 1500, 0, 0),), 0, 1 << 1500),
                             (((1, 1 << 1500, 1, 0, 0),), 0, 1 << 1500), (self.family, -1, 100)]:
            assert_refused(self, BadFamily, shifted, family, n, d)
        self.assertEqual(times(one, HUGE, HUGE), ((0, HUGE, HUGE, 1, 1),))
        self.assertEqual(shifted(((HUGE, 1, 1, 0, 0),), 1 - HUGE, 1), ((1, 1, 1, 0, 0),))
        self.assertEqual(shifted(one, HUGE, 1), ((HUGE, 1, 1, 1, 1),))

    def test_wrong_arguments(self):
        for n, d in [(0, 1), (-1, 1), (HUGE + 1, 1), (1, 0), (1, -1), (1, HUGE + 1), (True, 1), (1, True), (None, 1), (1, "1")]:
            assert_refused(self, BadCount, times, self.family, n, d)
        for n, d in [(HUGE + 1, 1), (-HUGE - 1, 1), (0, 0), (0, -1), (0, HUGE + 1), (False, 1), (0, True), (None, 1)]:
            assert_refused(self, BadCount, shifted, self.family, n, d)
        # What is wrong by itself goes before a result that is no series.
        assert_refused(self, BadCount, times, ((HUGE, 1, 1, 0, 0),), 2, 0)
        assert_refused(self, BadCount, shifted, ((0, 1, 1, 1, 1),), -5, 0)


class TestTexts(unittest.TestCase):
    def test_members(self):
        for count, k, k2 in [(1, 0, 0), (2, -2, 1), (3, -1, -1), (1, 5, 7)]:
            told = [Fraction(d) * Fraction(10) ** K for K in range(k, k2 + 1) for d in range(10 ** (count - 1), 10 ** count)]
            self.assertEqual(members(texts_family(count, k, k2)), told)

    def test_told(self):
        self.assertEqual(texts_family(2, -1, 1), ((0, 1, 10, 10, 99), (0, 1, 1, 10, 99), (0, 10, 1, 10, 99)))
        self.assertEqual(texts_family(40, 300, 300), ((0, 10 ** 300, 1, 10 ** 39, 10 ** 40 - 1),))
        self.assertEqual(texts_family(40, -300, -300), ((0, 1, 10 ** 300, 10 ** 39, 10 ** 40 - 1),))

    def test_too_many(self):
        for k in (-300, -32, 0, 237):
            family = texts_family(40, k, k + 63)
            self.assertEqual(len(family), 64)
            self.assertIsNone(check_family(family))
        for k, k2 in [(-300, -236), (0, 64), (236, 300), (-300, 300)]:
            self.assertEqual(assert_refused(self, TooMany, texts_family, 1, k, k2).limit, 64)

    def test_wrong_arguments(self):
        for wrong in [(0, 0, 0), (41, 0, 0), (True, 0, 0), (1, -301, 0), (1, 301, 301), (1, 0, 301), (1, 5, 4), (1, True, 5), (1, 0, False),
                      (None, 0, 0), (1, None, 0), (1, 0, None), (1, 238, 301)]:
            assert_refused(self, BadCount, texts_family, *wrong)
