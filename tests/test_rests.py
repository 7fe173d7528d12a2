import unittest
from fractions import Fraction

from everyrounding.errors import BadCount, BadFormat, BadMode, BadNumber
from everyrounding.rests import convert, cut_rest, rest, scale, whole
from everyrounding.values import minus
from tests.oracle import (HUGE_M, INF, MINUS_INF, MINUS_ZERO, MODES, NAN, SPECIALS, ZERO, assert_refused, exact_from,
                          finite_numbers, slow_round, tuple_of, two, value_of)
from tests.test_rounding import told_choice

FORM = (2, 0, 2)
INVALID = (NAN, ("invalid",))
OVERFLOW = ("overflow", "inexact")
UNDERFLOW = ("underflow", "inexact")
NUMBERS = [(s, m, q) for s in (0, 1) for m in (1, 3, 5, 7, 13) for q in (-3, -1, 0, 2)]


class TestRests(unittest.TestCase):
    def test_finite_numbers(self):
        for x in NUMBERS:
            for y in NUMBERS:
                a, b = value_of(x), value_of(y)
                # round of a fraction goes to the nearest integer, ties to the even one.
                self.assertEqual(rest(x, y), (tuple_of(a - round(a / b) * b, x[0]), ()), (x, y))
                self.assertEqual(cut_rest(x, y), (tuple_of(a - int(a / b) * b, x[0]), ()), (x, y))

    def test_halves_and_beside(self):
        two_ = (0, 1, 1)
        self.assertEqual(rest((0, 1, 0), two_), ((0, 1, 0), ()))
        self.assertEqual(rest((0, 3, 0), two_), ((1, 1, 0), ()))
        self.assertEqual(rest((0, 5, 0), two_), ((0, 1, 0), ()))
        self.assertEqual(rest((1, 3, 0), two_), ((0, 1, 0), ()))
        self.assertEqual(rest((0, 3, 0), minus(two_)), ((1, 1, 0), ()))
        self.assertEqual(rest((0, 5 * (1 << 500) + 1, -500), two_), ((1, (1 << 500) - 1, -500), ()))
        self.assertEqual(rest((0, 5 * (1 << 500) - 1, -500), two_), ((0, (1 << 500) - 1, -500), ()))
        self.assertEqual(cut_rest((0, 5 * (1 << 500) - 1, -500), two_), ((0, (1 << 500) - 1, -500), ()))
        self.assertEqual(cut_rest((1, 3, 0), two_), ((1, 1, 0), ()))

    def test_zero_rests_have_the_sign_of_x(self):
        for call in (rest, cut_rest):
            for y in ((0, 3, 0), (1, 3, 0)):
                self.assertEqual(call((0, 9, 0), y), (ZERO, ()))
                self.assertEqual(call((1, 9, 0), y), (MINUS_ZERO, ()))
                self.assertEqual(call((1, 9, 2000), y), (MINUS_ZERO, ()))

    def test_far_powers(self):
        big, small = (0, HUGE_M, 2000), (0, 3, -2000)
        left = (HUGE_M << 4000) % 3
        self.assertEqual(cut_rest(big, small), (tuple_of(Fraction(left) * two(-2000)), ()))
        self.assertEqual(rest(minus(big), (0, 7, -2000)),
                         (tuple_of(-value_of(big) + round(value_of(big) / value_of((0, 7, -2000))) * 7 * two(-2000), 1), ()))
        self.assertEqual(rest(small, big), (small, ()))
        self.assertEqual(cut_rest(minus(small), big), (minus(small), ()))

    def test_power_past_2000(self):
        for call, x, y in [(cut_rest, (0, 5, 2000), (0, 3, 2000)), (rest, (0, 9, 2000), (0, 7, 2000)),
                           (rest, (0, 5, 2000), (0, 7, 2000)), (cut_rest, (1, 11, 2000), (1, 7, 2000)),
                           (rest, (0, HUGE_M, 2000), (0, HUGE_M - 2, 2000))]:
            assert_refused(self, BadNumber, call, x, y)
        self.assertEqual(rest((0, 5, 2000), (0, 3, 2000)), ((1, 1, 2000), ()))
        self.assertEqual(cut_rest((0, 5, 2000), (0, 7, 2000)), ((0, 5, 2000), ()))
        self.assertEqual(rest((1, 9, 2000), (0, 3, 2000)), (MINUS_ZERO, ()))
        self.assertEqual(rest((0, 9, 1999), (0, 7, 1999)), ((0, 1, 2000), ()))

    def test_specials(self):
        for call in (rest, cut_rest):
            for x in list(SPECIALS) + [(0, 3, 0), (1, 1, 5)]:
                self.assertEqual(call(NAN, x), (NAN, ()))
                self.assertEqual(call(x, NAN), (NAN, ()))
                if x != NAN:
                    self.assertEqual(call(INF, x), INVALID)
                    self.assertEqual(call(MINUS_INF, x), INVALID)
                    self.assertEqual(call(x, ZERO), INVALID)
                    self.assertEqual(call(x, MINUS_ZERO), INVALID)
            for x in (ZERO, MINUS_ZERO, (0, 3, 0), (1, 1, 5)):
                self.assertEqual(call(x, INF), (x, ()))
                self.assertEqual(call(x, MINUS_INF), (x, ()))
            for x in (ZERO, MINUS_ZERO):
                self.assertEqual(call(x, (1, 3, 4)), (x, ()))

    def test_wrong_arguments(self):
        for call in (rest, cut_rest):
            for x in (None, (0, 2, 0), (0, True, 0), [0, 1, 0], (0, 1, 2001)):
                assert_refused(self, BadNumber, call, x, NAN)
                assert_refused(self, BadNumber, call, NAN, x)


class TestWhole(unittest.TestCase):
    def test_at_and_beside(self):
        for k in (0, 1, 2, 3, 6, 7, 100, 101):
            for step in range(-4, 5):
                value = k + Fraction(step, 4)
                where = (4 * value % 4).numerator
                for s in (0, 1):
                    x = tuple_of(-value if s else value, s)
                    if value <= 0:
                        continue
                    for mode in MODES:
                        told = tuple_of(Fraction(told_choice(mode, s, int(value), where)))[1:]
                        self.assertEqual(whole(x, mode=mode), ((s,) + told, ("inexact",) if where else ()), (x, mode))

    def test_just_beside_a_half(self):
        for s in (0, 1):
            x = (s, (5 << 500) + 1, -501)
            self.assertEqual(whole(x), ((s, 3, 0), ("inexact",)))
            self.assertEqual(whole((s, (5 << 500) - 1, -501), mode="away"), ((s, 1, 1), ("inexact",)))
            self.assertEqual(whole((s, 5, -1), mode="away"), ((s, 3, 0), ("inexact",)))
            self.assertEqual(whole((s, 5, -1)), ((s, 1, 1), ("inexact",)))
            self.assertEqual(whole((s, 1, -1)), ((s, 0, 0), ("inexact",)))
            self.assertEqual(whole((s, 1, -2000)), ((s, 0, 0), ("inexact",)))
            self.assertEqual(whole((s, 1, -2000), mode="odd"), ((s, 1, 0), ("inexact",)))
            self.assertEqual(whole((s, HUGE_M, -1), mode="even"), ((s, 1, 599), ("inexact",)))

    def test_what_stays(self):
        for x in list(SPECIALS) + [(0, 1, 0), (1, 7, 3), (0, HUGE_M, 2000), (1, 1, 2000)]:
            for mode in MODES:
                self.assertEqual(whole(x, mode=mode), (x, ()))

    def test_wrong_arguments(self):
        assert_refused(self, BadNumber, whole, (0, 4, 0), mode="x")
        assert_refused(self, BadMode, whole, NAN, mode="x")


class TestConvert(unittest.TestCase):
    def test_ordinary(self):
        for form in [FORM, (3, -1, 0)]:
            for x in NUMBERS + finite_numbers((3, -2, 2)):
                for mode in MODES:
                    told = (x, ()) if x[1] == 0 else slow_round(form, exact_from(value_of(x)), mode)
                    self.assertEqual(convert(form, x, mode=mode), told, (form, x, mode))

    def test_what_stays(self):
        for x in SPECIALS:
            for mode in MODES:
                self.assertEqual(convert(FORM, x, mode=mode), (x, ()))
                self.assertEqual(scale(FORM, x, -2000, mode=mode), (x, ()))

    def test_great(self):
        self.assertEqual(convert(FORM, (0, HUGE_M, 2000)), (INF, OVERFLOW))
        self.assertEqual(convert(FORM, (1, 1, -2000)), (MINUS_ZERO, UNDERFLOW))
        self.assertEqual(convert((140, -600, 600), (1, HUGE_M, 0), mode="up"), ((1, (1 << 140) - 1, 460), ("inexact",)))

    def test_wrong_arguments(self):
        assert_refused(self, BadFormat, convert, (2, 0), None, mode=None)
        assert_refused(self, BadNumber, convert, FORM, None, mode=None)
        assert_refused(self, BadMode, convert, FORM, NAN, mode=None)


class TestScale(unittest.TestCase):
    def test_ordinary(self):
        for x in NUMBERS:
            for k in (-4, -1, 0, 1, 3):
                for mode in MODES:
                    told = slow_round(FORM, exact_from(value_of(x) * two(k)), mode)
                    self.assertEqual(scale(FORM, x, k, mode=mode), told, (x, k, mode))

    def test_ends_and_beyond_the_bounds_of_numbers(self):
        self.assertEqual(scale(FORM, (0, 3, 2000), -2000), ((0, 3, 0), ()))
        self.assertEqual(scale(FORM, (0, 3, -1999), 2000), ((0, 3, 1), ()))
        self.assertEqual(scale(FORM, (0, HUGE_M, 2000), 2000), (INF, OVERFLOW))
        self.assertEqual(scale(FORM, (1, HUGE_M, 2000), 2000, mode="up"), ((1, 3, 2), OVERFLOW))
        self.assertEqual(scale(FORM, (0, 1, -2000), -2000), (ZERO, UNDERFLOW))
        self.assertEqual(scale(FORM, (1, 1, -2000), -2000, mode="down"), ((1, 1, 0), UNDERFLOW))
        for k in (2001, -2001, True, False, None, "0"):
            assert_refused(self, BadCount, scale, FORM, NAN, k)

    def test_order_of_checks(self):
        assert_refused(self, BadNumber, scale, FORM, None, 2001, mode=None)
        assert_refused(self, BadCount, scale, FORM, NAN, 2001, mode=None)
        assert_refused(self, BadMode, scale, FORM, NAN, 2000, mode=None)
