import re
import unittest
from fractions import Fraction

from everyrounding.decread import read_decimal
from everyrounding.decwrite import exact_text, figures_text, fixed_text
from everyrounding.errors import BadCount, BadMode, BadNumber
from everyrounding.values import minus
from tests.oracle import (HUGE_M, INF, MINUS_INF, MINUS_ZERO, MODES, NAN, SMALL, ZERO, assert_refused, finite_numbers, pick_up,
                          value_of)

FIVE = MODES[:5]
GREAT = [(0, 1, 2000), (1, 1, -2000), (0, HUGE_M, 2000), (1, HUGE_M, 2000), (0, HUGE_M, -2000), (0, 5, -1), (0, 125, -3), (0, 15625, 6),
         (1, 249, -2), (0, 999, 0), (0, 9995, -1), (1, 3, -5), (0, 625, -4), (0, 95, 0), (0, 105, 0), (0, 1, 600), (0, 1, -600)]
WRITTEN = re.compile(r"(-?)(0|[1-9][0-9]*)e(0|-?[1-9][0-9]*)")
SPECIAL_TEXTS = {ZERO: "0e0", MINUS_ZERO: "-0e0", INF: "inf", MINUS_INF: "-inf", NAN: "nan"}


def parts(text):
    """Sign, D and K of a written text."""
    sign, figures, k = WRITTEN.fullmatch(text).groups()
    return (1 if sign else 0, int(figures), int(k))


def multiple(size, k, mode, s):
    """The multiple of 10^k that the mode chooses, and whether this is exact."""
    units = size / Fraction(10) ** k
    whole = units.numerator // units.denominator
    if whole == units:
        return (whole, True)
    half = units - whole - Fraction(1, 2)
    return (whole + pick_up(mode, s, whole, None, (half > 0) - (half < 0)), False)


def slow_figures(x, count, mode):
    size = abs(value_of(x))
    t = -700
    while Fraction(10) ** (t + 1) <= size:
        t += 1
    figures, exact = multiple(size, t - count + 1, mode, x[0])
    k = t - count + 1
    if figures == 10 ** count:
        figures, k = figures // 10, k + 1
    return (f"{'-' if x[0] else ''}{figures}e{k}", exact)


class TestExactText(unittest.TestCase):
    def test_value_and_form(self):
        for x in finite_numbers(SMALL) + GREAT:
            if x[1] == 0:
                continue
            s, figures, k = parts(exact_text(x))
            self.assertEqual((-1) ** s * figures * Fraction(10) ** k, value_of(x))
            self.assertNotEqual(figures % 10, 0)

    def test_told(self):
        for x, text in [((0, 5, 1), "1e1"), ((0, 15625, 6), "1e6"), ((1, 1, -1), "-5e-1"), ((0, 3, 2), "12e0"), ((0, 1, -2), "25e-2"),
                        ((1, 125, 4), "-2e3"), ((0, 1, 0), "1e0")]:
            self.assertEqual(exact_text(x), text)

    def test_great_powers(self):
        self.assertEqual(exact_text((0, 1, -2000)), f"{5 ** 2000}e-2000")
        self.assertEqual(exact_text((0, 1, 2000)), f"{2 ** 2000}e0")
        self.assertEqual(exact_text((1, HUGE_M, -2000)), f"-{HUGE_M * 5 ** 2000}e-2000")
        self.assertEqual(exact_text((0, 5 ** 258, 600)), f"{2 ** 342}e258")

    def test_specials(self):
        for x, text in SPECIAL_TEXTS.items():
            self.assertEqual(exact_text(x), text)

    def test_reads_as_the_same_value(self):
        for x in finite_numbers(SMALL):
            s, n, d = read_decimal(exact_text(x))
            self.assertEqual((s, Fraction(n, d)), (x[0], abs(value_of(x))))


class TestFiguresText(unittest.TestCase):
    def test_small_and_great_numbers(self):
        for x in [x for x in finite_numbers(SMALL) if x[1] > 0] + GREAT:
            for count in (1, 2, 3, 5, 17, 60):
                for mode in FIVE:
                    told = figures_text(x, count, five=mode)
                    self.assertEqual(told, slow_figures(x, count, mode), (x, count, mode))
                    self.assertEqual(len(str(parts(told[0])[1])), count)

    def test_told(self):
        self.assertEqual(figures_text((0, 249, -2), 2), ("62e0", False))
        self.assertEqual(figures_text((0, 3, 2), 4), ("1200e-2", True))
        self.assertEqual(figures_text((1, 1, 0), 1), ("-1e0", True))
        self.assertEqual(figures_text((0, 1, -1), 60), ("5" + "0" * 59 + "e-60", True))

    def test_ties(self):
        for x, even, away in [((0, 25, 0), "2e1", "3e1"), ((0, 35, 0), "4e1", "4e1"), ((1, 25, 0), "-2e1", "-3e1"), ((0, 125, -2), "3e1", "3e1")]:
            self.assertEqual(figures_text(x, 1), (even, False))
            self.assertEqual(figures_text(x, 1, five="away"), (away, False))
        for mode, told in [("zero", "2e1"), ("up", "3e1"), ("down", "2e1")]:
            self.assertEqual(figures_text((0, 25, 0), 1, five=mode)[0], told)
        for mode, told in [("zero", "-2e1"), ("up", "-2e1"), ("down", "-3e1")]:
            self.assertEqual(figures_text((1, 25, 0), 1, five=mode)[0], told)

    def test_the_next_power_of_ten(self):
        for x, count, mode, told in [((0, 999, 0), 2, "even", "10e2"), ((0, 99, 0), 1, "up", "1e2"), ((1, 99, 0), 1, "down", "-1e2"),
                                     ((0, 95, 0), 1, "even", "1e2"), ((0, 95, 0), 1, "zero", "9e1"), ((0, 19, -1), 1, "away", "1e1"),
                                     ((0, 999, -3), 2, "up", "13e1"), ((0, 999, 0), 3, "up", "999e0")]:
            self.assertEqual(figures_text(x, count, five=mode)[0], told)

    def test_specials_are_exact(self):
        for x, text in SPECIAL_TEXTS.items():
            for mode in FIVE:
                self.assertEqual(figures_text(x, 1, five=mode), (text, True))

    def test_a_value_that_a_longer_text_has(self):
        self.assertEqual(figures_text((0, 5, 1), 1), ("1e1", True))
        self.assertIs(figures_text((0, 11, 0), 1)[1], False)

    def test_wrong_arguments(self):
        for count in (0, 61, -1, True, None, "1"):
            assert_refused(self, BadCount, figures_text, (0, 1, 0), count)
            assert_refused(self, BadCount, figures_text, NAN, count, five="odd")
        for mode in ("odd", "x", None, True, ["even"]):
            assert_refused(self, BadMode, figures_text, (0, 1, 0), 1, five=mode)
            assert_refused(self, BadMode, figures_text, INF, 1, five=mode)
        assert_refused(self, BadNumber, figures_text, (0, 2, 0), 0, five="odd")


class TestFixedText(unittest.TestCase):
    def test_small_and_great_numbers(self):
        for x in finite_numbers(SMALL) + GREAT:
            for k in (-1500, -601, -7, -2, -1, 0, 1, 2, 30, 700, 1500):
                for mode in FIVE:
                    figures = multiple(abs(value_of(x)), k, mode, x[0])[0]
                    self.assertEqual(fixed_text(x, k, five=mode), f"{'-' if x[0] else ''}{figures}e{k}", (x, k, mode))

    def test_zeros(self):
        self.assertEqual(fixed_text(MINUS_ZERO, 2), "-0e2")
        self.assertEqual(fixed_text(ZERO, -1500, five="up"), "0e-1500")
        self.assertEqual(fixed_text((1, 1, 0), 1), "-0e1")
        self.assertEqual(fixed_text((1, 1, 0), 1, five="down"), "-1e1")
        self.assertEqual(fixed_text((0, 1, -2000), 1500, five="up"), "1e1500")
        self.assertEqual(fixed_text((1, 1, -2000), 1500, five="up"), "-0e1500")

    def test_ties(self):
        for x, even, away in [((0, 5, 0), "0e1", "1e1"), ((0, 15, 0), "2e1", "2e1"), ((1, 25, 0), "-2e1", "-3e1"), ((1, 5, 0), "-0e1", "-1e1")]:
            self.assertEqual(fixed_text(x, 1), even)
            self.assertEqual(fixed_text(x, 1, five="away"), away)

    def test_zeros_at_the_end_stay(self):
        self.assertEqual(fixed_text((0, 25, 2), 0), "100e0")
        self.assertEqual(fixed_text((0, 25, 2), -3), "100000e-3")

    def test_words(self):
        for k in (-1500, 0, 1500):
            self.assertEqual([fixed_text(x, k) for x in (INF, MINUS_INF, NAN)], ["inf", "-inf", "nan"])

    def test_wrong_arguments(self):
        for k in (-1501, 1501, True, None, "0"):
            for x in (ZERO, NAN, (0, 1, 0)):
                assert_refused(self, BadCount, fixed_text, x, k)
                assert_refused(self, BadCount, fixed_text, x, k, five="odd")
        for mode in ("odd", "x", None):
            for x in (ZERO, NAN, (0, 1, 0)):
                assert_refused(self, BadMode, fixed_text, x, 0, five=mode)
        assert_refused(self, BadNumber, fixed_text, (0, 0, 1), 1501)


class TestSigns(unittest.TestCase):
    def test_minus_writes_the_mirrored_text(self):
        mirror = {"up": "down", "down": "up"}
        for x in finite_numbers(SMALL) + GREAT:
            if x[0] == 1:
                continue
            for mode in FIVE:
                other = mirror.get(mode, mode)
                self.assertEqual("-" + figures_text(x, 1, five=mode)[0], figures_text(minus(x), 1, five=other)[0])
                self.assertEqual("-" + fixed_text(x, 0, five=mode), fixed_text(minus(x), 0, five=other))
