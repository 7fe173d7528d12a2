import unittest
from fractions import Fraction

from everyrounding.decread import read
from everyrounding.decwrite import exact_text
from everyrounding.errors import BadFormat, BadMode, BadNumber, BadText
from everyrounding.formats import greatest, many
from everyrounding.seats import at_rank
from everyrounding.shortest import figures_of, reads_back, shortest
from everyrounding.values import minus
from tests.oracle import (INF, MINUS_INF, MINUS_ZERO, MODES, NAN, TINY, ZERO, assert_at, assert_refused, exact_from, finite_numbers,
                          slow_round, value_of)

FIVE = MODES[:5]
FORMS = [TINY, (3, -2, 1), (4, -3, 0), (5, 1, 2), (4, 3, 3), (2, -6, 6)]
GREAT = [(140, -600, 600), (2, -600, 600), (53, -600, 600), (24, -149, 104), (140, 600, 600), (7, -600, -600)]


def slow_shortest(form, x, mode):
    """The shortest text by [20], each candidate being read by the slow rounding."""
    size = abs(value_of(x))
    sign = -1 if x[0] else 1
    t = -200
    while Fraction(10) ** (t + 1) <= size:
        t += 1
    count = 1
    while True:
        k = t - count + 1
        unit = Fraction(10) ** k
        whole = size // unit
        near = [whole] if whole * unit == size else [whole, whole + 1]
        found = [d for d in near if slow_round(form, exact_from(sign * d * unit), mode)[0] == x]
        if found:
            best = min(found, key=lambda d: (abs(d * unit - size), d))
            while best % 10 == 0:
                best, k = best // 10, k + 1
            return f"{'-' if x[0] else ''}{best}e{k}"
        count += 1


class TestShortest(unittest.TestCase):
    def test_whole_small_formats(self):
        for form in FORMS:
            for x in finite_numbers(form):
                if x[1] > 0:
                    for mode in FIVE:
                        told = shortest(form, x, five=mode)
                        self.assertEqual(told, slow_shortest(form, x, mode), (form, x, mode))
                        self.assertIs(reads_back(form, told, x, five=mode), True)

    def test_told(self):
        self.assertEqual(shortest(TINY, (0, 3, 2)), "12e0")
        self.assertEqual(shortest(TINY, (0, 3, 2), five="zero"), "2e1")
        self.assertEqual(shortest(TINY, (0, 3, 2), five="down"), "2e1")
        self.assertEqual(shortest(TINY, (1, 3, 2), five="zero"), "-2e1")
        self.assertEqual(shortest(TINY, (1, 3, 2), five="up"), "-2e1")
        self.assertEqual(shortest(TINY, (1, 3, 2), five="down"), "-1e1")
        self.assertEqual(shortest((24, -149, 104), (0, 13421773, -27)), "1e-1")
        self.assertEqual(shortest((53, -600, 600), (0, 3602879701896397, -55)), "1e-1")
        self.assertEqual(shortest((53, -600, 600), (0, 6004799503160661, -54)), "3333333333333333e-16")

    def test_no_shorter_text_reads_back(self):
        for form in [TINY, (3, -2, 1), (4, -3, 0)]:
            for x in finite_numbers(form):
                for mode in FIVE if x[1] > 0 else ():
                    figures = figures_of(shortest(form, x, five=mode))
                    for count in range(1, figures):
                        for d in range(10 ** (count - 1), 10 ** count):
                            for k in range(-6, 3):
                                text = f"{'-' if x[0] else ''}{d}e{k}"
                                self.assertFalse(reads_back(form, text, x, five=mode), (form, x, mode, text))

    def test_great_formats(self):
        for form in GREAT:
            n = many(form)
            for i in (1, 2, 3, n // 3, n // 2, n - 1, n):
                x = at_rank(form, i)
                for mode in FIVE:
                    for y in (x, minus(x)):
                        told = shortest(form, y, five=mode)
                        self.assertIs(reads_back(form, told, y, five=mode), True)
                        self.assertLessEqual(figures_of(told), figures_of(exact_text(y)))
                        self.assertNotIn("0e", told)

    def test_specials(self):
        for mode in FIVE:
            for x, text in [(ZERO, "0e0"), (MINUS_ZERO, "-0e0"), (INF, "inf"), (MINUS_INF, "-inf"), (NAN, "nan")]:
                self.assertEqual(shortest(TINY, x, five=mode), text)

    def test_mirror(self):
        mirror = {"up": "down", "down": "up"}
        for x in finite_numbers(TINY):
            for mode in FIVE if x[0] == 0 else ():
                self.assertEqual("-" + shortest(TINY, x, five=mode), shortest(TINY, minus(x), five=mirror.get(mode, mode)))

    def test_wrong_arguments(self):
        for x in [(0, 5, 0), (0, 1, 4), (0, 1, -1), None, (0, True, 0)]:
            assert_refused(self, BadNumber, shortest, TINY, x)
            assert_refused(self, BadNumber, shortest, TINY, x, five="odd")
        for mode in ("odd", "x", None):
            for x in (ZERO, INF, NAN, (0, 1, 0)):
                assert_refused(self, BadMode, shortest, TINY, x, five=mode)
        assert_refused(self, BadFormat, shortest, (2, 0), (0, 5, 0), five="odd")


class TestReadsBack(unittest.TestCase):
    def test_signs_of_zeros(self):
        for mode in FIVE:
            for text, x, told in [("0", ZERO, True), ("-0", ZERO, False), ("-0e5", MINUS_ZERO, True), ("0", MINUS_ZERO, False),
                                  ("inf", INF, True), ("+inf", INF, True), ("-inf", INF, False), ("nan", NAN, True), ("nan", INF, False)]:
                self.assertIs(reads_back(TINY, text, x, five=mode), told)
        self.assertIs(reads_back(TINY, "-1e-9", MINUS_ZERO), True)
        self.assertIs(reads_back(TINY, "-1e-9", ZERO), False)
        self.assertIs(reads_back(TINY, "-1e-9", MINUS_ZERO, five="down"), False)

    def test_against_read(self):
        for text in ["2.5", "3.5", "-3.5", "13", "14", "16", "-20", "1e-3", "5", "7", "-7.000001", "inf"]:
            for x in finite_numbers(TINY) + [INF, MINUS_INF, NAN]:
                for mode in FIVE:
                    self.assertIs(reads_back(TINY, text, x, five=mode), read(TINY, text, mode=mode)[0] == x)

    def test_order_of_checks(self):
        assert_refused(self, BadFormat, reads_back, None, "x", (0, 5, 0), five="odd")
        assert_at(self, 1, lambda: reads_back(TINY, "1x", (0, 5, 0), five="odd"))
        assert_at(self, 2, lambda: reads_back(TINY, "1e1501", (0, 5, 0), five="odd"))
        assert_refused(self, BadNumber, reads_back, TINY, "1", (0, 5, 0), five="odd")
        assert_refused(self, BadMode, reads_back, TINY, "1", (0, 1, 0), five="odd")


class TestFiguresOf(unittest.TestCase):
    def test_told(self):
        for text, told in [("0", 0), ("-0.00e5", 0), ("120", 2), ("+1.", 1), (".5", 1), ("0.0120e9", 2), ("00100.00100", 6), ("-7e-3", 1),
                           ("1e1500", 1), ("10e-1500", 1), ("9" * 700, 700), ("101e3", 3)]:
            self.assertEqual(figures_of(text), told)

    def test_words_are_refused_as_a_whole(self):
        for text in ("inf", "+inf", "-inf", "nan"):
            assert_at(self, 0, figures_of, text)
        for text, at in [("+in", 3), ("na", 2), ("infi", 3), ("1e1501", 2), ("", 0), (".", 1), ("+nan", 1), ("1" * 701, 700)]:
            assert_at(self, at, figures_of, text)
        for wrong in (None, 0, True, ["inf"], ("inf",)):
            assert_refused(self, BadText, figures_of, wrong)
            assert_at(self, 0, figures_of, wrong)
