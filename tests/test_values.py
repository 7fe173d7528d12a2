import unittest

from everyrounding.errors import BadFormat, BadNumber, BadText
from everyrounding.values import (alike, check_number, digits, exact_of, fits, infinity, kind_of, minus, nan, number,
                                  read_number, show, size, top_power, zero)
from tests.oracle import (HUGE_M, INF, MINUS_INF, MINUS_ZERO, NAN, SPECIALS, ZERO, assert_at, assert_refused,
                          exact_from, finite_numbers, positives, value_of)

FINITE = [(0, 1, 0), (1, 1, 0), (0, 13, -4), (1, 3, 7), (0, HUGE_M, 2000), (1, HUGE_M, -2000), (0, 1, 2000),
          (1, 1, -2000)]
WRONG = [None, True, False, 0, 1, "1p0", "nan", [0, 1, 0], (0, 1), (0, 1, 0, 0), (), (2, 1, 0), (-1, 1, 0), (0, 2, 0),
         (0, 1, 2001), (0, 1, -2001), (0, (1 << 600) + 1, 0), (0, 1 << 600, 0), (0, 0, 1), (1, 0, -1), (0, -1, 1),
         (1, -2, 0), (0, -2, 1), (0, -3, 0), (0, -5, 3), (False, 1, 0), (True, 1, 0), (0, True, 0), (0, 1, False),
         (False, 0, 0), (0, False, 0), (0, 0, False), (True, -1, 0), (0, -1, False), (False, -2, 0), ("0", 1, 0),
         (0, None, 0), (0, (1,), 0), ((0, 1, 0),), (0, 1, [0])]


class TestNumber(unittest.TestCase):
    def test_odd_form(self):
        self.assertEqual(number(0, 12, 1), (0, 3, 3))
        self.assertEqual(number(1, 1, -5), (1, 1, -5))
        self.assertEqual(number(1, 40, 0), (1, 5, 3))
        self.assertEqual(number(0, HUGE_M, 5), (0, HUGE_M, 5))

    def test_zero_m_with_any_power(self):
        for q in (0, 1, -1, 2001, -99999, 1 << 9000):
            self.assertEqual(number(0, 0, q), ZERO)
            self.assertEqual(number(1, 0, q), MINUS_ZERO)

    def test_bounds_of_m(self):
        self.assertEqual(number(0, 1 << 600, 0), (0, 1, 600))
        assert_refused(self, BadNumber, number, 0, (1 << 600) + 1, 0)
        self.assertEqual(number(0, (1 << 600) + 2, 0), (0, (1 << 599) + 1, 1))
        self.assertEqual(number(1, HUGE_M << 300, 0), (1, HUGE_M, 300))
        self.assertEqual(number(1, HUGE_M << 20000, -20000), (1, HUGE_M, 0))

    def test_the_odd_form_brings_powers_in_and_out(self):
        self.assertEqual(number(0, 8, -2003), (0, 1, -2000))
        assert_refused(self, BadNumber, number, 0, 4, -2003)
        assert_refused(self, BadNumber, number, 0, 2, 2000)
        self.assertEqual(number(0, 2, 1999), (0, 1, 2000))
        assert_refused(self, BadNumber, number, 0, 1, 2001)
        assert_refused(self, BadNumber, number, 0, 1, -2001)
        self.assertEqual(number(0, 1 << 50000, -50000), (0, 1, 0))

    def test_wrong_parts(self):
        for parts in [(2, 1, 0), (-1, 1, 0), (0, -1, 0), (1, -2, 0), (True, 1, 0), (False, 1, 0), (0, True, 0),
                      (0, False, 0), (0, 1, True), (0, 0, False), (0, 0, True), (2, 0, 0), (0, 0, None), (0, 0, "0"),
                      (None, 0, 0), (0, (1,), 0), (0, [1], 0), ("0", 1, 0)]:
            assert_refused(self, BadNumber, number, *parts)


class TestMakers(unittest.TestCase):
    def test_values(self):
        self.assertEqual([zero(), zero(0), zero(1)], [ZERO, ZERO, MINUS_ZERO])
        self.assertEqual([infinity(), infinity(0), infinity(1)], [INF, INF, MINUS_INF])
        self.assertEqual(nan(), NAN)

    def test_wrong_signs(self):
        for call in (zero, infinity):
            for s in (2, -1, True, False, None, "0", (0,), [1]):
                assert_refused(self, BadNumber, call, s)
            self.assertEqual(call(1), (1,) + call(0)[1:])


class TestKinds(unittest.TestCase):
    def test_kinds(self):
        for x in FINITE:
            self.assertIsNone(check_number(x))
            self.assertEqual(kind_of(x), "finite")
        for x in SPECIALS:
            self.assertIsNone(check_number(x))
        self.assertEqual([kind_of(x) for x in SPECIALS], ["zero", "zero", "infinite", "infinite", "nan"])

    def test_wrong_numbers(self):
        for x in WRONG:
            for call in (check_number, kind_of, minus, size, exact_of, digits, top_power, show):
                assert_refused(self, BadNumber, call, x)
            assert_refused(self, BadNumber, alike, x, ZERO)
            assert_refused(self, BadNumber, alike, ZERO, x)
            assert_refused(self, BadNumber, fits, (2, 0, 2), x)

    def test_minus_and_size(self):
        for x in FINITE + [ZERO, MINUS_ZERO, INF, MINUS_INF]:
            self.assertEqual(minus(x), (1 - x[0], x[1], x[2]))
            self.assertEqual(size(x), (0, x[1], x[2]))
        self.assertEqual(minus(NAN), NAN)
        self.assertEqual(size(NAN), NAN)

    def test_alike(self):
        for x in FINITE + list(SPECIALS):
            for y in FINITE + list(SPECIALS):
                self.assertIs(alike(x, y), x == y or (x[1] == 0 and y[1] == 0))
        self.assertIs(alike(ZERO, MINUS_ZERO), True)
        self.assertIs(alike(INF, MINUS_INF), False)
        self.assertIs(alike(NAN, NAN), True)

    def test_true_between_equal_right_calls(self):
        for call in (kind_of, minus, size, exact_of, digits, top_power, show):
            before = call((0, 1, 1))
            for x in ((False, 1, 1), (0, True, 1), (0, 1, True)):
                assert_refused(self, BadNumber, call, x)
            self.assertEqual(call((0, 1, 1)), before)


class TestExact(unittest.TestCase):
    def test_values(self):
        for x in FINITE + [ZERO, MINUS_ZERO]:
            self.assertEqual(exact_of(x), exact_from(value_of(x)))
        self.assertEqual(exact_of((1, 3, -2)), (-3, 4, 1))
        self.assertEqual(exact_of((0, 3, 2)), (12, 1, 1))
        self.assertEqual(exact_of(MINUS_ZERO), (0, 1, 1))

    def test_refused(self):
        for x in (INF, MINUS_INF, NAN):
            assert_refused(self, BadNumber, exact_of, x)
        for x in SPECIALS:
            assert_refused(self, BadNumber, digits, x)
            assert_refused(self, BadNumber, top_power, x)

    def test_digits_and_top_power(self):
        self.assertEqual([digits(x) for x in FINITE], [1, 1, 4, 2, 600, 600, 1, 1])
        self.assertEqual([top_power(x) for x in FINITE], [0, 0, -1, 8, 2599, -1401, 2000, -2000])


class TestFits(unittest.TestCase):
    def test_against_the_list(self):
        for form in [(2, 0, 2), (3, -2, 1), (4, 1, 1), (2, -3, 3)]:
            held = set(positives(form))
            for m in range(1, 40, 2):
                for q in range(-6, 8):
                    for s in (0, 1):
                        x = (s, m, q)
                        self.assertIs(fits(form, x), abs(value_of(x)) in held, (form, x))
            for x in finite_numbers(form):
                self.assertIs(fits(form, x), True)

    def test_specials_and_ends(self):
        for x in SPECIALS:
            self.assertIs(fits((2, 5, 6), x), True)
        self.assertIs(fits((2, 0, 2), (0, 1, 3)), True)
        self.assertIs(fits((2, 0, 2), (0, 1, 4)), False)
        self.assertIs(fits((140, -600, 600), (0, 1, 739)), True)
        self.assertIs(fits((140, -600, 600), (0, 1, 740)), False)
        self.assertIs(fits((140, -600, 600), (1, (1 << 140) - 1, 600)), True)
        self.assertIs(fits((140, -600, 600), (1, (1 << 140) + 1, 0)), False)
        self.assertIs(fits((140, -600, 600), (0, 1, -601)), False)
        self.assertIs(fits((140, -600, 600), (0, HUGE_M, 0)), False)

    def test_order_of_checks(self):
        assert_refused(self, BadFormat, fits, (1, 0, 2), None)
        assert_refused(self, BadNumber, fits, (2, 0, 2), (0, 4, 0))


class TestTexts(unittest.TestCase):
    def test_both_ways(self):
        for x in FINITE + list(SPECIALS):
            self.assertEqual(read_number(show(x)), x)
        self.assertEqual([show(x) for x in SPECIALS], ["0", "-0", "inf", "-inf", "nan"])
        self.assertEqual([show(x) for x in FINITE[:4]], ["1p0", "-1p0", "13p-4", "-3p7"])

    def test_free_texts(self):
        for text, x in [("0p0", ZERO), ("-0p7", MINUS_ZERO), ("000p-000", ZERO), ("12p1", (0, 3, 3)),
                        ("-0012p-01", (1, 3, 1)), ("0p99999", ZERO), ("-000p-99999", MINUS_ZERO), ("8p-2003", (0, 1, -2000)),
                        ("1p2000", (0, 1, 2000)), ("1p" + "0" * 698, (0, 1, 0)), ("0" * 697 + "1p0", (0, 1, 0))]:
            self.assertEqual(read_number(text), x, text)
        self.assertEqual(read_number(f"{1 << 600}p-600"), (0, 1, 0))

    def test_wrong_shapes(self):
        for text, at in [("", 0), ("-", 1), ("--", 1), ("+1p0", 0), (" 0", 0), ("p", 0), ("-p", 1), ("1", 1), ("00", 2),
                         ("-00", 3), ("1p", 2), ("1p-", 3), ("1p--1", 3), ("1p+1", 2), ("1p1p", 3), ("1p1 ", 3),
                         ("1x", 1), ("0x", 1), ("-0x", 2), ("12 p1", 2), ("i", 1), ("in", 2), ("inx", 2), ("infp", 3),
                         ("inf ", 3), ("-i", 2), ("-inx", 3), ("-infx", 4), ("n", 1), ("na", 2), ("nanx", 3), ("-n", 1),
                         ("-nan", 1), ("+inf", 0), ("Inf", 0), ("1P0", 1), ("1p0x", 3), ("0p", 2), ("1p-5-", 4)]:
            assert_at(self, at, read_number, text)

    def test_rules_of_0_and_700(self):
        for text in (None, 0, True, ("0",), ["nan"], (0, 1, 0)):
            assert_at(self, 0, read_number, text)
        assert_at(self, 700, read_number, "1p" + "0" * 699)
        assert_at(self, 700, read_number, "?" * 701)
        assert_at(self, 700, read_number, "1" * 700)
        assert_at(self, 699, read_number, "1" * 699 + "?")

    def test_right_shape_but_no_number(self):
        for text in ["1p2001", "1p-2001", "2p2000", "4p-2003", f"{(1 << 600) + 1}p0", "1p" + "9" * 698, "9" * 698 + "p0"]:
            assert_refused(self, BadNumber, read_number, text)

    def test_bad_text_is_no_other_error(self):
        assert_refused(self, BadText, read_number, "1p")
