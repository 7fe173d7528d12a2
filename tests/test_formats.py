import unittest

from everyrounding.errors import BadCount, BadFormat, BadText
from everyrounding.formats import (check_format, finer_by, format_text, greatest, holds_all, least, line, many,
                                   over_power, reaches, read_format, unit_power)
from tests.oracle import assert_at, assert_refused, positives, tuple_of, two

FORMS = [(2, 0, 2), (2, 3, 3), (3, -4, -1), (4, -2, 1), (5, 0, 0), (2, -3, 4)]
ENDS = [(2, -600, -600), (2, 600, 600), (140, -600, 600), (140, 600, 600), (53, -600, 600), (24, -149, 104)]
RANGE_SIX = [(p, lo, hi) for p in (2, 3, 4) for lo in (-1, 0, 1) for hi in (lo, lo + 1, lo + 2)]


class TestCheckFormat(unittest.TestCase):
    def test_bounds(self):
        for form in FORMS + ENDS:
            self.assertIsNone(check_format(form))

    def test_one_beyond_each_bound(self):
        for form in [(1, 0, 2), (141, 0, 2), (0, 0, 2), (-2, 0, 2), (2, -601, 0), (2, 0, 601), (2, 601, 601),
                     (2, -601, -601), (2, 1, 0), (2, 600, -600)]:
            assert_refused(self, BadFormat, check_format, form)

    def test_other_kinds(self):
        for form in [None, True, 2, "2:0:2", [2, 0, 2], (2, 0), (2, 0, 2, 0), (), (2, True, 2), (2, False, 2),
                     (2, 0, True), (2, False, True), (True, 0, 2), ("2", 0, 2), (2, None, 2), ((2, 0, 2),), (2, 0, (2,))]:
            assert_refused(self, BadFormat, check_format, form)


class TestBounds(unittest.TestCase):
    def test_against_the_list(self):
        for form in FORMS:
            p, lo, hi = form
            found = positives(form)
            self.assertEqual(many(form), len(found))
            self.assertEqual(greatest(form), tuple_of(found[-1]))
            self.assertEqual(least(form), tuple_of(found[0]))
            self.assertEqual(two(over_power(form)), found[-1] + two(hi))
            self.assertEqual(line(form), tuple_of(two(lo + p - 1)))

    def test_ends_of_the_range(self):
        self.assertEqual(greatest((140, -600, 600)), (0, (1 << 140) - 1, 600))
        self.assertEqual(least((140, -600, 600)), (0, 1, -600))
        self.assertEqual(line((140, -600, 600)), (0, 1, -461))
        self.assertEqual(many((140, -600, 600)), (1 << 139) * 1202 - 1)
        self.assertEqual(over_power((140, -600, 600)), 740)
        self.assertEqual(many((2, 600, 600)), 3)
        self.assertEqual(over_power((2, -600, -600)), -598)

    def test_wrong_formats(self):
        for call in (over_power, many, greatest, least, line, format_text):
            assert_refused(self, BadFormat, call, (2, False, 2))
            assert_refused(self, BadFormat, call, [2, 0, 2])

    def test_true_between_equal_right_calls(self):
        for call in (over_power, many, greatest, least, line, format_text):
            before = call((2, 0, 1))
            assert_refused(self, BadFormat, call, (2, 0, True))
            assert_refused(self, BadFormat, call, (2, False, 1))
            self.assertEqual(call((2, 0, 1)), before)


class TestUnitPower(unittest.TestCase):
    def test_ordinary(self):
        self.assertEqual([unit_power((3, -1, 2), E) for E in range(-3, 6)], [-1, -1, -1, -1, -1, 0, 1, 2, 3])

    def test_above_hi(self):
        self.assertEqual(unit_power((2, 0, 2), 5), 4)
        self.assertEqual(unit_power((2, 0, 2), 4), 3)

    def test_ends(self):
        self.assertEqual(unit_power((140, -600, 600), 5000), 4861)
        self.assertEqual(unit_power((140, -600, 600), -5000), -600)
        for E in (5001, -5001, True, False, None, "0", (0,), [0]):
            assert_refused(self, BadCount, unit_power, (2, 0, 2), E)

    def test_order_of_checks(self):
        assert_refused(self, BadFormat, unit_power, (1, 0, 2), 5001)


class TestPairs(unittest.TestCase):
    def test_holds_all_is_containment_of_the_numbers(self):
        # The powers do not need to nest as ranges, so the numbers themselves are compared.
        for form in RANGE_SIX:
            numbers = set(positives(form))
            for inner in RANGE_SIX:
                P, Lo, Hi = form
                p, lo, hi = inner
                told = P >= p and Lo <= lo and Hi + P >= hi + p
                self.assertIs(holds_all(form, inner), told)
                if told:
                    self.assertTrue(set(positives(inner)) <= numbers)
                self.assertIs(reaches(form, inner), Lo <= lo and Hi + P >= hi + p)
                self.assertEqual(finer_by(form, inner), min(P - p, lo - Lo))

    def test_told_cases(self):
        self.assertIs(holds_all((3, 0, 1), (2, 0, 2)), True)
        self.assertIs(holds_all((3, 0, 1), (2, 0, 3)), False)
        self.assertIs(holds_all((2, 0, 2), (3, 0, 1)), False)
        self.assertIs(reaches((2, 0, 2), (3, 0, 1)), True)
        self.assertIs(reaches((2, 1, 2), (3, 0, 1)), False)
        self.assertIs(reaches((2, 0, 1), (3, 0, 1)), False)
        self.assertEqual(finer_by((3, -5, 1), (2, 0, 2)), 1)
        self.assertEqual(finer_by((9, -1, 1), (2, -3, 2)), -2)

    def test_order_of_checks(self):
        for call in (holds_all, reaches, finer_by):
            assert_refused(self, BadFormat, call, (2, 0, 2), (2, 0, False))
            assert_refused(self, BadFormat, call, [2, 0, 2], (2, 0, 2))


class TestTexts(unittest.TestCase):
    def test_both_ways(self):
        for form in FORMS + ENDS:
            self.assertEqual(format_text(form), ":".join(str(part) for part in form))
            self.assertEqual(read_format(format_text(form)), form)
        self.assertEqual(format_text((24, -149, 104)), "24:-149:104")

    def test_wrong_shapes(self):
        for text, at in [("", 0), ("x", 0), (":", 0), ("+2:0:2", 0), (" 2:0:2", 0), ("2", 1), ("-", 1), ("2:", 2),
                         ("2:0", 3), ("2:0:", 4), ("2:0:-", 5), ("2::2", 2), ("2:-0:2", 3), ("-0:0:2", 1), ("02:0:2", 1),
                         ("2:00:2", 3), ("2:0:02", 5), ("2:0:2:", 5), ("2:0:2 ", 5), ("2 :0:2", 1), ("2:0:2x", 5),
                         ("2:0;2", 3), ("2:--1:2", 3), ("12a:0:2", 2), ("2:10:1-", 6), ("2:0:-x", 5), ("2:-", 3)]:
            assert_at(self, at, read_format, text)

    def test_rules_of_0_and_700(self):
        for text in (None, 5, True, ("2:0:2",), ["2:0:2"], [], ("2", "0")):
            assert_at(self, 0, read_format, text)
        assert_at(self, 700, read_format, "x" * 701)
        assert_at(self, 700, read_format, "2:0:" + "2" * 697)
        assert_at(self, 0, read_format, "x" * 700)
        assert_at(self, 700, read_format, "2" * 700)
        assert_at(self, 3, read_format, "2:3" + "x" * 697)

    def test_right_shape_but_no_format(self):
        for text in ["1:0:2", "141:0:2", "2:-601:0", "2:0:601", "2:1:0", "-2:0:2", "0:0:0", "2:0:" + "9" * 696]:
            assert_refused(self, BadFormat, read_format, text)

    def test_at_is_the_longest_right_prefix(self):
        right = ["2:0:2", "2:-1:10", "13:0:0"]
        for text in right:
            for cut in range(len(text)):
                begun = text[:cut]
                if cut < len(text) and begun.count(":") < 2:
                    assert_at(self, cut, read_format, begun)
                assert_at(self, cut, read_format, begun + "/")


class TestPlain(unittest.TestCase):
    def test_bad_text_is_no_other_error(self):
        assert_refused(self, BadText, read_format, "2")
