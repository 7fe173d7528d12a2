import unittest
from fractions import Fraction

from everyrounding.errors import BadCount, BadExact, BadFormat, BadMode
from everyrounding.rounding import check_mode, choose, early_tiny, join_flags, late_tiny, mirror, rounded
from tests.oracle import INF, MIRROR, MODES, ZERO, assert_refused, exact_from, positives, slow_round, two

FORMS = [(2, 0, 2), (3, -2, 1), (2, -1, -1), (4, 0, 1)]
FULL = (1 << 12000) - 1
WRONG_MODES = ["Even", "", "nearest", "odd ", None, True, 0, ("even",), ["even"], ("even", "odd")]
OVERFLOW = ("overflow", "inexact")
UNDERFLOW = ("underflow", "inexact")


def told_choice(mode, s, k, where):
    """The table of [10], column by column."""
    table = {"even": (k, k, k if k % 2 == 0 else k + 1, k + 1), "away": (k, k, k + 1, k + 1), "zero": (k, k, k, k)}
    if mode in table:
        return table[mode][where]
    if where == 0:
        return k
    if mode == "up":
        return k + 1 if s == 0 else k
    if mode == "down":
        return k + 1 if s == 1 else k
    return k if k % 2 == 1 else k + 1


class TestModes(unittest.TestCase):
    def test_check_and_mirror(self):
        for mode in MODES:
            self.assertIsNone(check_mode(mode))
            self.assertEqual(mirror(mode), MIRROR.get(mode, mode))
        for mode in WRONG_MODES:
            assert_refused(self, BadMode, check_mode, mode)
            assert_refused(self, BadMode, mirror, mode)
            assert_refused(self, BadMode, choose, mode, 0, 0, 0)
            assert_refused(self, BadMode, rounded, (2, 0, 2), (1, 1, 1), mode=mode)
            assert_refused(self, BadMode, late_tiny, (2, 0, 2), (1, 1, 1), mode=mode)

    def test_choose(self):
        for mode in MODES:
            for s in (0, 1):
                for k in (0, 1, 2, 3, 8, 9, 1 << 9500, (1 << 9500) + 1):
                    for where in range(4):
                        self.assertEqual(choose(mode, s, k, where), told_choice(mode, s, k, where))

    def test_choose_refuses(self):
        for s in (2, -1, True, False, None, "0"):
            assert_refused(self, BadCount, choose, "even", s, 0, 0)
        for k in (-1, True, False, None, (0,)):
            assert_refused(self, BadCount, choose, "even", 0, k, 0)
        for where in (4, -1, True, False, None, "1"):
            assert_refused(self, BadCount, choose, "even", 0, 0, where)
        self.assertEqual(choose("even", 1, 1, 1), 1)

    def test_join_flags(self):
        names = ("invalid", "divzero", "overflow", "underflow", "inexact")
        self.assertEqual(join_flags((), ()), ())
        self.assertEqual(join_flags(("inexact", "invalid"), ("divzero", "inexact")), ("invalid", "divzero", "inexact"))
        self.assertEqual(join_flags(names[::-1], names), names)
        self.assertEqual(join_flags(("overflow", "overflow"), ()), ("overflow",))
        self.assertEqual(join_flags((), ("underflow",)), ("underflow",))


class TestRounded(unittest.TestCase):
    def test_fractions(self):
        for form in FORMS:
            found = [Fraction(0)] + positives(form)
            over = two(form[2] + form[0])
            points = {over, over * 2, over - two(form[2] - 1), over * 3 / 4, found[1] / 2, found[1] / 4}
            for low, high in zip(found, found[1:] + [over]):
                points |= {low, (low + high) / 2, (3 * low + high) / 4, (low + 3 * high) / 4, low + (high - low) / 1024,
                           (low + high) / 2 + (high - low) / 1024, (low + high) / 2 - (high - low) / 1024}
            points |= {over + two(-9), over - two(-9), over * 1000}
            for value in sorted(points):
                for sign in (1, -1):
                    exact = exact_from(sign * value)
                    for mode in MODES:
                        self.assertEqual(rounded(form, exact, mode=mode), slow_round(form, exact, mode), (form, exact, mode))

    def test_roots(self):
        for form in FORMS[:2]:
            for n in range(0, 40):
                for d in (1, 2, 3, 4, 9, 16, 64, 1024):
                    for mode in MODES:
                        exact = (n, d, 2)
                        self.assertEqual(rounded(form, exact, mode=mode), slow_round(form, exact, mode), (form, exact, mode))

    def test_root_at_a_half_and_beside(self):
        # 5 lies halfway between 4 and 6 in (2, 0, 2); a root can meet the half exactly.
        form = (2, 0, 2)
        self.assertEqual(rounded(form, (25, 1, 2)), ((0, 1, 2), ("inexact",)))
        self.assertEqual(rounded(form, (25, 1, 2), mode="away"), ((0, 3, 1), ("inexact",)))
        self.assertEqual(rounded(form, ((25 << 5000) + 1, 1 << 5000, 2)), ((0, 3, 1), ("inexact",)))
        self.assertEqual(rounded(form, ((25 << 5000) - 1, 1 << 5000, 2), mode="away"), ((0, 1, 2), ("inexact",)))
        self.assertEqual(rounded(form, (16, 1, 2)), ((0, 1, 2), ()))

    def test_told_examples(self):
        self.assertEqual(rounded((2, 0, 2), (5, 1, 1)), ((0, 1, 2), ("inexact",)))
        self.assertEqual(rounded((2, 0, 2), (-1, 3, 1), mode="down"), ((1, 1, 0), UNDERFLOW))

    def test_zero_with_either_sign(self):
        for mode in MODES:
            for exact in [(0, 1, 1), (0, 9, 1), (0, 1, 2)]:
                self.assertEqual(rounded((2, 0, 2), exact, mode=mode), (ZERO, ()))
                self.assertEqual(rounded((2, 0, 2), exact, mode=mode, s=1), ((1, 0, 0), ()))

    def test_s_is_not_used_otherwise(self):
        self.assertEqual(rounded((2, 0, 2), (3, 1, 1), s=1), ((0, 3, 0), ()))
        self.assertEqual(rounded((2, 0, 2), (1, 9, 1), s=1), (ZERO, UNDERFLOW))
        self.assertEqual(rounded((2, 0, 2), (-1, 9, 1), s=0), ((1, 0, 0), UNDERFLOW))

    def test_overflow(self):
        form = (2, 0, 2)
        top = (3, 2)
        for exact, overflows in [((14, 1, 1), ("even", "away", "up")), ((13, 1, 1), ("up",)),
                                 ((16, 1, 1), MODES), ((999, 1, 1), MODES), ((12, 1, 1), ())]:
            for mode in MODES:
                for sign in (0, 1):
                    z = (-exact[0] if sign else exact[0], exact[1], 1)
                    as_plus = MIRROR.get(mode, mode) if sign else mode
                    if as_plus in overflows:
                        inward = as_plus in ("zero", "odd", "down")
                        told = ((sign,) + (top if inward else INF[1:]), OVERFLOW)
                    else:
                        told = ((sign,) + top, () if exact[0] == 12 else ("inexact",))
                    self.assertEqual(rounded(form, z, mode=mode), told, (z, mode))

    def test_great_exact_numbers(self):
        form = (140, -600, 600)
        self.assertEqual(rounded(form, (FULL, 1, 1)), (INF, OVERFLOW))
        self.assertEqual(rounded(form, (-FULL, 1, 1), mode="up"), ((1, (1 << 140) - 1, 600), OVERFLOW))
        self.assertEqual(rounded(form, (1, FULL, 1), mode="up"), ((0, 1, -600), UNDERFLOW))
        self.assertEqual(rounded(form, (1, FULL, 1)), (ZERO, UNDERFLOW))
        self.assertEqual(rounded(form, (-1, FULL, 1)), ((1, 0, 0), UNDERFLOW))
        self.assertEqual(rounded(form, (FULL, FULL, 1)), ((0, 1, 0), ()))
        self.assertEqual(rounded(form, (FULL - 1, FULL, 1)), ((0, 1, 0), ("inexact",)))
        self.assertEqual(rounded(form, (FULL - 1, FULL, 1), mode="zero"), ((0, (1 << 140) - 1, -140), ("inexact",)))
        self.assertEqual(rounded(form, (FULL, FULL - 1, 2), mode="odd"), ((0, (1 << 139) + 1, -139), ("inexact",)))
        self.assertEqual(rounded((2, 0, 0), (FULL, 1, 2), mode="zero"), ((0, 3, 0), OVERFLOW))

    def test_wrong_s_and_order(self):
        for s in (2, -1, True, False, None, "0"):
            assert_refused(self, BadCount, rounded, (2, 0, 2), (1, 1, 1), s=s)
        assert_refused(self, BadFormat, rounded, (2, 0, True), None, mode=None, s=None)
        assert_refused(self, BadExact, rounded, (2, 0, 2), (1, True, 1), mode=None, s=None)
        assert_refused(self, BadMode, rounded, (2, 0, 2), (1, 1, 1), s=5, mode="x")


class TestTiny(unittest.TestCase):
    def late(self, form, exact, mode):
        """Rounded with more powers than the exact numbers here need, and compared with the line."""
        (_, m, q), _ = slow_round((form[0], -12, 9), exact, mode)
        return m * two(q) < two(form[1] + form[0] - 1)

    def test_early_and_late(self):
        for form in [(2, -2, 1), (3, -3, -1)]:
            line = two(form[1] + form[0] - 1)
            values = [line, line * 2, line / 2, line + two(-7), Fraction(1, 3) * line]
            values += [line * (1 - two(-j)) for j in range(1, 8)]
            values += [line * (1 - two(-j) + two(-9)) for j in range(1, 8)]
            for value in values:
                for sign in (1, -1):
                    exact = exact_from(sign * value)
                    self.assertIs(early_tiny(form, exact), value < line)
                    for mode in MODES:
                        self.assertIs(late_tiny(form, exact, mode=mode), self.late(form, exact, mode), (form, exact, mode))

    def test_roots(self):
        form = (2, 0, 2)
        for n in range(1, 80):
            exact = (n, 16, 2)
            self.assertIs(early_tiny(form, exact), n < 64)
            for mode in MODES:
                self.assertIs(late_tiny(form, exact, mode=mode), self.late(form, exact, mode))

    def test_zero_and_ends(self):
        for form in [(2, 0, 2), (2, 600, 600), (140, -600, 600)]:
            for exact in [(0, 1, 1), (0, 3, 2)]:
                self.assertIs(early_tiny(form, exact), False)
                for mode in MODES:
                    self.assertIs(late_tiny(form, exact, mode=mode), False)
        for exact in [(1, FULL, 1), (-1, FULL, 1), (1, FULL, 2)]:
            self.assertIs(early_tiny(form, exact), True)
            for mode in MODES:
                self.assertIs(late_tiny(form, exact, mode=mode), True)
        self.assertIs(early_tiny(form, (FULL, 1, 1)), False)
        self.assertIs(late_tiny(form, (-FULL, 1, 1), mode="zero"), False)

    def test_early_is_not_late(self):
        form = (2, 0, 2)
        exact = (31, 16, 1)
        self.assertIs(early_tiny(form, exact), True)
        self.assertIs(late_tiny(form, exact), False)
        self.assertIs(late_tiny(form, exact, mode="zero"), True)
        self.assertIs(late_tiny(form, (-31, 16, 1), mode="down"), False)
        self.assertIs(late_tiny(form, (-31, 16, 1), mode="up"), True)

    def test_order_of_checks(self):
        assert_refused(self, BadFormat, early_tiny, (1, 0, 2), None)
        assert_refused(self, BadExact, early_tiny, (2, 0, 2), (1, 1, 0))
        assert_refused(self, BadFormat, late_tiny, (2, True, 2), None, mode=None)
        assert_refused(self, BadExact, late_tiny, (2, 0, 2), [1, 1, 1], mode=None)
