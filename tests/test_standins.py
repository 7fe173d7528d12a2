import random
import unittest
from fractions import Fraction

from everyrounding.errors import BadCount, BadFamily, BadFormat, BadMode, NotAsked, TooMany
from everyrounding.families import numbers_family
from everyrounding.floorsums import floor_rows, floor_sum, rows_hold
from everyrounding.formats import many
from everyrounding.residues import round_parts
from everyrounding.rounding import rounded
from everyrounding.seats import rank
from everyrounding.standins import division_pair, rank_parts, rank_sum, standin_paper_holds, standin_question, standin_total
from tests.oracle import MODES, TINY, assert_refused, exact_from, slow_round, two

FORMS = [TINY, (3, -2, 1), (2, -1, -1), (4, 1, 3), (3, 2, 2)]
FIRST, SECOND = (0, 1, 3, 1, 4), (0, 3, 8, 1, 4)


def value_at(series, m):
    return Fraction(series[0] + series[1] * m, series[2])


def slow_rank(form, value, mode):
    """The rank of a rounded value, by the slow rounding."""
    x = slow_round(form, exact_from(value), mode)[0]
    return rank(form, x)


def walked_sum(form, series, mode):
    return sum(slow_rank(form, value_at(series, m), mode) for m in range(series[3], series[4] + 1))


def stretches_of(form, series):
    """The members of each stretch with its unit power, by walking; None is the stretch from over on."""
    p, lo, hi = form
    bounds = [(lo, 0, two(lo + p))] + [(E - p + 1, two(E), two(E + 1)) for E in range(lo + p, hi + p)] + [(None, two(hi + p), None)]
    for u, low, high in bounds:
        inside = [m for m in range(series[3], series[4] + 1) if low <= value_at(series, m) and (high is None or value_at(series, m) < high)]
        if inside:
            yield u, inside[0], inside[-1]


def told_parts(form, series, mode):
    """Base and parts by [36]."""
    p, lo, hi = form
    s, t, d, _, _ = series
    base, parts = 0, []
    for u, a, b in stretches_of(form, series):
        if u is None:
            base += (b - a + 1) * (many(form) + (mode not in ("zero", "down", "odd")))
            continue
        base += (b - a + 1) * (u - lo) * 2 ** (p - 1)
        if u >= 0:
            parts += round_parts(mode, s, t, d * 2 ** u, a, b)
        else:
            parts += round_parts(mode, s * 2 ** -u, t * 2 ** -u, d, a, b)
    return (base, parts)


def some_series(seed, form, count):
    """Series below, across and beyond a format, with members that are not in lowest terms."""
    picker = random.Random(seed)
    over = two(form[2] + form[0])
    for _ in range(count):
        d = picker.choice([1, 2, 3, 4, 6, 12, 16, 40])
        t = picker.randint(1, max(1, int(d * over / picker.choice([2, 6, 20]))))
        a = picker.randint(-4, 6)
        yield (picker.randint(1, 2 * t) - t * a, t, d, a, a + picker.randint(0, 24))


class TestRankSums(unittest.TestCase):
    def test_against_rounding_member_by_member(self):
        for form in FORMS:
            for series in some_series(1, form, 25):
                for mode in MODES:
                    told = walked_sum(form, series, mode)
                    self.assertEqual(rank_sum(form, series, mode=mode), told, (form, series, mode))
                    base, parts = rank_parts(form, series, mode=mode)
                    self.assertEqual((base, parts), told_parts(form, series, mode))
                    self.assertEqual(base + sum(c * floor_sum(N, M, A, B) for c, N, M, A, B in parts), told)

    def test_example_and_default_mode(self):
        self.assertEqual(rank_parts(TINY, FIRST), (0, [(1, 4, 6, 2, 5), (-1, 4, 12, 2, -1), (1, 4, 12, 2, -2)]))
        self.assertEqual(rank_parts(TINY, FIRST), rank_parts(TINY, FIRST, mode="even"))
        self.assertEqual(rank_sum(TINY, FIRST), 0 + 1 + 1 + 1)

    def test_beyond_over(self):
        # In (2, 0, 2) over is 16 and n is 7.
        for mode in MODES:
            beyond = 7 if mode in ("zero", "down", "odd") else 8
            self.assertEqual(rank_parts(TINY, (16, 1, 1, 0, 9), mode=mode), (10 * beyond, []))
            self.assertEqual(rank_parts(TINY, (1 << 2999, 1 << 2999, 1, 0, 0), mode=mode), (beyond, []))
            between = {"zero": 7, "down": 7, "odd": 7, "up": 8}.get(mode, 7)
            self.assertEqual(rank_sum(TINY, (13, 1, 1, 0, 0), mode=mode), between)
            self.assertEqual(rank_sum(TINY, (14, 1, 1, 0, 0), mode=mode), {"even": 8, "away": 8}.get(mode, between))

    def test_one_stretch_and_many(self):
        for form in FORMS:
            p, lo, hi = form
            d = 2 ** max(0, 3 - lo)
            for E in range(lo - 1, hi + p + 1):
                count = int(two(E) * d) if two(E) * d >= 1 else 1
                series = (0, 1, d, count, 2 * count - 1)
                for mode in MODES:
                    base, parts = rank_parts(form, series, mode=mode)
                    self.assertEqual((base, parts), told_parts(form, series, mode))
                    self.assertEqual(rank_sum(form, series, mode=mode), walked_sum(form, series, mode))

    def test_great_series(self):
        wide = (140, -600, 600)
        series = (1 << 2990, 3 << 2000, 7 << 2000, 1 - (1 << 139), (1 << 139))
        for mode in MODES:
            base, parts = rank_parts(wide, series, mode=mode)
            self.assertEqual(rank_sum(wide, series, mode=mode), base + sum(part[0] * floor_sum(*part[1:]) for part in parts))
        whole = (0, 1, 1, 1, (1 << 140) - 1)
        self.assertEqual(rank_sum((140, 0, 600), whole), sum_of_first((1 << 140) - 1))


def sum_of_first(n):
    return n * (n + 1) // 2


class TestStandins(unittest.TestCase):
    def pairs(self, form):
        """Series with one range of places, the first nowhere greater."""
        for series in some_series(2, form, 30):
            s, t, d, a, b = series
            for more, times in [(0, 1), (1, 1), (1, 7), (0, 5), (3, 40)]:
                # The second is (s + t*m) / d plus more / (d * times), written with another denominator.
                yield series, (s * times + more, t * times, d * times, a, b)
            yield series, (s - t * a + t * a, t, d, a, b)
            if d > 1:
                yield series, (s, t, d - 1, a, b)

    def test_against_walking(self):
        held = failed = 0
        for form in FORMS:
            for series, series2 in self.pairs(form):
                for mode in MODES:
                    ranks = [[slow_rank(form, value_at(part, m), mode) for m in range(part[3], part[4] + 1)] for part in (series, series2)]
                    self.assertEqual(standin_total(form, series, series2, mode=mode), sum(ranks[1]) - sum(ranks[0]))
                    unlike = [series[3] + at for at, (i, j) in enumerate(zip(*ranks)) if i != j]
                    told = standin_question(form, series, series2, mode=mode)
                    if unlike:
                        failed += 1
                        self.assertEqual(told, ("fails", unlike[0]))
                    else:
                        held += 1
                        self.check_paper(form, series, series2, mode, told)
        self.assertGreater(min(held, failed), 100)

    def check_paper(self, form, series, series2, mode, told):
        self.assertEqual(told[0], "holds")
        rows = tuple([floor_rows(*part[1:]) for part in rank_parts(form, part, mode=mode)[1]] for part in (series, series2))
        self.assertEqual(told[1], rows)
        self.assertIs(standin_paper_holds(form, series, series2, told[1], mode=mode), True)

    def test_example(self):
        self.assertEqual(standin_question(TINY, FIRST, SECOND), ("fails", 4))
        self.assertEqual(standin_total(TINY, FIRST, SECOND), 1)
        self.assertEqual(standin_total(TINY, SECOND, FIRST), -1)

    def test_no_parts(self):
        series, series2 = (16, 1, 1, 0, 9), (17, 1, 1, 0, 9)
        self.assertEqual(standin_question(TINY, series, series2), ("holds", ([], [])))
        self.assertIs(standin_paper_holds(TINY, series, series2, ([], [])), True)
        for wrong in ([[], []], ([],), ([], [], []), ([], [[]]), ([], ()), None, True, (), "holds"):
            self.assertIs(standin_paper_holds(TINY, series, series2, wrong), False)

    def test_not_asked(self):
        higher = (1, 1, 3, 1, 4)
        for mode in MODES:
            for wrong in [(0, 1, 3, 1, 5), (0, 1, 3, 2, 4), (0, 1, 3, 2, 5)]:
                assert_refused(self, NotAsked, standin_total, TINY, FIRST, wrong, mode=mode)
                assert_refused(self, NotAsked, standin_question, TINY, FIRST, wrong, mode=mode)
                assert_refused(self, NotAsked, standin_paper_holds, TINY, FIRST, wrong, ([], []), mode=mode)
            self.assertLess(standin_total(TINY, higher, FIRST, mode=mode), 1)
            assert_refused(self, NotAsked, standin_question, TINY, higher, FIRST, mode=mode)
            assert_refused(self, NotAsked, standin_paper_holds, TINY, higher, FIRST, None, mode=mode)
        # Greater at a alone, and at b alone: 5, 6, 7 beside 4, 6, 8.
        flat, steep = (4, 1, 1, 1, 3), (2, 2, 1, 1, 3)
        assert_refused(self, NotAsked, standin_question, TINY, flat, steep)
        assert_refused(self, NotAsked, standin_question, TINY, steep, flat)
        assert_refused(self, NotAsked, standin_paper_holds, TINY, flat, steep, 0)
        assert_refused(self, NotAsked, standin_paper_holds, TINY, steep, flat, 0)
        self.assertEqual(standin_question(TINY, (4, 1, 1, 1, 1), (3, 2, 1, 1, 1))[0], "holds")

    def test_order_of_errors(self):
        for call in (standin_total, standin_question):
            assert_refused(self, BadFormat, call, None, None, None, mode=None)
            assert_refused(self, BadFamily, call, TINY, None, FIRST, mode=None)
            assert_refused(self, BadFamily, call, TINY, FIRST, None, mode=None)
            assert_refused(self, BadMode, call, TINY, FIRST, (0, 1, 3, 1, 5), mode="x")
        assert_refused(self, BadMode, standin_paper_holds, TINY, FIRST, (0, 1, 3, 1, 5), None, mode="x")

    def test_great_questions(self):
        form, last = (53, -600, 600), (1 << 140) - 1
        told = standin_question(form, (1, 3 ** 500, 7 ** 900, 0, last), (2, 3 ** 500, 7 ** 900, 0, last))
        self.assertEqual(told[0], "holds")
        self.assertIs(standin_paper_holds(form, (1, 3 ** 500, 7 ** 900, 0, last), (2, 3 ** 500, 7 ** 900, 0, last), told[1]), True)
        first, second = (1, 3 ** 500, 7 ** 400, 0, last), (1, 3 ** 500 + (3 ** 500 >> 90), 7 ** 400, 0, last)
        kind, m = standin_question(form, first, second)
        self.assertEqual(kind, "fails")
        def both(k):
            return [rounded(form, exact_from(value_at(series, k)))[0] for series in (first, second)]
        self.assertNotEqual(*both(m))
        self.assertEqual(standin_question(form, first[:4] + (m - 1,), second[:4] + (m - 1,))[0], "holds")


class TestPapers(unittest.TestCase):
    def held(self):
        for form in FORMS:
            for series in some_series(5, form, 6):
                for mode in MODES:
                    s, t, d, a, b = series
                    series2 = (s * 1000 + 1, t * 1000, d * 1000, a, b)
                    told = standin_question(form, series, series2, mode=mode)
                    if told[0] == "holds" and told[1][0]:
                        yield form, series, series2, mode, told[1]

    def test_bent_papers(self):
        count = 0
        for form, series, series2, mode, paper in self.held():
            count += 1
            first, second = paper
            wrongs = [None, True, 0, "paper", (), [], list(paper), (first,), (first, second, second), (first, None), (tuple(first), second),
                      (first[1:], second), (first + first[:1], second), (first, second[:-1]), ([None] + first[1:], second),
                      ([[]] + first[1:], second), ([tuple(first[0])] + first[1:], second), (first, [second[0][1:]] + second[1:])]
            for wrong in wrongs:
                self.assertIs(standin_paper_holds(form, series, series2, wrong, mode=mode), False, wrong)
            for at, rows in enumerate(first):
                for k, row in enumerate(rows):
                    for part in range(5):
                        bent = rows[:k] + [row[:part] + (row[part] + 1,) + row[part + 1:]] + rows[k + 1:]
                        self.assertIs(standin_paper_holds(form, series, series2, (first[:at] + [bent] + first[at + 1:], second),
                                    mode=mode), False)
        self.assertGreater(count, 40)

    def test_longer_rows_are_taken(self):
        count = 0
        for form, series, series2, mode, paper in self.held():
            first, second = paper
            N, M, A, B, S = first[0][-1]
            Y = (A % M * N + B % M) // M
            if Y > 0:
                after = (Y, A % M, M, M - B % M + A % M - 1)
                longer = first[0] + [after + (floor_sum(*after),)]
                self.assertIs(rows_hold(longer), True)
                self.assertIs(standin_paper_holds(form, series, series2, ([longer] + first[1:], second), mode=mode), True)
                count += 1
        self.assertGreater(count, 5)

    def test_right_rows_of_unlike_sums(self):
        for mode in MODES:
            for form in FORMS:
                for series in some_series(6, form, 8):
                    s, t, d, a, b = series
                    series2 = (s + t, t, d, a, b)
                    if standin_total(form, series, series2, mode=mode) != 0:
                        rows = tuple([floor_rows(*part[1:]) for part in rank_parts(form, part, mode=mode)[1]] for part in (series, series2))
                        self.assertIs(standin_paper_holds(form, series, series2, rows, mode=mode), False)
                        self.assertIs(standin_paper_holds(form, series, series2, rows[::-1], mode=mode), False)


class TestDivisionPair(unittest.TestCase):
    def test_each_mode(self):
        for k in (2, 3, 7, 10, 1000000):
            for inner in [(2, -10, 4), (8, -30, 0), (53, -600, 500)]:
                for mode in MODES:
                    x = slow_round(inner, (1, k, 1), mode)[0] if inner[0] < 9 else rounded(inner, (1, k, 1), mode=mode)[0]
                    if x[1] < 1:
                        assert_refused(self, NotAsked, division_pair, TINY, k, inner, 1, 7, mode=mode)
                        continue
                    factor = x[1] * two(x[2])
                    n1, d1 = factor.numerator, factor.denominator
                    told = []
                    for _, t, d, a, b in numbers_family((4, -3, 3), 3, 40):
                        pair = ((0, t, d * k, a, b), (0, t * n1, d * d1, a, b))
                        told.append(pair if Fraction(1, k) <= factor else pair[::-1])
                    self.assertEqual(division_pair((4, -3, 3), k, inner, 3, 40, mode=mode), told)

    def test_order_of_the_two(self):
        pair = ((0, 1, 3, 1, 3), (0, 3, 8, 1, 3))
        self.assertEqual(division_pair(TINY, 3, (2, -3, 0), 1, 3, mode="up"), [pair])
        self.assertEqual(division_pair(TINY, 3, (2, -3, 0), 1, 3), [pair])
        self.assertEqual(division_pair(TINY, 3, (2, -3, 0), 1, 3, mode="down"), [((0, 1, 4, 1, 3), (0, 1, 3, 1, 3))])
        self.assertEqual(division_pair(TINY, 2, (2, -3, 0), 1, 2), [((0, 1, 2, 1, 2), (0, 1, 2, 1, 2))])
        self.assertEqual(division_pair((2, -2, 0), 3, (2, -3, 0), 1, 1), [((0, 1, 12, 1, 1), (0, 3, 32, 1, 1))])

    def test_the_answer_is_a_right_question(self):
        answers = []
        for k in (3, 10):
            for first, second in division_pair((5, -3, 3), k, (14, -40, 5), 5, 80):
                unlike = [m for m in range(first[3], first[4] + 1) if slow_rank((5, -3, 3), value_at(first, m), "even") !=
                          slow_rank((5, -3, 3), value_at(second, m), "even")]
                told = standin_question((5, -3, 3), first, second)
                self.assertEqual(told[:2] if unlike else told[0], ("fails", unlike[0]) if unlike else "holds")
                answers.append(told[0])
        self.assertEqual(set(answers), {"holds", "fails"})

    def test_not_asked_ahead_of_too_many(self):
        wide = (2, -600, 600)
        for inner, mode, zero in [((2, 3, 4), "even", True), ((2, 3, 4), "up", False), ((2, -1, 0), "zero", False), ((2, 0, 0),
                    "zero", True),
                                  ((2, -600, -600), "even", True), ((2, -600, -600), "zero", False), ((2, -600, -600), "up", True)]:
            for last in (5, many(wide)):
                if zero:
                    assert_refused(self, NotAsked, division_pair, wide, 2, inner, 1, last, mode=mode)
                elif last == 5:
                    self.assertEqual(len(division_pair(wide, 2, inner, 1, last, mode=mode)), 2)
                else:
                    self.assertEqual(assert_refused(self, TooMany, division_pair, wide, 2, inner, 1, last, mode=mode).limit, 64)
        # Each unit power has two ranks, the first one three.
        self.assertEqual(len(division_pair(wide, 3, wide, 1, 129)), 64)
        assert_refused(self, TooMany, division_pair, wide, 3, wide, 1, 130)

    def test_wrong_arguments(self):
        for k in (1, 0, -2, 1000001, True, None, "2"):
            assert_refused(self, BadCount, division_pair, TINY, k, None, 0, 0, mode=None)
        for i, j in [(0, 1), (8, 8), (3, 2), (1, 8), (True, 3), (1, True), (None, 1)]:
            assert_refused(self, BadCount, division_pair, TINY, 2, TINY, i, j, mode=None)
        assert_refused(self, BadFormat, division_pair, TINY, 2, None, 0, 0, mode=None)
        assert_refused(self, BadMode, division_pair, TINY, 2, (2, 3, 4), 1, 1, mode="x")
        self.assertEqual(len(division_pair(TINY, 1000000, (2, -30, 0), 7, 7)), 1)
