import random
import unittest
from fractions import Fraction

from everyrounding.errors import BadCount, BadMode
from everyrounding.floorsums import floor_rows, floor_sum, rows_hold
from everyrounding.residues import count_residues, first_residue, residue_rows, residues_none, round_parts, round_sum
from tests.oracle import MODES, assert_refused, pick_up

MOST = (1 << 9000) - 1
WIDE = (1 << 199) - 1


def hits(A, B, M, l, r, a, b):
    """The m that count, by walking."""
    return [m for m in range(a, b + 1) if l <= (A * m + B) % M < r]


def asked(seed, many, most):
    picker = random.Random(seed)
    for _ in range(many):
        M = picker.randint(1, most)
        l = picker.randint(0, M)
        a = picker.randint(-50, 50)
        yield (picker.randint(-3 * M, 3 * M), picker.randint(-3 * M, 3 * M), M, l, picker.randint(l, M), a, a + picker.randint(0, 40))


class TestCounting(unittest.TestCase):
    def test_against_walking(self):
        for most in (4, 25, 1000, 1 << 100):
            for question in asked(most, 400, most):
                found = hits(*question)
                self.assertEqual(count_residues(*question), len(found), question)
                self.assertEqual(first_residue(*question), found[0] if found else None, question)

    def test_all_small(self):
        for M in range(1, 5):
            for A in range(-4, 5):
                for B in range(-2, 3):
                    for l in range(M + 1):
                        for r in range(l, M + 1):
                            question = (A, B, M, l, r, -3, 4)
                            found = hits(*question)
                            self.assertEqual(count_residues(*question), len(found))
                            self.assertEqual(first_residue(*question), found[0] if found else None)

    def test_edges(self):
        self.assertEqual(count_residues(3, 1, 7, 0, 7, -5, 5), 11)
        self.assertEqual(first_residue(3, 1, 7, 0, 7, -5, 5), -5)
        for bound in (0, 3, 7):
            self.assertEqual(count_residues(3, 1, 7, bound, bound, -5, 5), 0)
            self.assertIsNone(first_residue(3, 1, 7, bound, bound, -5, 5))
        self.assertEqual(count_residues(3, 1, 7, 6, 7, 4, 4), 1 if (3 * 4 + 1) % 7 == 6 else 0)
        self.assertEqual(count_residues(0, 5, 1, 0, 1, 0, 0), 1)

    def test_great_ranges(self):
        self.assertEqual(count_residues(1, 0, 2, 1, 2, 0, WIDE), 1 << 198)
        self.assertEqual(first_residue(1, 0, 1 << 199, WIDE, 1 << 199, 0, WIDE), WIDE)
        self.assertEqual(first_residue(1, 0, 1 << 199, WIDE, 1 << 199, -7, WIDE - 7), -1)
        self.assertEqual(count_residues(MOST, -MOST, MOST, 0, 1, -MOST, -MOST + WIDE), WIDE + 1)
        A, M = pow(3, 5677), (1 << 8999) + 9
        B = M // 2
        m = first_residue(A, B, M, 0, M >> 150, 0, WIDE)
        self.assertTrue(m > 0 and (A * m + B) % M < M >> 150)
        self.assertEqual(count_residues(A, B, M, 0, M >> 150, 0, m), 1)
        self.assertEqual(count_residues(A, B, M, 0, M >> 150, 0, m - 1), 0)
        self.assertGreater(count_residues(A, B, M, 0, M >> 150, 0, WIDE), 1 << 48)

    def test_bounds(self):
        right = (1, 1, 5, 1, 3, 0, 9)
        for call in (count_residues, first_residue, residue_rows):
            for at, wrong in [(0, MOST + 1), (0, -MOST - 1), (1, MOST + 1), (1, -MOST - 1), (2, 0), (2, -5), (2, MOST + 1), (3, -1), (3, 6),
                              (3, 4), (4, 0), (4, 6), (5, 10), (5, MOST + 1), (5, -MOST - 1), (6, -1), (6, WIDE + 1), (5, 9 - WIDE - 1)]:
                assert_refused(self, BadCount, call, *right[:at], wrong, *right[at + 1:])
                self.paper_refused(right[:at] + (wrong,) + right[at + 1:])
            for at in range(7):
                for wrong in (None, True, "1", (1,)):
                    assert_refused(self, BadCount, call, *right[:at], wrong, *right[at + 1:])
                    self.paper_refused(right[:at] + (wrong,) + right[at + 1:])
        for at, told in [(0, MOST), (0, -MOST), (1, -MOST), (6, WIDE), (5, 9 - WIDE)]:
            self.assertEqual(count_residues(*right[:at], told, *right[at + 1:]) >= 0, True)
        self.assertEqual(count_residues(1, 0, MOST, 0, MOST, MOST, MOST + WIDE), WIDE + 1)
        self.assertEqual(count_residues(1, 1, 5, 5, 5, 0, 9), 0)

    def paper_refused(self, question):
        for paper in (None, [], ([], [])):
            assert_refused(self, BadCount, residues_none, paper, *question)


class TestPapers(unittest.TestCase):
    def test_rows(self):
        for question in asked(5, 300, 40):
            A, B, M, l, r, a, b = question
            low, high = residue_rows(*question)
            N = b - a + 1
            self.assertEqual(low, floor_rows(N, M, A, A * a + B - l))
            self.assertEqual(high, floor_rows(N, M, A, A * a + B - r))
            self.assertEqual(low[0][4] - high[0][4], len(hits(*question)))
            self.assertIs(residues_none((low, high), *question), not hits(*question))

    def test_great_questions(self):
        A, B, M = pow(5, 3000), -MOST, MOST
        for l, r in [(0, 0), (MOST, MOST), (M // 3, M // 3 + 1)]:
            question = (A, B, M, l, r, MOST, MOST + WIDE)
            paper = residue_rows(*question)
            self.assertTrue(rows_hold(paper[0]) and rows_hold(paper[1]))
            self.assertIs(residues_none(paper, *question), count_residues(*question) == 0)

    def none_found(self):
        return [question for question in asked(6, 900, 60) if not hits(*question) and question[3] < question[4]]

    def test_papers_of_another_question(self):
        questions = self.none_found()
        self.assertGreater(len(questions), 30)
        papers = [residue_rows(*question) for question in questions]
        for at, question in enumerate(questions):
            A, B, M, l, r, a, b = question
            self.assertIs(residues_none(papers[at], *question), True)
            self.assertIs(residues_none(papers[at - 1], *question), False)
            self.assertIs(residues_none(papers[at][::-1], *question), False)
            for other in [(A + 1, B, M, l, r, a, b), (A, B + 1, M, l, r, a, b), (A, B, M + 1, l, r, a, b), (A, B, M, l, r, a, b + 1),
                          (A, B, M, l, l, a, b), (A, B, M, r, r, a, b), (-A, B, M, l, r, a, b)]:
                if other != question:
                    self.assertIs(residues_none(papers[at], *other), False)

    def test_longer_rows(self):
        found = 0
        for question in self.none_found():
            low, high = residue_rows(*question)
            N, M, A, B, S = low[-1]
            Y = (A % M * N + B % M) // M
            if Y > 0:
                after = (Y, A % M, M, M - B % M + A % M - 1)
                found += 1
                self.assertIs(residues_none((low + [after + (floor_sum(*after),)], high), *question), True)
        self.assertGreater(found, 5)

    def test_bent_papers(self):
        for question in self.none_found()[:25]:
            low, high = residue_rows(*question)
            for wrong in [None, True, (), [], [low, high], (low,), (low, high, high), (low, None), (tuple(low), high), (low, []),
                          (low[1:], high), (low, high + high), "paper", (low[:1] + low, high), ((), ()), 0]:
                self.assertIs(residues_none(wrong, *question), False)
            for rows, place in [(low, 0), (high, 1)]:
                for at, row in enumerate(rows):
                    for part in range(5):
                        changed = rows[:at] + [row[:part] + (row[part] + 1,) + row[part + 1:]] + rows[at + 1:]
                        paper = (changed, high) if place == 0 else (low, changed)
                        self.assertIs(residues_none(paper, *question), False)
        question = (1, 0, 2, 1, 2, 0, 0)
        self.assertEqual(residue_rows(*question), ([(1, 2, 1, -1, -1)], [(1, 2, 1, -2, -1)]))
        self.assertIs(residues_none(([(1, 2, 1, -1, -1)], [(1, 2, 1, -2, -1)]), *question), True)
        self.assertIs(residues_none(([(True, 2, 1, -1, -1)], [(1, 2, 1, -2, -1)]), *question), False)

    def test_only_true_for_a_count_of_zero(self):
        for question in asked(8, 400, 30):
            A, B, M, l, r, a, b = question
            low, high = residue_rows(*question)
            if hits(*question):
                lied = [high[0][:3] + (low[0][3], high[0][4])] + high[1:]
                for paper in [(low, high), (low, low), (high, high), (lied, high)]:
                    self.assertIs(residues_none(paper, *question), False)


def slow_rounded(mode, value):
    """A fraction at or above zero rounded to an integer by the mode."""
    whole = value.numerator // value.denominator
    if whole == value:
        return whole
    half = value - whole - Fraction(1, 2)
    return whole + pick_up(mode, 0, whole, None, (half > 0) - (half < 0))


class TestRoundSums(unittest.TestCase):
    def questions(self):
        picker = random.Random(4)
        for most in (1, 2, 3, 4, 10, 64, 1 << 80):
            for _ in range(60):
                D, a = picker.randint(1, most), picker.randint(-20, 20)
                b, X1 = a + picker.randint(0, 12), picker.randint(-3 * most, 3 * most)
                X0 = picker.randint(0, 2 * most) - min(X1 * a, X1 * b)
                yield (X0, X1, D, a, b)

    def test_against_rounding_one_by_one(self):
        for X0, X1, D, a, b in self.questions():
            for mode in MODES:
                told = sum(slow_rounded(mode, Fraction(X0 + X1 * m, D)) for m in range(a, b + 1))
                self.assertEqual(round_sum(mode, X0, X1, D, a, b), told, (mode, X0, X1, D, a, b))
                parts = round_parts(mode, X0, X1, D, a, b)
                self.assertEqual(sum(c * floor_sum(N, M, A, B) for c, N, M, A, B in parts), told)

    def test_parts(self):
        X0, X1, D, a, b = 7, 3, 5, 2, 9
        N, P = 8, 13
        told = {"zero": [(1, N, D, X1, P)], "down": [(1, N, D, X1, P)], "up": [(1, N, D, X1, P + D - 1)],
                "away": [(1, N, 2 * D, 2 * X1, 2 * P + D)], "odd": [(1, N, 2 * D, X1, P), (1, N, 2 * D, X1, P + 2 * D - 1)],
                "even": [(1, N, 2 * D, 2 * X1, 2 * P + D), (-1, N, 4 * D, 2 * X1, 2 * P - D), (1, N, 4 * D, 2 * X1, 2 * P - D - 1)]}
        for mode in MODES:
            self.assertEqual(round_parts(mode, X0, X1, D, a, b), told[mode])

    def test_ties(self):
        for mode, told in [("even", 0 + 2 + 2 + 4), ("away", 1 + 2 + 3 + 4), ("zero", 6), ("up", 10), ("down", 6), ("odd", 1 + 1 + 3 + 3)]:
            self.assertEqual(round_sum(mode, 1, 2, 2, 0, 3), told)

    def test_great_ranges(self):
        for mode in MODES:
            self.assertEqual(round_sum(mode, 0, 2, 2, 1, WIDE), WIDE * (WIDE + 1) // 2)
            self.assertEqual(round_sum(mode, MOST, 0, 1, 0, 0), MOST)
            self.assertEqual(round_sum(mode, 0, 1, 1 << 20000, 0, 5), {"up": 5, "odd": 5}.get(mode, 0))
        self.assertEqual(round_sum("zero", MOST, -1, 1, MOST - 5, MOST), 15)

    def test_negative_values(self):
        for X0, X1, a, b in [(-1, 0, 0, 0), (0, -1, 0, 1), (0, 1, -1, 5), (5, -1, 0, 6), (-5, 1, 4, 9), (0, 1, -1, -1)]:
            for mode in MODES:
                for call in (round_parts, round_sum):
                    assert_refused(self, BadCount, call, mode, X0, X1, 3, a, b)
        self.assertEqual(round_sum("even", -5, 1, 1, 5, 5), 0)
        self.assertEqual(round_sum("even", 5, -1, 1, 5, 5), 0)

    def test_wrong_arguments(self):
        right = ("even", 1, 1, 1, 0, 3)
        for call in (round_parts, round_sum):
            for mode in ("x", None, True, ["even"]):
                assert_refused(self, BadMode, call, mode, None, None, None, None, None)
            for at, wrong in [(1, MOST + 1), (1, -MOST - 1), (2, MOST + 1), (2, -MOST - 1), (3, 0), (3, -1), (4, 4), (4, MOST + 1), (5, -1),
                              (5, WIDE + 1), (1, True), (2, None), (3, True), (4, False), (5, "3"), (4, -MOST - 1)]:
                assert_refused(self, BadCount, call, *right[:at], wrong, *right[at + 1:])
        self.assertEqual(round_sum("even", 0, 0, MOST * MOST, 0, WIDE), 0)
