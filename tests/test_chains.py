import random
import unittest
from fractions import Fraction

from everyrounding.chains import check_chain, fair, mirror_chain, passes, pulled_cut, run_chain
from everyrounding.cuts import check_cut, cut_at, is_above
from everyrounding.errors import BadChain, BadCount, BadExact
from everyrounding.formats import many
from everyrounding.rounding import join_flags
from everyrounding.seats import rank
from everyrounding.values import minus
from tests.oracle import (INF, MINUS_INF, MODES, TINY, ZERO, assert_refused, exact_from, slow_round, two, value_of)

A, B, C = (2, 0, 2), (3, -1, 2), (2, -2, 3)
STEP = (A, "even")
WRONG = [None, True, 0, "even", (), [], [STEP], STEP, (A,), ("even",), ((A,),), ((A, "even", 1),), ([A, "even"],), (("even", A),),
         ((A, "x"),), ((A, None),), ((A, True),), (((1, 0, 2), "even"),), (((2, 0, True), "even"),), (((2, False, 2), "even"),),
         (([2, 0, 2], "even"),), (STEP, None), (STEP, (A, "Even")), (STEP,) * 7, (None,) * 3, ((),), ((None, None),), ((A, ("even",)),)]
CHAINS = [((A, "even"),), ((B, "even"), (A, "even")), ((B, "odd"), (A, "even")), ((C, "up"), (A, "down")), ((A, "zero"), (B, "away")),
          ((C, "away"), (B, "odd"), (A, "up")), ((A, "down"), (C, "odd"), (B, "zero")), (((2, 3, 4), "even"), (A, "zero")),
          (((2, 3, 4), "down"), (B, "odd")), (((2, -6, -4), "even"), (A, "even")), (((2, -6, -5), "zero"), (C, "odd")),
          ((B, "odd"),) * 5 + ((A, "even"),), ((B, "zero"), (A, "odd"), (A, "odd"))]


def slow_run(chain, exact):
    """The answer of a chain by the slow rounding, the exact number not zero."""
    x, flags = slow_round(chain[0][0], exact, chain[0][1])
    for form, mode in chain[1:]:
        if x[1] > 0:
            x, more = slow_round(form, exact_from(value_of(x)), mode)
            flags = join_flags(flags, more)
    return (x, flags)


def grid(chain):
    """Exact sizes at and beside all places where a small chain can step."""
    low = min(form[1] for form, _ in chain) - 2
    high = max(form[2] + form[0] for form, _ in chain)
    step = two(low)
    whole = [i * step for i in range(1, int(two(chain[-1][0][2] + chain[-1][0][0] + 1) / step))]
    return whole + [two(low) / 1000, two(high), two(high) - two(low - 9), two(high + 3)]


class TestCheck(unittest.TestCase):
    def test_right(self):
        for chain in CHAINS + [(STEP,), (STEP,) * 6]:
            self.assertIsNone(check_chain(chain))

    def test_wrong(self):
        for wrong in WRONG:
            for call in (check_chain, fair, mirror_chain):
                assert_refused(self, BadChain, call, wrong)
            assert_refused(self, BadChain, run_chain, wrong, None)
            assert_refused(self, BadChain, pulled_cut, wrong, -1)
            assert_refused(self, BadChain, passes, wrong, -1, None)


class TestFair(unittest.TestCase):
    def test_told(self):
        for chain, told in [(((B, "even"), (A, "even")), True), (((A, "even"), (B, "even")), False), ((STEP,), True),
                            ((((2, -5, 3), "even"), (A, "even")), True), ((((2, 0, 1), "even"), (A, "even")), False),
                            ((((2, 1, 2), "even"), (A, "even")), False), (((B, "even"), ((3, 0, 0), "odd"), (A, "even")), False),
                            (((B, "even"), ((5, 0, 0), "odd"), (A, "even")), True), ((((4, 0, 0), "even"), (A, "even")), True)]:
            self.assertIs(fair(chain), told, chain)


class TestMirror(unittest.TestCase):
    def test_each_mode(self):
        modes = ("even", "away", "zero", "up", "down", "odd")
        chain = tuple((A, mode) for mode in modes)
        told = ("even", "away", "zero", "down", "up", "odd")
        self.assertEqual(mirror_chain(chain), tuple((A, mode) for mode in told))
        for each in CHAINS:
            self.assertEqual(mirror_chain(mirror_chain(each)), each)

    def test_runs_on_the_negative(self):
        for chain in CHAINS:
            for z in grid(chain)[::5]:
                x, flags = run_chain(chain, exact_from(-z))
                self.assertEqual(run_chain(mirror_chain(chain), exact_from(z)), (minus(x), flags))


class TestRun(unittest.TestCase):
    def test_small_chains(self):
        for chain in CHAINS:
            for z in grid(chain)[::3]:
                for exact in (exact_from(z), exact_from(-z), exact_from(z, 2)):
                    self.assertEqual(run_chain(chain, exact), slow_run(chain, exact), (chain, exact))

    def test_one_step(self):
        for mode in MODES:
            for exact in [(5, 1, 1), (-5, 1, 1), (2, 1, 2), (1, 9, 1), (99, 1, 1)]:
                self.assertEqual(run_chain(((A, mode),), exact), slow_round(A, exact, mode))

    def test_zero(self):
        for exact in [(0, 1, 1), (0, 7, 2)]:
            for chain in CHAINS:
                self.assertEqual(run_chain(chain, exact), (ZERO, ()))
        self.assertEqual(run_chain(((A, "down"),), (0, 1, 1)), (ZERO, ()))

    def test_results_that_pass_through_zero_and_infinity(self):
        self.assertEqual(run_chain((((2, 3, 4), "even"), (A, "even")), (-1, 1, 1)), ((1, 0, 0), ("underflow", "inexact")))
        self.assertEqual(run_chain((((2, -6, -4), "even"), (A, "zero")), (1, 1, 1)), (INF, ("overflow", "inexact")))
        self.assertEqual(run_chain((((2, -6, -4), "even"), (A, "zero")), (-1, 1, 1)), (MINUS_INF, ("overflow", "inexact")))

    def test_flags_are_joined(self):
        chain = (((4, -3, 3), "even"), (TINY, "even"))
        self.assertEqual(run_chain(chain, (29, 2, 1)), (INF, ("overflow", "inexact")))
        self.assertEqual(run_chain((((2, -6, 0), "odd"), (TINY, "up")), (1, 1000, 1)), ((0, 1, 0), ("underflow", "inexact")))
        self.assertEqual(run_chain(chain, (3, 1, 1)), ((0, 3, 0), ()))

    def test_wrong_arguments(self):
        for wrong in (None, True, (1, 0, 1), (-1, 1, 2), (1, 1, 3), [1, 1, 1], (True, 1, 1), (1 << 12000, 1, 1)):
            assert_refused(self, BadExact, run_chain, (STEP,), wrong)
            assert_refused(self, BadExact, passes, (STEP,), 0, wrong)
        assert_refused(self, BadChain, run_chain, (STEP,) * 7, None)


class TestCuts(unittest.TestCase):
    def test_each_rank(self):
        for chain in CHAINS:
            cuts = [pulled_cut(chain, j) for j in range(many(chain[-1][0]) + 1)]
            for cut in cuts:
                self.assertIsNone(check_cut(cut))
            for z in grid(chain)[len(chain) // 4::2]:
                told = rank(chain[-1][0], slow_run(chain, exact_from(z))[0])
                for j, cut in enumerate(cuts):
                    self.assertIs(is_above(exact_from(z), cut), told > j, (chain, z, j))
                    self.assertIs(passes(chain, j, exact_from(z)), told > j)

    def test_random_chains(self):
        picker = random.Random(5)
        for _ in range(60):
            chain = tuple(((picker.randint(2, 4), lo, lo + picker.randint(0, 3)), picker.choice(MODES))
                          for lo in (picker.randint(-3, 1) for _ in range(picker.randint(1, 4))))
            goal = chain[-1][0]
            for j in {0, 1, many(goal) // 2, many(goal) - 1, many(goal)}:
                cut = pulled_cut(chain, j)
                for z in grid(chain)[::7] + ([] if cut is None else self.beside(cut)):
                    for exact in (exact_from(z), exact_from(z * z, 2)):
                        self.assertIs(passes(chain, j, exact), is_above(exact, cut), (chain, j, exact))

    def beside(self, cut):
        point = cut[0] * two(cut[1])
        return [z for z in (point - two(-60), point, point + two(-60)) if z > 0]

    def test_one_step_is_the_cut_of_the_format(self):
        for mode in MODES:
            for j in range(many(A) + 1):
                self.assertEqual(pulled_cut(((A, mode),), j), cut_at(A, j, mode=mode))

    def test_told(self):
        wide = ((B, "even"), (A, "even"))
        # 5 lies half between 4 and 6; it is a number of B and goes to the even rank; so all that B rounds to 5 stays below.
        self.assertEqual(pulled_cut(wide, 4), (11, -1, 0))
        self.assertEqual(pulled_cut(((A, "even"),), 4), (5, 0, 1))
        self.assertIsNone(pulled_cut(((A, "zero"),), many(A)))
        self.assertIsNone(pulled_cut(((B, "zero"), (A, "odd")), many(A)))
        self.assertEqual(pulled_cut(((B, "even"), (A, "zero")), many(A)), (15, 1, 0))
        # The first format never gets to one half of the goal's least number, so infinity alone is above.
        self.assertEqual(pulled_cut((((2, -6, -4), "even"), (A, "even")), 0), (7, -5, 0))
        self.assertIsNone(pulled_cut((((2, -6, -4), "down"), (A, "even")), 0))

    def test_great_formats(self):
        chain = (((140, -600, 600), "odd"), ((53, -500, 600), "even"))
        n = many((53, -500, 600))
        self.assertEqual(pulled_cut(chain, 0), (1, -501, 1))
        self.assertEqual(pulled_cut(chain, n), ((1 << 54) - 1, 599, 0))
        self.assertIs(passes(chain, 0, (1, 1 << 501, 1)), False)
        self.assertIs(passes(chain, 0, ((1 << 400) + 1, 1 << 901, 1)), True)

    def test_wrong_arguments(self):
        for j in (-1, many(A) + 1, True, None, "0"):
            assert_refused(self, BadCount, pulled_cut, (STEP,), j)
            assert_refused(self, BadCount, passes, (STEP,), j, (0, 1, 1))
        for exact in [(0, 1, 1), (0, 1, 2), (-1, 1, 1), (-1, 1 << 11999, 1)]:
            assert_refused(self, BadExact, passes, (STEP,), 0, exact)
        self.assertIs(passes((STEP,), 0, (Fraction(3, 5).numerator, 5, 1)), True)
