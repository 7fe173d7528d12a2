import unittest
from fractions import Fraction

from everyrounding.chains import pulled_cut, run_chain
from everyrounding.cuts import cut_less
from everyrounding.errors import BadChain, BadCount, BadCut, BadExact
from everyrounding.formats import unit_power
from everyrounding.gaps import gap_empty, gap_of, gaps_at, house_question, last_gaps, low_gap
from everyrounding.values import alike
from tests.houses import (LAST_GAPS, PAIRS, TINY, WIDE, house_grid, lies_in, over_of, random_pairs, slow_number, slow_unlike)
from tests.oracle import MODES, assert_refused, exact_from, two

ONE = (((TINY, "even")),)
FINER = ((WIDE, "even"), (TINY, "even"))
GREAT = (140, -600, 600)
UNFAIR = [((TINY, "even"), (WIDE, "even")), (((2, 0, 1), "even"), (TINY, "even")), (((2, 1, 2), "even"), (TINY, "even"))]


def power_of(value):
    power = 0
    while two(power) > value:
        power -= 1
    while two(power + 1) <= value:
        power += 1
    return power


def told_gap(chain, chain2, value):
    """The gap of [28] in which a value lies, None if it lies in none; asserted nowhere, only read off the told cuts."""
    p, lo, hi = chain[-1][0]
    last = hi + p - 1
    if value < two(lo):
        return ("low", lo - 1, 0) if lies_in(value, low_gap(chain, chain2)) else None
    E = power_of(value)
    U, gaps = gaps_at(chain, chain2, E)
    if E == last and value >= two(last + 1) - two(U):
        found = [at for at, gap in enumerate(last_gaps(chain, chain2)) if lies_in(value, gap)]
        return ("last", E, found[0]) if found and value > two(last + 1) - two(U) else None
    y = value - value // two(U + 1) * two(U + 1)
    for h in (0, 1):
        comes = E > lo if h == 0 else E < last or U <= hi + p - 3
        if comes and lies_in(y, gaps[h]):
            return ("in", E, h)
    return None


class TestWholeHouses(unittest.TestCase):
    def check(self, chain, chain2):
        unlike = []
        for value in house_grid(chain, chain2):
            exact = exact_from(value)
            told = told_gap(chain, chain2, value)
            self.assertEqual(told is not None, not alike(run_chain(chain, exact)[0], run_chain(chain2, exact)[0]), (chain, chain2, value))
            self.assertEqual(gap_of(chain, chain2, exact), told, (chain, chain2, value))
            if told is not None:
                unlike.append(value)
        answer = house_question(chain, chain2)
        self.assertEqual(answer == ("holds",), not unlike, (chain, chain2))
        if unlike:
            n, d, k = answer[1]
            self.assertTrue(k == 1 and 0 < Fraction(n, d) < over_of(chain))
            self.assertTrue(slow_unlike(chain, chain2, answer[1]))

    def test_told_pairs(self):
        for chain, chain2 in PAIRS:
            self.check(chain, chain2)

    def test_random_pairs(self):
        for chain, chain2 in random_pairs(11, 60):
            self.check(chain, chain2)

    def test_slow_and_quick_running_agree(self):
        for chain, chain2 in PAIRS[::3]:
            for value in house_grid(chain, chain2)[::5]:
                self.assertEqual(run_chain(chain, exact_from(value))[0], slow_number(chain, exact_from(value)))


class TestCutsOfGaps(unittest.TestCase):
    def test_low_gap(self):
        for chain, chain2 in PAIRS + random_pairs(12, 20):
            cuts = [pulled_cut(chain, 0), pulled_cut(chain2, 0)]
            if cut_less(cuts[1], cuts[0]):
                cuts.reverse()
            self.assertEqual(low_gap(chain, chain2), tuple(cuts))
            self.assertEqual(low_gap(chain2, chain), tuple(cuts))
        self.assertEqual(low_gap(ONE, ONE), ((1, -1, 1), (1, -1, 1)))

    def test_gaps_at_told(self):
        self.assertEqual(gaps_at(FINER, ONE, 1), (0, [((1, -1, 1), (3, -2, 0)), ((5, -2, 1), (3, -1, 0))]))
        self.assertEqual(gaps_at(ONE, FINER, 1), gaps_at(FINER, ONE, 1))
        self.assertEqual(gaps_at(((TINY, "zero"),), ((TINY, "up"),), 3), (2, [((0, 0, 1), (1, 2, 0)), ((1, 2, 1), (1, 3, 0))]))
        # By zero and down the last units end like all others, never without a cut.
        self.assertEqual(gaps_at(((TINY, "zero"),), ((TINY, "down"),), 3), (2, [((1, 2, 0), (1, 2, 0)), ((1, 3, 0), (1, 3, 0))]))

    def test_gaps_at_the_coarsest_unit(self):
        for chain, chain2 in PAIRS:
            p, lo, hi = chain[-1][0]
            for E in range(lo, hi + p):
                U, gaps = gaps_at(chain, chain2, E)
                self.assertEqual(U, max(unit_power(form, E) for form, _ in chain + chain2))
                self.assertEqual(len(gaps), 2)
                self.assertEqual((U, gaps), gaps_at(chain2, chain, E))
                for h in (0, 1):
                    for m, q, _ in gaps[h]:
                        self.assertTrue(h * two(U) <= m * two(q) <= (h + 1) * two(U))

    def test_gaps_of_coarse_steps(self):
        # The first format has fewer digits than the goal: its unit is the coarsest, two units of the goal wide.
        chain = (((2, 0, 3), "even"), ((3, 0, 2), "even"))
        self.assertEqual(gaps_at(chain, (((3, 0, 2), "even"),), 3), (2, [((1, 0, 1), (3, 0, 0)), ((5, 0, 1), (7, 0, 0))]))
        self.assertEqual(gaps_at(chain, (((3, 0, 2), "even"),), 0), (0, [((1, -1, 1), (1, -1, 1)), ((3, -1, 0), (3, -1, 0))]))

    def test_powers(self):
        for chain, chain2 in PAIRS[:3] + [(FINER, ONE)]:
            p, lo, hi = chain[-1][0]
            for E in (lo - 1, hi + p, -5000, True, None, "1"):
                assert_refused(self, BadCount, gaps_at, chain, chain2, E)

    def test_last_gaps(self):
        for chain, chain2, told in LAST_GAPS:
            self.assertEqual(last_gaps(chain, chain2), told)
            self.assertEqual(last_gaps(chain2, chain), told)
        for chain, chain2 in random_pairs(13, 40):
            told = last_gaps(chain, chain2)
            self.assertEqual(last_gaps(chain2, chain), told)
            for gap in told:
                self.assertTrue(cut_less(*gap))
            if len(told) == 2:
                self.assertTrue(cut_less(told[0][1], told[1][0]))

    def test_never_counts_as_over(self):
        self.assertEqual(last_gaps(((TINY, "zero"),), ((TINY, "even"),)), [((7, 1, 0), (1, 4, 0))])
        self.assertEqual(last_gaps(((TINY, "zero"),), ((TINY, "down"),)), [])
        self.assertEqual(last_gaps(((TINY, "zero"),), ((TINY, "up"),)), [((3, 2, 1), (1, 4, 0))])

    def test_gap_empty(self):
        cuts = [(0, 0, 0), (0, 0, 1), (1, -3, 0), (1, -3, 1), (1, 0, 0), None]
        for at, cut in enumerate(cuts):
            for at2, second in enumerate(cuts):
                self.assertIs(gap_empty(cut, second), at >= at2)
        for wrong in (0, True, (1, 0), (2, 0, 0), (1, 0, True), "NEVER"):
            assert_refused(self, BadCut, gap_empty, wrong, None)
            assert_refused(self, BadCut, gap_empty, None, wrong)


class TestGapOf(unittest.TestCase):
    def test_between_the_grid(self):
        for chain, chain2 in PAIRS:
            for value in house_grid(chain, chain2)[::7]:
                for exact in (exact_from(value + two(-20) / 3), exact_from(value * value, 2), exact_from(value * value + two(-30), 2)):
                    if exact[2] == 1 and Fraction(exact[0], exact[1]) >= over_of(chain):
                        continue
                    if exact[2] == 2 and Fraction(exact[0], exact[1]) >= over_of(chain) ** 2:
                        continue
                    told = gap_of(chain, chain2, exact)
                    self.assertEqual(told is not None, slow_unlike(chain, chain2, exact))

    def test_roots_lie_where_their_neighbours_lie(self):
        for chain, chain2 in PAIRS:
            for value in house_grid(chain, chain2)[1::4]:
                told = gap_of(chain, chain2, exact_from(value))
                self.assertEqual(gap_of(chain, chain2, exact_from(value * value, 2)), told)
                n, d = value.numerator, value.denominator
                self.assertEqual(gap_of(chain, chain2, (7 * n * n, 7 * d * d, 2)), told)
                self.assertEqual(gap_of(chain, chain2, (7 * n, 7 * d, 1)), told)

    def test_told(self):
        self.assertEqual(gap_of(FINER, ONE, (5, 8, 1)), ("low", -1, 0))
        self.assertIsNone(gap_of(FINER, ONE, (1, 2, 1)))
        self.assertEqual(gap_of(FINER, ONE, (5, 4, 1)), None)
        self.assertEqual(gap_of(FINER, ONE, (11, 8, 1)), ("in", 0, 1))
        self.assertEqual(gap_of(FINER, ONE, (2, 1, 2)), ("in", 0, 1))
        self.assertEqual(gap_of(((TINY, "zero"),), ((TINY, "up"),), (225, 1, 2)), ("last", 3, 0))

    def test_over_less_the_coarsest_unit_is_alike(self):
        for chain, chain2 in PAIRS + random_pairs(14, 20):
            p, lo, hi = chain[-1][0]
            U = gaps_at(chain, chain2, hi + p - 1)[0]
            edge = two(hi + p) - two(U)
            self.assertIsNone(gap_of(chain, chain2, exact_from(edge)))
            self.assertIsNone(gap_of(chain, chain2, exact_from(edge * edge, 2)))
            self.assertFalse(slow_unlike(chain, chain2, exact_from(edge)))

    def test_outside_of_the_house(self):
        for exact in [(0, 1, 1), (0, 1, 2), (-1, 1, 1), (16, 1, 1), (256, 1, 2), (161, 10, 1), (-(1 << 11999), 1, 1), (1 << 11999, 1, 2)]:
            assert_refused(self, BadExact, gap_of, FINER, ONE, exact)
            assert_refused(self, BadExact, gap_of, ONE, ONE, exact)
        self.assertIsNone(gap_of(ONE, ONE, (255, 16, 1)))
        self.assertIsNone(gap_of(ONE, ONE, (255, 1, 2)))
        self.assertEqual(gap_of(((TINY, "zero"),), ((TINY, "up"),), ((1 << 1000) - 1, 1 << 996, 1)), ("last", 3, 0))
        self.assertEqual(gap_of(((TINY, "zero"),), ((TINY, "up"),), (1, 1 << 11999, 1)), ("low", -1, 0))


class TestHouseQuestion(unittest.TestCase):
    def test_told(self):
        self.assertEqual(house_question(FINER, ONE), ("fails", (5, 8, 1)))
        self.assertEqual(house_question(ONE, ONE), ("holds",))

    def test_first_gap_in_the_order_of_the_document(self):
        for chain, chain2 in PAIRS + random_pairs(15, 150):
            p, lo, hi = chain[-1][0]
            found = None
            order = [("low", None, None)] + [("in", E, h) for E in range(lo, hi + p) for h in (0, 1)] + [("last", None, None)]
            for kind, E, h in order:
                if kind == "in":
                    U, gaps = gaps_at(chain, chain2, E)
                    if (E == lo and h == 0) or (E == hi + p - 1 and h == 1 and U > hi + p - 3):
                        continue
                    gaps, base = [gaps[h]], two(E) if E > lo else 0
                else:
                    gaps, base = [low_gap(chain, chain2)] if kind == "low" else last_gaps(chain, chain2), 0
                full = [gap for gap in gaps if cut_less(*gap)]
                if full and found is None:
                    (m, q, _), (m2, q2, _) = full[0]
                    found = base + (m * two(q) + m2 * two(q2)) / 2
            told = ("holds",) if found is None else ("fails", exact_from(Fraction(found)))
            self.assertEqual(house_question(chain, chain2), told)
            self.assertEqual(house_question(chain2, chain), told)

    def test_houses_that_hold(self):
        for form, mode in [(TINY, "even"), (TINY, "zero"), ((3, -2, 1), "away"), (GREAT, "even"), ((24, -149, 104), "up")]:
            p, lo, hi = form
            self.assertEqual(house_question(((form, mode), (form, mode)), ((form, mode),)), ("holds",))
            if p + 2 <= 140 and lo > -599:
                finer = (p + 2, lo - 2, hi)
                self.assertEqual(house_question(((finer, "odd"), (form, mode)), ((form, mode),)), ("holds",))
        self.assertEqual(house_question(((TINY, "zero"),), ((TINY, "down"),)), ("holds",))

    def test_great_formats(self):
        goal = (138, -598, 600)
        short = ((goal, "even"),)
        self.assertEqual(house_question(((GREAT, "odd"), (goal, "even")), short), ("holds",))
        for mode in MODES:
            chain = ((GREAT, mode), (goal, "even"))
            told = house_question(chain, short)
            if mode != "odd":
                self.assertTrue(runs_unlike(chain, short, told[1]))
        self.assertEqual(house_question(((GREAT, "even"), (goal, "even")), short), ("fails", (9, 1 << 602, 1)))
        self.assertEqual(gaps_at(((GREAT, "even"), (goal, "even")), short, 0)[0], -137)
        self.assertEqual(last_gaps(((GREAT, "even"), (goal, "even")), short), [(((1 << 141) - 5, 597, 0), ((1 << 139) - 1, 599, 0))])

    def test_only_the_last_gap(self):
        for chain, chain2, z in [((((2, 1, 2), "down"),), (((4, 1, 3), "down"), ((2, 1, 2), "even")), (15, 1, 1)),
                                 ((((5, 1, 1), "up"), ((3, 1, 1), "odd")), (((3, 1, 1), "up"),), (15, 1, 1)),
                                 ((((2, 1, 1), "away"),), (((6, 1, 1), "away"), ((2, 1, 1), "zero")), (15, 2, 1))]:
            self.assertEqual(house_question(chain, chain2), ("fails", z))
            self.assertEqual(gap_of(chain, chain2, z)[0], "last")


def runs_unlike(chain, chain2, exact):
    return not alike(run_chain(chain, exact)[0], run_chain(chain2, exact)[0])


class TestChecks(unittest.TestCase):
    def test_unfair_chains_and_unlike_goals(self):
        calls = [lambda a, b: low_gap(a, b), lambda a, b: gaps_at(a, b, None), lambda a, b: last_gaps(a, b),
                 lambda a, b: gap_of(a, b, None), lambda a, b: house_question(a, b)]
        for call in calls:
            for wrong in UNFAIR:
                same = ((wrong[-1][0], "even"),)
                assert_refused(self, BadChain, call, wrong, same)
                assert_refused(self, BadChain, call, same, wrong)
            assert_refused(self, BadChain, call, ONE, ((WIDE, "even"),))
            assert_refused(self, BadChain, call, ONE, None)
            assert_refused(self, BadChain, call, None, ONE)
        assert_refused(self, BadExact, gap_of, ONE, FINER, None)
        assert_refused(self, BadCount, gaps_at, ONE, FINER, None)
