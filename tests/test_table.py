import random
import unittest
from fractions import Fraction

from everyrounding.chains import pulled_cut, run_chain
from everyrounding.cuts import cut_at, cut_less, inner_point
from everyrounding.errors import BadFormat, BadMode
from everyrounding.formats import many
from everyrounding.seats import rank
from everyrounding.table import table_holds, table_question
from everyrounding.values import alike
from tests.houses import slow_number
from tests.oracle import MIRROR, MODES, TINY, assert_refused, exact_from, positives, two

FIVE = MODES[:5]


def told_condition(form, r, inner, s):
    """The condition of [30], row by row."""
    p, lo, hi = form
    P, low, high = inner
    d = min(P - p, lo - low)
    same = low == lo and (P == p or (hi == lo and P >= p))
    rows = {"zero": (s == "zero" and d >= 0) or (s == "odd" and d >= 1), "up": (s == "up" and d >= 0) or (s == "odd" and d >= 1),
            "down": (s == "down" and d >= 0) or (s == "odd" and d >= 1), "even": (s == "odd" and d >= 2) or (s == "even" and same),
            "away": (s == "zero" and d >= 1) or (s == "odd" and d >= 2) or (s == "away" and same)}
    return high + P >= hi + p and rows[r]


def unlike(form, r, inner, s, value):
    """True if the two roundings of the claim give unlike numbers for a fraction of either sign."""
    exact = exact_from(Fraction(value))
    return not alike(run_chain(((inner, s), (form, r)), exact)[0], run_chain(((form, r),), exact)[0])


def steps(form, inner):
    """Sizes at all numbers and halves of both formats, and just beside these."""
    sizes = sorted({Fraction(0)} | set(positives(form)) | set(positives(inner)))
    tops = [two(each[2] + each[0]) for each in (form, inner)]
    sizes = sorted(set(sizes + tops + [2 * top for top in tops]))
    points = set(sizes) | {(low + high) / 2 for low, high in zip(sizes, sizes[1:])}
    eps = two(-40)
    points |= {point + step for point in points for step in (-eps, eps)}
    return sorted(point for point in points if point > 0)


def tried(form, r, inner, s):
    """The witness that [30] tells for positive sizes, None if there is none."""
    p, lo, hi = form
    n = many(form)
    ranks = [0, 1, n - 1, n]
    for E in range(lo, hi + p):
        i = rank(form, (0, 1, E))
        ranks += [i, i + 1]
    for j in ranks:
        cuts = [cut_at(form, j, mode=r), pulled_cut(((inner, s), (form, r)), j)]
        if cuts[0] != cuts[1]:
            if cut_less(cuts[1], cuts[0]):
                cuts.reverse()
            return inner_point(*cuts)
    return None


def pairs(seed, count):
    picker = random.Random(seed)
    for _ in range(count):
        lo = picker.randint(-2, 1)
        form = (picker.randint(2, 4), lo, lo + picker.choice([0, 0, 1, 2]))
        low = lo + picker.choice([-3, -2, -1, -1, 0, 0, 0, 1])
        P = form[0] + picker.choice([-1, 0, 0, 1, 2, 3])
        high = max(low, form[2] + form[0] - P + picker.choice([-1, 0, 0, 0, 1, 2]))
        yield form, (max(P, 2), low, high)


class TestHolds(unittest.TestCase):
    def test_condition(self):
        for form, inner in pairs(1, 1500):
            for r in FIVE:
                for s in MODES:
                    self.assertIs(table_holds(form, r, inner, s), told_condition(form, r, inner, s), (form, r, inner, s))

    def test_against_running(self):
        for form, inner in pairs(2, 80):
            values = [sign * value for sign in (1, -1) for value in steps(form, inner)]
            for r in FIVE:
                for s in MODES:
                    found = any(unlike(form, r, inner, s, value) for value in values)
                    self.assertIs(table_holds(form, r, inner, s), not found, (form, r, inner, s))

    def test_bounds_of_the_digits(self):
        form = (24, -149, 104)
        for finer, least_ok in [(0, {"zero": 0, "up": 0, "down": 0}), (1, {}), (2, {})]:
            inner = (24 + finer, -149 - finer, 104 - finer)
            for r in FIVE:
                self.assertIs(table_holds(form, r, inner, "odd"), finer >= (2 if r in ("even", "away") else 1))
                if r in least_ok:
                    self.assertIs(table_holds(form, r, inner, r), True)
            self.assertIs(table_holds(form, "away", inner, "zero"), finer >= 1)
            self.assertIs(table_holds(form, "even", inner, "even"), finer == 0)
            self.assertIs(table_holds(form, "away", inner, "away"), finer == 0)
        self.assertIs(table_holds(form, "zero", (140, -148, 600), "zero"), False)
        self.assertIs(table_holds(form, "zero", (23, -600, 600), "zero"), False)

    def test_same(self):
        for form, inner, told in [((3, 0, 0), (3, 0, 0), True), ((3, 0, 0), (5, 0, 0), True), ((3, 0, 1), (5, 0, 0), False),
                                  ((3, 0, 1), (3, 0, 4), True), ((3, 0, 0), (5, -1, 0), False), ((3, 0, 0), (3, -1, 0), False),
                                  ((3, 0, 0), (2, 0, 1), False)]:
            for r in ("even", "away"):
                self.assertIs(table_holds(form, r, inner, r), told, (form, inner))

    def test_reach(self):
        form = (3, 0, 2)
        self.assertIs(table_holds(form, "zero", (4, -1, 1), "zero"), True)
        self.assertIs(table_holds(form, "zero", (4, -1, 0), "zero"), False)
        self.assertIs(table_holds(form, "even", (6, -4, -1), "odd"), True)
        self.assertIs(table_holds(form, "even", (6, -4, -2), "odd"), False)


class TestQuestion(unittest.TestCase):
    def check(self, form, r, inner, s):
        told = table_question(form, r, inner, s)
        if told_condition(form, r, inner, s):
            self.assertEqual(told, ("holds",))
            return
        z = tried(form, r, inner, s)
        if z is None:
            n, d, k = tried(form, MIRROR.get(r, r), inner, MIRROR.get(s, s))
            z = (-n, d, k)
        self.assertEqual(told, ("fails", z))
        chains = [((inner, s), (form, r)), ((form, r),)]
        first, second = [slow_number(chain, z) for chain in chains]
        self.assertFalse(alike(first, second), (form, r, inner, s, z))

    def test_witnesses_run(self):
        for form, inner in pairs(3, 120):
            for r in FIVE:
                for s in MODES:
                    self.check(form, r, inner, s)

    def test_mirrored_witness(self):
        told = set()
        for form, inner in pairs(4, 60):
            for s in MODES:
                answer = table_question(form, "zero", inner, s)
                told.add(answer[0] if answer[0] == "holds" else answer[1][0] < 0)
        # Between zero and down only sizes below zero can tell the two ways apart.
        self.assertEqual(told, {"holds", True, False})
        self.assertEqual(table_question(TINY, "zero", TINY, "down"), ("fails", (-1, 2, 1)))
        self.assertEqual(table_question(TINY, "down", TINY, "zero"), ("fails", (-1, 2, 1)))
        self.assertEqual(table_question(TINY, "zero", TINY, "up"), ("fails", (1, 2, 1)))

    def test_great_formats(self):
        form = (53, -598, 548)
        for inner in [(53, -598, 548), (55, -600, 546), (54, -599, 547), (140, -600, 600), (113, -600, 488), (113, -600, 487)]:
            for r in FIVE:
                for s in MODES:
                    told = table_question(form, r, inner, s)
                    self.assertEqual(told == ("holds",), told_condition(form, r, inner, s))
                    if told[0] == "fails":
                        z = tried(form, r, inner, s)
                        self.assertIn(told[1], [z] if z is not None else [told[1]])

    def test_overflow_of_the_inner_format(self):
        self.check((3, 0, 2), "zero", (4, -1, 0), "zero")
        self.check((3, 0, 2), "away", (6, -4, -2), "zero")
        self.assertEqual(table_question((3, 0, 2), "zero", (4, -1, 0), "zero"), ("fails", (56, 1, 1)))


class TestChecks(unittest.TestCase):
    def test_order(self):
        for call in (table_holds, table_question):
            assert_refused(self, BadFormat, call, None, "odd", None, None)
            assert_refused(self, BadMode, call, TINY, "odd", None, None)
            assert_refused(self, BadFormat, call, TINY, "even", (1, 0, 0), None)
            assert_refused(self, BadMode, call, TINY, "even", TINY, "nearest")
            for mode in MODES:
                self.assertEqual(call(TINY, "even", TINY, mode) in (True, ("holds",)), mode == "even")
