import random
import unittest
from fractions import Fraction

from everyrounding.chains import run_chain
from everyrounding.errors import BadChain, BadFamily
from everyrounding.families import family_size, numbers_family, texts_family, times
from everyrounding.floorsums import floor_sum
from everyrounding.formats import many, unit_power
from everyrounding.gaps import gap_of, gaps_at, last_gaps, low_gap
from everyrounding.residues import count_residues, residue_rows, residues_none
from everyrounding.through import count_through, pieces, through_paper_holds, through_question
from everyrounding.values import alike
from tests.houses import LAST_GAPS, PAIRS, TINY, WIDE, lies_in, over_of, random_pairs
from tests.oracle import MODES, assert_refused, exact_from, two

ONE = ((TINY, "even"),)
FINER = ((WIDE, "even"), (TINY, "even"))
FAMILY = ((0, 1, 100, 1, 99),)


def value_at(series, m):
    s, t, d, _, _ = series
    return Fraction(s + t * m, d)


def walked(chain, chain2, family):
    """Place and m of all unlike members of the house, in order."""
    return [(place, m) for place, series in enumerate(family) for m in range(series[3], series[4] + 1)
            if value_at(series, m) < over_of(chain) and
            not alike(run_chain(chain, exact_from(value_at(series, m)))[0], run_chain(chain2, exact_from(value_at(series, m)))[0])]


def told_pieces(chain, chain2, family):
    """The pieces by [35], the members found by walking."""
    p, lo, hi = chain[-1][0]
    last, over, found = hi + p - 1, over_of(chain), []
    for place, series in enumerate(family):
        s, t, d, a, b = series
        values = {m: value_at(series, m) for m in range(a, b + 1)}
        inside = [m for m in values if lies_in(values[m], low_gap(chain, chain2))]
        if inside:
            found.append((place, "low", lo - 1, 0, inside[0], inside[-1]))
        for E in range(lo, last + 1):
            U, gaps = gaps_at(chain, chain2, E)
            v = min(unit_power(form, E) for form, _ in chain + chain2)
            end = two(E + 1) if E < last else over - two(U)
            stretch = [m for m in values if two(E) <= values[m] < end]
            for h in (0, 1):
                if (h == 0 and E == lo) or (h == 1 and E == last and U > hi + p - 3) or not stretch:
                    continue
                (m, q, e), (m2, q2, e2) = gaps[h]
                x, x2 = m * two(q), m2 * two(q2)
                if (x, e) < (x2, e2):
                    g = max(0, 1 - v)
                    found.append((place, "in", E, h, stretch[0], stretch[-1], t * 2 ** g, s * 2 ** g, int(two(U + 1 + g) * d),
                                  int(x * two(g) * d) + e, int(x2 * two(g) * d) + e2))
        for at, gap in enumerate(last_gaps(chain, chain2)):
            inside = [m for m in values if lies_in(values[m], gap)]
            if inside:
                found.append((place, "last", last, at, inside[0], inside[-1]))
    return found


def families_for(chain, chain2, seed):
    """Small families over the house of a goal: fine and coarse steps, members below least and beyond over."""
    picker = random.Random(seed)
    over = over_of(chain)
    low = min(form[1] for form, _ in chain + chain2)
    found = [((0, 1, 2 ** picker.randint(0, 3) * (4 if low < 0 else 1), 1, 60),)]
    for _ in range(2):
        d = picker.randint(1, 40)
        t = picker.randint(1, max(1, int(d * over / 30)))
        a = picker.randint(-5, 5)
        s = picker.randint(1, 3) - t * a
        found.append(((s, t, d, a, a + picker.randint(0, 70)), (1, 3, 7, 0, 20)))
    return found


class TestAgainstWalking(unittest.TestCase):
    def check(self, chain, chain2, family):
        unlike = walked(chain, chain2, family)
        told = pieces(chain, chain2, family)
        self.assertEqual(told, told_pieces(chain, chain2, family))
        self.assertEqual(count_through(chain, chain2, family), len(unlike), (chain, chain2, family))
        self.check_pieces(chain, chain2, family, told, unlike)
        answer = through_question(chain, chain2, family)
        if unlike:
            self.assertEqual(answer, ("fails",) + unlike[0])
        else:
            self.assertEqual(answer, ("holds", [residue_rows(*piece[6:], piece[4], piece[5]) for piece in told]))
            self.assertIs(through_paper_holds(chain, chain2, family, answer[1]), True)

    def check_pieces(self, chain, chain2, family, told, unlike):
        """The members that each piece tells are just the unlike ones of its gap."""
        counted = []
        for piece in told:
            place, kind, E, h, a, b = piece[:6]
            if kind == "in":
                A, B, M, l, r = piece[6:]
                self.assertTrue(0 <= l <= r <= M)
                inside = [m for m in range(a, b + 1) if l <= (A * m + B) % M < r]
                self.assertEqual(count_residues(A, B, M, l, r, a, b), len(inside))
            else:
                inside = list(range(a, b + 1))
            for m in inside:
                self.assertEqual(gap_of(chain, chain2, exact_from(value_at(family[place], m))), (kind, E, h))
            counted += [(place, m) for m in inside]
        self.assertEqual(sorted(counted), unlike)

    def test_told_pairs(self):
        for at, (chain, chain2) in enumerate(PAIRS):
            for family in families_for(chain, chain2, at):
                self.check(chain, chain2, family)
                self.check(chain2, chain, family)

    def test_random_pairs(self):
        for at, (chain, chain2) in enumerate(random_pairs(21, 60)):
            for family in families_for(chain, chain2, 100 + at)[1:]:
                self.check(chain, chain2, family)

    def test_every_sort_of_last_gap(self):
        for chain, chain2, gaps in LAST_GAPS:
            p, lo, hi = chain[-1][0]
            over = over_of(chain)
            d = 64
            top = int(over * d)
            family = ((0, 1, d, top - 300, top + 9),)
            self.check(chain, chain2, family)
            told = {piece[3] for piece in pieces(chain, chain2, family) if piece[1] == "last"}
            self.assertLessEqual(told, set(range(len(gaps))))


class TestTold(unittest.TestCase):
    def test_example(self):
        wide = (((3, -3, 1), "even"), ((2, -2, 1), "even"))
        self.assertEqual(through_question(wide, (((2, -2, 1), "even"),), FAMILY), ("fails", 0, 13))

    def test_pieces(self):
        told = [(0, "low", -1, 0, 5, 5), (0, "in", 0, 1, 8, 15, 4, 0, 64, 41, 48), (0, "in", 1, 0, 16, 31, 4, 0, 64, 17, 24),
                (0, "in", 1, 1, 16, 31, 4, 0, 64, 41, 48), (0, "in", 2, 0, 32, 63, 2, 0, 64, 17, 24),
                (0, "in", 2, 1, 32, 63, 2, 0, 64, 41, 48), (0, "in", 3, 0, 64, 95, 1, 0, 64, 17, 24),
                (0, "last", 3, 0, 105, 111)]
        self.assertEqual(pieces(FINER, ONE, ((0, 1, 8, 1, 200),)), told)
        self.assertEqual(pieces(ONE, FINER, ((0, 1, 8, 1, 200),)), told)
        told = [(1, "in", 3, 0, 64, 95, 1, 0, 64, 17, 24), (1, "last", 3, 0, 105, 106), (2, "low", -1, 0, 5, 5)]
        self.assertEqual(pieces(FINER, ONE, ((0, 16, 1, 1, 1), (0, 1, 8, 64, 106), (0, 1, 8, 4, 7))), told)

    def test_empty_residues_are_told(self):
        # The gap holds no number in units 1/d, so l and r are equal; the piece is told all the same.
        found = []
        for chain, chain2 in PAIRS + random_pairs(22, 40):
            for family in (((0, 1, 1, 1, 40),), ((0, 1, 2, 1, 40),)):
                found += [piece for piece in pieces(chain, chain2, family) if piece[1] == "in" and piece[9] == piece[10]]
        self.assertTrue(found)
        for piece in found:
            self.assertEqual(count_residues(*piece[6:], piece[4], piece[5]), 0)

    def test_members_outside_of_the_house(self):
        for family in [((0, 16, 1, 1, 9),), ((1 << 2999, 1, 1, 0, 1 << 139),), ((16, 1, 1, 0, 0), (300, 1, 3, 0, 9))]:
            self.assertEqual(pieces(FINER, ONE, family), [])
            self.assertEqual(count_through(FINER, ONE, family), 0)
            self.assertEqual(through_question(FINER, ONE, family), ("holds", []))
            self.assertIs(through_paper_holds(FINER, ONE, family, []), True)
        self.assertEqual(count_through(((TINY, "zero"),), ((TINY, "up"),), ((0, 1, 10, 159, 161),)), 1)

    def test_the_least_member_over_both_gaps_of_a_power(self):
        chain, chain2 = ((TINY, "zero"),), ((TINY, "up"),)
        for a in range(17, 32):
            family = ((0, 1, 8, a, 31),)
            told = through_question(chain, chain2, family)
            self.assertEqual(told, ("fails", 0, walked(chain, chain2, family)[0][1]))
        self.assertEqual(through_question(chain, chain2, ((0, 1, 8, 21, 31), (0, 1, 8, 1, 9))), ("fails", 0, 21))
        # With three digits the two gaps take turns twice in a power: the second one's member can be the first.
        chain, chain2 = (((3, 0, 2), "zero"),), (((3, 0, 2), "up"),)
        for d in (2, 8):
            for a in range(8 * d, 16 * d):
                family = ((0, 1, d, a, 16 * d),)
                self.assertEqual(through_question(chain, chain2, family), ("fails", 0, walked(chain, chain2, family)[0][1]))
        self.assertEqual(through_question(chain, chain2, ((0, 1, 1, 1, 4), (0, 1, 8, 8, 8), (0, 1, 8, 30, 40))), ("fails", 2, 30))

    def test_members_occur_more_than_once(self):
        family = ((0, 1, 8, 1, 100),) * 3
        self.assertEqual(count_through(FINER, ONE, family), 3 * count_through(FINER, ONE, family[:1]))
        self.assertEqual([piece[0] for piece in pieces(FINER, ONE, family)], sorted(piece[0] for piece in pieces(FINER, ONE, family)))


class TestPapers(unittest.TestCase):
    def held(self):
        """Questions that hold, with their papers, which are not empty."""
        found = []
        for at, (chain, chain2) in enumerate(PAIRS + random_pairs(23, 60)):
            for family in families_for(chain, chain2, 300 + at) + [((0, 1, 1, 1, 9),), ((0, 1, 2, 1, 9), (0, 1, 1, 1, 3))]:
                answer = through_question(chain, chain2, family)
                if answer[0] == "holds" and answer[1]:
                    found.append((chain, chain2, family, answer[1]))
        return found

    def test_right_and_bent(self):
        held = self.held()
        self.assertGreater(len(held), 10)
        for chain, chain2, family, paper in held:
            self.assertIs(through_paper_holds(chain, chain2, family, paper), True)
            for wrong in [None, True, 0, "paper", (), tuple(paper), paper[1:], paper + paper[:1], [None] + paper[1:], [[]] + paper[1:],
                          [list(paper[0])] + paper[1:], [(paper[0][0],)] + paper[1:]]:
                self.assertIs(through_paper_holds(chain, chain2, family, wrong), False, wrong)
            low, high = paper[0]
            if low != high:
                self.assertIs(through_paper_holds(chain, chain2, family, [(high, low)] + paper[1:]), False)
            for at, row in enumerate(low):
                for part in range(5):
                    bent = low[:at] + [row[:part] + (row[part] + 1,) + row[part + 1:]] + low[at + 1:]
                    self.assertIs(through_paper_holds(chain, chain2, family, [(bent, high)] + paper[1:]), False)

    def test_longer_rows_are_taken(self):
        found = 0
        for chain, chain2, family, paper in self.held():
            low, high = paper[-1]
            N, M, A, B, S = high[-1]
            Y = (A % M * N + B % M) // M
            if Y > 0:
                after = (Y, A % M, M, M - B % M + A % M - 1)
                found += 1
                self.assertIs(through_paper_holds(chain, chain2, family, paper[:-1] + [(low, high + [after + (floor_sum(*after),)])]), True)
        self.assertGreater(found, 0)

    def test_no_paper_for_unlike_members(self):
        for chain, chain2 in PAIRS:
            family = ((0, 1, 8, 1, 100),)
            told = pieces(chain, chain2, family)
            if count_through(chain, chain2, family) > 0:
                inner = [piece for piece in told if piece[1] == "in"]
                paper = [residue_rows(*piece[6:], piece[4], piece[5]) for piece in inner]
                self.assertIs(through_paper_holds(chain, chain2, family, paper), False)

    def test_a_low_or_last_piece_has_no_paper(self):
        family = ((0, 1, 8, 5, 5),)
        self.assertEqual(pieces(FINER, ONE, family), [(0, "low", -1, 0, 5, 5)])
        for paper in ([], [None], [([], [])]):
            self.assertIs(through_paper_holds(FINER, ONE, family, paper), False)


class TestGreat(unittest.TestCase):
    def test_great_families(self):
        form, inner = (53, -600, 600), (64, -600, 600)
        chain, chain2 = ((inner, "even"), (form, "even")), ((form, "even"),)
        n = many(form)
        parts = times(numbers_family(form, n - (1 << 57), n), 1, (1 << 53) - 1)
        self.assertGreater(family_size(parts), 1 << 56)
        told = through_question(chain, chain2, parts)
        self.assertEqual(told[0], "fails")
        exact = exact_from(value_at(parts[told[1]], told[2]))
        self.assertFalse(alike(run_chain(chain, exact)[0], run_chain(chain2, exact)[0]))
        # 2^52 + j by 2^53 - 1 lies just above a half; for small even j the digits behind it are lost on the way.
        self.assertGreater(count_through(chain, chain2, parts), 1 << 44)
        halves = times(numbers_family(form, n - (1 << 57), n), 1, 2)
        answer = through_question(chain, chain2, halves)
        self.assertEqual(answer[0], "holds")
        self.assertIs(through_paper_holds(chain, chain2, halves, answer[1]), True)

    def test_division_by_three_through_more_digits(self):
        form, inner = (24, -149, 104), (53, -600, 600)
        chain, chain2 = ((inner, "even"), (form, "even")), ((form, "even"),)
        n = many(form)
        thirds = times(numbers_family(form, n - (60 << 23), n), 1, 3)
        answer = through_question(chain, chain2, thirds)
        self.assertEqual(answer[0], "holds")
        self.assertGreater(len(answer[1]), 60)
        self.assertIs(through_paper_holds(chain, chain2, thirds, answer[1]), True)
        self.assertEqual(count_through(chain, chain2, thirds), 0)
        for piece, paper in zip(pieces(chain, chain2, thirds), answer[1]):
            self.assertIs(residues_none(paper, *piece[6:], piece[4], piece[5]), True)

    def test_texts(self):
        form, inner = (24, -149, 104), (53, -600, 600)
        chain, chain2 = ((inner, "even"), (form, "even")), ((form, "even"),)
        family = texts_family(6, -10, 10)
        self.assertEqual(through_question(chain, chain2, family)[0], "holds")
        told = through_question(chain, chain2, texts_family(17, -10, 10))
        self.assertEqual(told[0], "fails")

    def test_widest_formats(self):
        goal = (100, -600, 600)
        chain, chain2 = (((120, -600, 600), "even"), (goal, "even")), ((goal, "even"),)
        family = tuple((0, (1 << k) + 1, 3 << 600, 1, (1 << 140) - 1) for k in range(8))
        self.assertEqual(through_question(chain, chain2, family)[0], "fails")
        self.assertGreater(count_through(chain, chain2, family), 1 << 100)
        for mode in MODES:
            self.assertEqual(count_through(((goal, mode), (goal, mode)), ((goal, mode),), family), 0)


class TestChecks(unittest.TestCase):
    def test_order(self):
        calls = [pieces, count_through, through_question, lambda a, b, c: through_paper_holds(a, b, c, None)]
        unfair = ((TINY, "even"), (WIDE, "even"))
        for call in calls:
            assert_refused(self, BadChain, call, None, ONE, None)
            assert_refused(self, BadChain, call, ONE, None, None)
            assert_refused(self, BadChain, call, unfair, ((WIDE, "even"),), None)
            assert_refused(self, BadChain, call, ((WIDE, "even"),), unfair, None)
            assert_refused(self, BadChain, call, ONE, ((WIDE, "even"),), FAMILY)
            for wrong in (None, (), [FAMILY[0]], FAMILY * 65, FAMILY[0], ((0, 1, 1, 0, 1),), (FAMILY[0], None)):
                assert_refused(self, BadFamily, call, ONE, FINER, wrong)
