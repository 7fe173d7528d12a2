import random
import unittest
from fractions import Fraction

from everyrounding.decread import read
from everyrounding.decwrite import figures_text
from everyrounding.errors import BadCount, BadFormat, BadMode, BadNumber, NotAsked
from everyrounding.floorsums import floor_sum
from everyrounding.formats import many
from everyrounding.residues import count_residues, residue_rows
from everyrounding.seats import at_rank
from everyrounding.trips import enough_figures, least_figures, trip, trip_count, trip_paper_holds, trip_pieces, trip_question
from tests.oracle import INF, MINUS_ZERO, NAN, TINY, ZERO, assert_refused, two

FIVE = ("even", "away", "zero", "up", "down")
NEARS = ("even", "away")
PAIRS = [(writer, reader) for writer in FIVE for reader in FIVE]
FORMS = [TINY, (4, 0, 3), (3, -4, -2), (5, -7, -6), (4, -3, 1), (2, 5, 9), (6, 2, 2), (3, -1, 4)]


def ten(k):
    return Fraction(10) ** k


def failing(form, count, i, j, writer, reader):
    """The ranks that do not come back, by running each."""
    return [k for k in range(i, j + 1) if not trip(form, count, at_rank(form, k), writer=writer, reader=reader)[2]]


class TestTrip(unittest.TestCase):
    def test_against_writing_and_reading(self):
        for form in FORMS:
            for writer, reader in PAIRS:
                for count in (1, 2, 3):
                    for i in range(1, many(form) + 1, 3):
                        x = at_rank(form, i)
                        text = figures_text(x, count, five=writer)[0]
                        number = read(form, text, mode=reader)[0]
                        self.assertEqual(trip(form, count, x, writer=writer, reader=reader), (text, number, number == x))

    def test_examples(self):
        self.assertEqual(trip((4, 0, 3), 2, (0, 13, 3)), ("10e1", (0, 3, 5), False))
        self.assertEqual(trip((4, 0, 3), 2, (0, 13, 3), writer="away"), ("10e1", (0, 3, 5), False))
        self.assertEqual(trip((4, 0, 3), 3, (0, 13, 3)), ("104e0", (0, 13, 3), True))
        self.assertEqual(trip(TINY, 1, (0, 3, 2), reader="up", writer="up"), ("2e1", INF, False))
        self.assertEqual(trip(TINY, 60, (0, 1, 0))[0], "1" + 59 * "0" + "e-59")
        self.assertEqual(trip((140, -600, 600), 1, (0, 1, -600)), ("2e-181", (0, 1, -600), True))

    def test_wrong_arguments(self):
        for x in (ZERO, MINUS_ZERO, INF, NAN, (1, 1, 0), (0, 5, 0), (0, 1, 4), (0, 1, -1), None, True, (0, 2, 0), [0, 1, 0]):
            assert_refused(self, BadNumber, trip, TINY, 1, x, writer=None, reader=None)
        for count in (0, 61, -1, True, None, "1"):
            assert_refused(self, BadCount, trip, TINY, count, None, writer=None, reader=None)
        assert_refused(self, BadFormat, trip, None, None, None, reader=None)
        for wrong in ("odd", "x", None, True, ["even"]):
            assert_refused(self, BadMode, trip, TINY, 1, (0, 1, 0), writer=wrong)
            assert_refused(self, BadMode, trip, TINY, 1, (0, 1, 0), reader=wrong)


def table_row(mode, V, W, b, c):
    """u, al and r of the table of [39]."""
    return {"zero": (V, 1, V - W + 1), "down": (V, 1, V - W + 1), "up": (1, W, V), "away": (V // 2, W // 2 + 1, V - W // 2 + 1),
            "even": (V // 2 + 1 - c, W // 2 + 1 - b, V - W // 2 + b)}[mode]


def slow_pieces(form, D, i, j, writer, reader):
    """Single ranks and pieces by [39], going through all ranks."""
    p, lo, hi = form
    top, half = 2 ** p - 1, 2 ** (p - 1)
    units = {}
    for rank in range(i, j + 1):
        value = at_rank(form, rank)[1] * two(at_rank(form, rank)[2])
        q = lo
        while value / two(q) > top:
            q += 1
        units.setdefault(q, []).append((int(value / two(q)), rank))
    singles, pieces = [], []
    for q in sorted(units):
        others = []
        for m, rank in units[q]:
            if (m == half and q > lo) or (m == top and q == hi):
                singles.append(rank)
            else:
                others.append(m)
        e = max(0, 1 - q)
        for b in (0, 1):
            for t in range(-8, 8):
                inside = [m // 2 for m in others if m % 2 == b and ten(t) <= m * two(q) < ten(t + 1)] if others else []
                if not inside:
                    continue
                k = t - D + 1
                f = max(0, -k)
                W, V = int(two(q + e + 1) * ten(f)), int(ten(k + f) * two(e + 1))
                for c in (0, 1):
                    u = table_row(writer, V, W, b, c)[0]
                    _, al, r = table_row(reader, V, W, b, c)
                    for side, low, high in [("low", c * V + al, c * V + u), ("high", c * V + u, c * V + r)]:
                        if low < high:
                            pieces.append((q, t, b, c, side, inside[0], inside[-1], 2 * W, b * W, 2 * V, low, high))
    return (singles, pieces)


class TestPieces(unittest.TestCase):
    def test_told_order_and_integers(self):
        for form in FORMS:
            n = many(form)
            for at, (writer, reader) in enumerate(PAIRS):
                for count, i, j in [(1, 1, n), (2, 1, n), (2, n // 3 + 1, n), (3, 2, 2 * n // 3 + 2), (1, n, n), (2, 1, 1)]:
                    told = trip_pieces(form, count, i, j, writer=writer, reader=reader)
                    self.assertEqual(told, slow_pieces(form, count, i, j, writer, reader), (form, count, i, j, writer, reader))
                    self.assertTrue(type(told[0]) is list and type(told[1]) is list)
                    for piece in told[1]:
                        self.assertTrue(0 <= piece[10] < piece[11] <= piece[9] and 0 <= piece[5] <= piece[6])

    def test_single_numbers(self):
        # In (3, -1, 2) the single ranks are those of 4 * 2^q for q = 0, 1, 2, and top.
        self.assertEqual(trip_pieces((3, -1, 2), 2, 1, 19)[0], [8, 12, 16, 19])
        self.assertEqual(trip_pieces((3, -1, 2), 2, 9, 15)[0], [12])
        self.assertEqual(trip_pieces((3, -1, 2), 2, 12, 12), ([12], []))
        self.assertEqual(trip_pieces((3, -1, 2), 2, 19, 19), ([19], []))
        self.assertEqual(trip_pieces((3, 2, 2), 2, 1, 7)[0], [7])
        self.assertEqual(trip_pieces((2, 0, 0), 1, 1, 3)[0], [3])


class TestClaims(unittest.TestCase):
    def check(self, form, count, i, j, writer, reader):
        """Compare counts, answers and papers with running every rank; True if the claim holds."""
        bad = failing(form, count, i, j, writer, reader)
        self.assertEqual(trip_count(form, count, i, j, writer=writer, reader=reader), len(bad), (form, count, i, j, writer, reader))
        told = trip_question(form, count, i, j, writer=writer, reader=reader)
        if bad:
            self.assertEqual(told, ("fails", bad[0]))
            return False
        singles, pieces = trip_pieces(form, count, i, j, writer=writer, reader=reader)
        paper = [residue_rows(*piece[7:], piece[5], piece[6]) for piece in pieces]
        self.assertEqual(told, ("holds", paper))
        self.assertIs(trip_paper_holds(form, count, i, j, paper, writer=writer, reader=reader), True)
        return True

    def test_all_pairs_of_modes(self):
        held = failed = 0
        for form in FORMS:
            n = many(form)
            for writer, reader in PAIRS:
                for count in (1, 2, 3, 4):
                    if self.check(form, count, 1, n, writer, reader):
                        held += 1
                    else:
                        failed += 1
        self.assertGreater(min(held, failed), 100)

    def test_ranges(self):
        picker = random.Random(39)
        for _ in range(500):
            lo = picker.randint(-14, 9)
            form = (picker.randint(2, 7), lo, lo + picker.randint(0, 5))
            i = picker.randint(1, many(form))
            j = picker.randint(i, min(many(form), i + 40))
            self.check(form, picker.randint(1, 5), i, j, picker.choice(FIVE), picker.choice(FIVE))

    def test_defaults(self):
        for call in (trip_count, trip_pieces):
            self.assertEqual(call((4, 0, 3), 2, 1, 39), call((4, 0, 3), 2, 1, 39, writer="even", reader="even"))
            self.assertNotEqual(call((4, 0, 3), 2, 1, 39), call((4, 0, 3), 2, 1, 39, writer="up"))
            self.assertNotEqual(call((4, 0, 3), 2, 1, 39), call((4, 0, 3), 2, 1, 39, reader="down"))

    def test_great_formats(self):
        for form, count, holds in [((24, -149, 104), 9, True), ((24, -149, 104), 8, False), ((53, -600, 600), 17, True), ((53, -600,
                    600), 16, False)]:
            n = many(form)
            i = n - (50 << (form[0] - 1))
            told = trip_question(form, count, i, n)
            self.assertEqual(told[0], "holds" if holds else "fails")
            if holds:
                self.assertIs(trip_paper_holds(form, count, i, n, told[1]), True)
            else:
                self.assertFalse(trip(form, count, at_rank(form, told[1]))[2])
                self.assertEqual(trip_count(form, count, i, told[1]), 1)
                self.assertGreater(trip_count(form, count, i, n), 1000)

    def test_held_by_counting_alone(self):
        # Nine figures are enough for 24 digits; 8 are enough for some powers, which counting alone can tell.
        form = (24, -149, 104)
        first = (149 + 10) << 23
        told = trip_question(form, 8, first, first + (1 << 23) - 1)
        self.assertEqual(told[0], "holds" if trip_count(form, 8, first, first + (1 << 23) - 1) == 0 else "fails")
        wide = trip_question((10, -3, 3), 4, 1, many((10, -3, 3)), writer="zero", reader="up")
        self.assertEqual(wide[0], "holds" if not failing((10, -3, 3), 4, 1, many((10, -3, 3)), "zero", "up") else "fails")


class TestPapers(unittest.TestCase):
    def held(self):
        for form in FORMS + [(7, -3, 0)]:
            n = many(form)
            for writer, reader in PAIRS:
                for count in (2, 3):
                    for i, j in [(1, n), (n // 2 + 1, n), (n // 3 + 1, n // 2 + 1)]:
                        told = trip_question(form, count, i, j, writer=writer, reader=reader)
                        if told[0] == "holds" and told[1]:
                            yield (form, count, i, j), told[1], {"writer": writer, "reader": reader}

    def test_bent_papers(self):
        held = list(self.held())
        self.assertGreater(len(held), 30)
        for question, paper, modes in held:
            for wrong in [None, True, 0, "paper", (), tuple(paper), paper[1:], paper + paper[:1], [None] + paper[1:], [[]] + paper[1:],
                          [list(paper[0])] + paper[1:], [paper[0][:1]] + paper[1:]]:
                self.assertIs(trip_paper_holds(*question, wrong, **modes), False)
        for question, paper, modes in held[::7]:
            low, high = paper[0]
            for at, row in enumerate(low):
                for part in range(5):
                    bent = low[:at] + [row[:part] + (row[part] + 1,) + row[part + 1:]] + low[at + 1:]
                    self.assertIs(trip_paper_holds(*question, [(bent, high)] + paper[1:], **modes), False)

    def test_longer_rows_are_taken(self):
        found = 0
        for question, paper, modes in self.held():
            low, high = paper[-1]
            N, M, A, B, S = high[-1]
            Y = (A % M * N + B % M) // M
            if Y > 0:
                after = (Y, A % M, M, M - B % M + A % M - 1)
                found += 1
                self.assertIs(trip_paper_holds(*question, paper[:-1] + [(low, high + [after + (floor_sum(*after),)])], **modes), True)
        self.assertGreater(found, 5)

    def test_no_paper_for_failing_ranks(self):
        # The pieces alone hold here, but the single number does not come back.
        found = 0
        for form in FORMS:
            n = many(form)
            for count in (1, 2):
                singles, pieces = trip_pieces(form, count, n, n)
                if trip_count(form, count, n, n) > 0:
                    found += 1
                    self.assertEqual((singles, pieces), ([n], []))
                    self.assertIs(trip_paper_holds(form, count, n, n, []), False)
                singles, pieces = trip_pieces(form, count, 1, n)
                paper = [residue_rows(*piece[7:], piece[5], piece[6]) for piece in pieces]
                self.assertIs(trip_paper_holds(form, count, 1, n, paper), trip_count(form, count, 1, n) == 0)
        self.assertGreater(found, 3)

    def test_counts_of_pieces(self):
        for form in FORMS:
            n = many(form)
            for writer, reader in PAIRS[::3]:
                singles, pieces = trip_pieces(form, 2, 1, n, writer=writer, reader=reader)
                bad = failing(form, 2, 1, n, writer, reader)
                counted = sum(count_residues(*piece[7:], piece[5], piece[6]) for piece in pieces)
                self.assertEqual(counted, len([k for k in bad if k not in singles]))


class TestFigures(unittest.TestCase):
    def test_enough_figures(self):
        for p in range(2, 141):
            told = enough_figures(p)
            self.assertTrue(10 ** (told - 1) > 2 ** p and (told == 1 or 10 ** (told - 2) <= 2 ** p), p)
        self.assertEqual([enough_figures(p) for p in (4, 11, 24, 53)], [3, 5, 9, 17])
        for p in (1, 0, 141, -3, True, None, "2"):
            assert_refused(self, BadCount, enough_figures, p)
        for p, lo in [(2, 0), (3, -5), (5, 3), (7, -2)]:
            form = (p, lo, lo + 4)
            for near in NEARS:
                for near2 in NEARS:
                    self.assertEqual(trip_count(form, enough_figures(p), 1, many(form), writer=near, reader=near2), 0)

    def test_least_figures(self):
        picker = random.Random(4)
        for _ in range(150):
            lo = picker.randint(-9, 6)
            form = (picker.randint(2, 6), lo, lo + picker.randint(0, 4))
            i = picker.randint(1, many(form))
            j = picker.randint(i, many(form))
            for near in NEARS:
                for near2 in NEARS:
                    told = least_figures(form, i, j, near=near, near2=near2)
                    counts = [trip_count(form, count, i, j, writer=near, reader=near2) for count in range(1, told + 1)]
                    self.assertEqual(counts[-1], 0)
                    self.assertTrue(all(counts[:-1]))
        self.assertEqual(least_figures((24, -149, 104), 150 << 23, 190 << 23), 9)
        self.assertEqual(least_figures(TINY, 1, 7), least_figures(TINY, 1, 7, near="even", near2="even"))

    def test_least_figures_of_wide_formats(self):
        form = (140, -600, 600)
        told = least_figures(form, many(form) - (64 << 139) + 1, many(form))
        self.assertIn(told, (43, 44))


class TestRefusals(unittest.TestCase):
    def test_wrong_arguments(self):
        for call in (trip_pieces, trip_count, trip_question):
            self.refuse(call, ())
        self.refuse(trip_paper_holds, (None,))

    def refuse(self, call, more):
        assert_refused(self, BadFormat, call, None, 0, 0, 0, *more, writer=None, reader=None)
        for count in (0, 61, -1, True, None):
            assert_refused(self, BadCount, call, TINY, count, 1, 1, *more, writer=None, reader=None)
        for i, j in [(0, 1), (8, 8), (3, 2), (1, 8), (True, 3), (1, True), (None, 1), (-1, 1)]:
            assert_refused(self, BadCount, call, TINY, 1, i, j, *more, writer=None, reader=None)
        for wrong in ("odd", "x", None, True, ["even"]):
            assert_refused(self, BadMode, call, TINY, 1, 1, 1, *more, writer=wrong, reader="even")
            assert_refused(self, BadMode, call, TINY, 1, 1, 1, *more, reader=wrong)

    def test_unit_powers_too_far_apart(self):
        wide = (3, -200, 200)
        for i in (1, 3, 4, 9, 17):
            last = 4 * (max(i // 4, 1) + 64) + 3
            for call, more in [(trip_pieces, ()), (trip_count, ()), (trip_question, ()), (trip_paper_holds, ([],))]:
                self.assertIsNotNone(call(wide, 2, i, last, *more))
                assert_refused(self, NotAsked, call, wide, 2, i, last + 1, *more)
                assert_refused(self, NotAsked, call, wide, 2, i, many(wide), *more)
                # After all parameters.
                assert_refused(self, BadMode, call, wide, 2, i, last + 1, *more, reader="odd")
                assert_refused(self, BadCount, call, wide, 0, i, last + 1, *more)
            self.assertGreater(least_figures(wide, i, last), 0)
            assert_refused(self, NotAsked, least_figures, wide, i, last + 1)
            assert_refused(self, BadMode, least_figures, wide, i, last + 1, near2="zero")

    def test_least_figures(self):
        assert_refused(self, BadFormat, least_figures, None, 0, 0, near=None, near2=None)
        for i, j in [(0, 1), (8, 8), (3, 2), (1, 8), (True, 3), (1, True)]:
            assert_refused(self, BadCount, least_figures, TINY, i, j, near=None, near2=None)
        for wrong in ("zero", "up", "down", "odd", "x", None, True):
            assert_refused(self, BadMode, least_figures, TINY, 1, 7, near=wrong, near2="even")
            assert_refused(self, BadMode, least_figures, TINY, 1, 7, near2=wrong)
