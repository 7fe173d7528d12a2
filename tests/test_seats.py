import unittest
from fractions import Fraction

from everyrounding.errors import BadCount, BadFormat, BadNumber, BadText, TooMany
from everyrounding.formats import greatest, many
from everyrounding.seats import Grid, at_rank, at_seat, between, bits, from_bits, next_down, next_up, rank, seat
from everyrounding.values import minus
from tests.oracle import (HUGE_M, INF, MINUS_INF, MINUS_ZERO, NAN, ZERO, all_numbers, assert_at, assert_refused,
                          finite_numbers, positives, tuple_of, value_of)

FORMS = [(2, 0, 2), (3, -2, 1), (4, 1, 1), (2, -1, 5), (5, -3, -3)]
GREAT = [(140, -600, 600), (2, -600, 600), (140, 600, 600), (140, -600, -600), (53, -1, 0)]


class TestRanks(unittest.TestCase):
    def test_against_the_list(self):
        for form in FORMS:
            found = [tuple_of(value) for value in positives(form)]
            n = many(form)
            for i, x in enumerate([ZERO] + found + [INF]):
                self.assertEqual(at_rank(form, i), x)
                self.assertEqual(rank(form, x), i)
                self.assertEqual(rank(form, minus(x)), i)
            self.assertEqual(len(found), n)

    def test_told_example(self):
        self.assertEqual(at_rank((2, 0, 2), 6), (0, 1, 3))

    def test_ends_of_great_formats(self):
        for form in GREAT:
            p, lo, hi = form
            n = many(form)
            self.assertEqual(at_rank(form, 1), (0, 1, lo))
            self.assertEqual(at_rank(form, n), (0, (1 << p) - 1, hi))
            self.assertEqual(at_rank(form, n + 1), INF)
            half = 1 << (p - 1)
            self.assertEqual(at_rank(form, half), (0, 1, lo + p - 1))
            self.assertEqual(at_rank(form, half + 1), (0, half + 1, lo) if half > 1 else (0, 1, lo + 1))
            for i in (0, 1, 2, half - 1, half, half + 1, n - 1, n, n + 1):
                self.assertEqual(rank(form, at_rank(form, i)), i)
            self.assertEqual(rank(form, MINUS_ZERO), 0)
            self.assertEqual(rank(form, MINUS_INF), n + 1)

    def test_formula_of_point_7(self):
        form = (5, -3, 4)
        for i in range(many(form) + 1):
            e, half = i // 16, 16
            m, q = (i, -3) if e == 0 else (half + i % half, -3 + e - 1)
            self.assertEqual(value_of(at_rank(form, i)), m * Fraction(2) ** q)

    def test_wrong_arguments(self):
        n = many((2, 0, 2))
        for i in (-1, n + 2, True, False, None, "1", (1,), [1]):
            assert_refused(self, BadCount, at_rank, (2, 0, 2), i)
        for x in (NAN, (0, 1, 5), (0, 5, 0), (0, 1, -1), (0, 2, 0), None, [0, 1, 0], (0, True, 0)):
            assert_refused(self, BadNumber, rank, (2, 0, 2), x)
        assert_refused(self, BadFormat, rank, (2, 0, False), None)
        assert_refused(self, BadFormat, at_rank, (2, 0), None)


class TestSeats(unittest.TestCase):
    def test_against_the_list(self):
        for form in FORMS:
            n = many(form)
            numbers = all_numbers(form)
            self.assertEqual(len(numbers), 2 * n + 5)
            for k, x in zip(range(-n - 2, n + 3), numbers):
                self.assertEqual(at_seat(form, k), x)
                self.assertEqual(seat(form, x), k)

    def test_ends_of_great_formats(self):
        for form in GREAT:
            n = many(form)
            for k, x in [(0, ZERO), (-1, MINUS_ZERO), (n, greatest(form)), (-1 - n, minus(greatest(form))),
                         (n + 1, INF), (-n - 2, MINUS_INF), (n + 2, NAN)]:
                self.assertEqual(at_seat(form, k), x)
                self.assertEqual(seat(form, x), k)

    def test_wrong_arguments(self):
        n = many((2, 0, 2))
        for k in (-n - 3, n + 3, True, False, None, "0", (0,)):
            assert_refused(self, BadCount, at_seat, (2, 0, 2), k)
        for x in ((0, 5, 0), (0, 1, -1), (0, 1, 4), None, (True, 1, 0)):
            assert_refused(self, BadNumber, seat, (2, 0, 2), x)
        self.assertEqual(at_seat((2, 0, 2), 1), (0, 1, 0))
        self.assertEqual(at_seat((2, 0, 2), 0), ZERO)


class TestBits(unittest.TestCase):
    def test_whole_small_formats(self):
        for form in FORMS:
            p, lo, hi = form
            n = many(form)
            w = len(bin(hi - lo + 2)) - 2
            length = w + p
            codes = {}
            for x in all_numbers(form):
                told = n + 2 if x == NAN else n + 1 if x[1] == -1 else seat(form, (0, x[1], x[2]))
                code = str(x[0]) + bin(told)[2:].zfill(length - 1)
                self.assertEqual(bits(form, x), code)
                self.assertEqual(from_bits(form, code), x)
                codes[code] = True
            for k in range(1 << length):
                code = bin(k)[2:].zfill(length)
                if code not in codes:
                    assert_at(self, 0, from_bits, form, code)

    def test_told_example(self):
        self.assertEqual(bits((2, 0, 2), (1, 3, 1)), "10101")

    def test_great_formats(self):
        for form in GREAT:
            n = many(form)
            for x in (ZERO, MINUS_ZERO, INF, MINUS_INF, NAN, greatest(form), minus(greatest(form)), at_rank(form, 5)):
                self.assertEqual(from_bits(form, bits(form, x)), x)
            self.assertEqual(int(bits(form, NAN), 2), n + 2)
        self.assertEqual(len(bits((140, -600, 600), ZERO)), 151)

    def test_wrong_codes(self):
        form = (2, 0, 2)
        for text, at in [("", 0), ("0", 1), ("0000", 4), ("000000", 5), ("00002", 4), ("20000", 0), ("000x", 3),
                         ("000000x", 6), ("0 000", 1), ("-0001", 0), ("01010", 0), ("11001", 0), ("11111", 0),
                         ("0" * 700, 5), ("0" * 699 + "a", 699), ("0000:", 4), ("0000/", 4)]:
            assert_at(self, at, from_bits, form, text)
        self.assertEqual(from_bits(form, "01001"), NAN)
        self.assertEqual(from_bits(form, "11000"), MINUS_INF)

    def test_rules_of_0_and_700(self):
        for text in (None, 1, True, ["0", "1"], ("0",)):
            assert_at(self, 0, from_bits, (2, 0, 2), text)
        assert_at(self, 700, from_bits, (2, 0, 2), "0" * 701)
        assert_at(self, 700, from_bits, (2, 0, 2), "x" * 701)
        assert_refused(self, BadFormat, from_bits, None, None)
        assert_refused(self, BadText, from_bits, (2, 0, 2), None)

    def test_wrong_numbers(self):
        for x in ((0, 5, 0), (0, 1, -1), None, (False, 0, 0)):
            assert_refused(self, BadNumber, bits, (2, 0, 2), x)


class TestNeighbours(unittest.TestCase):
    def next_above(self, form, x):
        """The rule as told, over the list of the format's numbers."""
        found = positives(form)
        if x == INF:
            return INF
        if x == MINUS_INF:
            return (1,) + tuple_of(found[-1])[1:]
        value = value_of(x)
        if -found[0] <= value < 0:
            return MINUS_ZERO
        above = [v for v in [-v for v in reversed(found)] + found if v > value]
        return tuple_of(above[0]) if above else INF

    def test_small_formats(self):
        for form in FORMS:
            outside = [(s, m, q) for s in (0, 1) for m in range(1, 32, 2) for q in range(-5, 8)]
            for x in finite_numbers(form) + [INF, MINUS_INF] + outside:
                told = self.next_above(form, x)
                self.assertEqual(next_up(form, x), told, (form, x))
                self.assertEqual(next_down(form, minus(x)), minus(told), (form, x))

    def test_told_cases(self):
        form = (2, 0, 2)
        self.assertEqual(next_up(form, ZERO), (0, 1, 0))
        self.assertEqual(next_up(form, MINUS_ZERO), (0, 1, 0))
        self.assertEqual(next_up(form, (1, 1, 0)), MINUS_ZERO)
        self.assertEqual(next_up(form, (1, 1, -2000)), MINUS_ZERO)
        self.assertEqual(next_up(form, (0, 3, 2)), INF)
        self.assertEqual(next_up(form, (0, 1, 2000)), INF)
        self.assertEqual(next_up(form, (1, 1, 2000)), (1, 3, 2))
        self.assertEqual(next_up(form, (1, 3, 2)), (1, 1, 3))
        self.assertEqual(next_up(form, MINUS_INF), (1, 3, 2))
        self.assertEqual(next_up(form, INF), INF)
        self.assertEqual(next_down(form, (0, 1, 0)), ZERO)
        self.assertEqual(next_down(form, ZERO), (1, 1, 0))
        self.assertEqual(next_down(form, INF), (0, 3, 2))
        self.assertEqual(next_down(form, MINUS_INF), MINUS_INF)

    def test_numbers_that_fit_no_format(self):
        form = (140, -600, 600)
        self.assertEqual(next_up(form, (0, HUGE_M, 0)), (0, 1, 600))
        self.assertEqual(next_up(form, (1, HUGE_M, 0)), (1, (1 << 140) - 1, 460))
        self.assertEqual(next_up(form, (0, HUGE_M, 2000)), INF)
        self.assertEqual(next_up(form, (0, 1, -2000)), (0, 1, -600))
        self.assertEqual(next_down(form, (0, 1, -2000)), ZERO)
        self.assertEqual(next_down(form, (0, HUGE_M, 140)), (0, (1 << 140) - 1, 600))

    def test_wrong_arguments(self):
        for call in (next_up, next_down):
            for x in (NAN, None, (0, 2, 0), (0, True, 0), [0, 1, 0]):
                assert_refused(self, BadNumber, call, (2, 0, 2), x)
            assert_refused(self, BadFormat, call, (2, 0), NAN)


class TestBetween(unittest.TestCase):
    def test_against_a_count(self):
        form = (2, -1, 1)
        numbers = all_numbers(form)[:-1]
        for at, x in enumerate(numbers):
            for at2, y in enumerate(numbers):
                self.assertEqual(between(form, x, y), len(numbers[at + 1:at2]))

    def test_great_format(self):
        form = (140, -600, 600)
        n = many(form)
        self.assertEqual(between(form, MINUS_INF, INF), 2 * n + 2)
        self.assertEqual(between(form, MINUS_ZERO, ZERO), 0)
        self.assertEqual(between(form, INF, MINUS_INF), 0)

    def test_wrong_arguments(self):
        for x in (NAN, (0, 5, 0), None, (0, 1, True)):
            assert_refused(self, BadNumber, between, (2, 0, 2), x, ZERO)
            assert_refused(self, BadNumber, between, (2, 0, 2), ZERO, x)
        assert_refused(self, BadFormat, between, None, None, None)


class TestGrid(unittest.TestCase):
    def test_defaults(self):
        for form in FORMS:
            n = many(form)
            grid = Grid(form)
            self.assertEqual(list(grid), finite_numbers(form))
            self.assertEqual(list(grid), list(grid))
            self.assertEqual(len(grid), 2 * n + 2)
            self.assertEqual((grid.form, grid.low_seat, grid.high_seat), (form, -n - 1, n))

    def test_told_seats(self):
        form = (2, 0, 2)
        numbers = all_numbers(form)
        n = many(form)
        for low in range(-n - 2, n + 2):
            for high in range(low, n + 2):
                grid = Grid(form, low_seat=low, high_seat=high)
                self.assertEqual(list(grid), numbers[low + n + 2:high + n + 3])
                self.assertEqual(len(grid), high - low + 1)
                self.assertEqual((grid.low_seat, grid.high_seat), (low, high))
        self.assertEqual(list(Grid(form, low_seat=5)), numbers[5 + n + 2:-2])
        self.assertEqual(list(Grid(form, high_seat=-5)), numbers[1:-5 + n + 3])

    def test_in(self):
        form = (2, 0, 2)
        grid = Grid(form, low_seat=-3, high_seat=6)
        held = list(grid)
        for x in all_numbers(form) + [(0, 5, 0), (0, 1, -1), (0, 1, 4), (1, 3, -1)]:
            self.assertIs(x in grid, x in held, x)
        self.assertIs(MINUS_ZERO in Grid(form, low_seat=0), False)
        self.assertIs(ZERO in Grid(form, low_seat=0), True)
        self.assertIs(INF in Grid(form, high_seat=many(form) + 1), True)
        self.assertIs(NAN in Grid(form, low_seat=-many(form) - 2, high_seat=many(form) + 1), False)

    def test_wrong_seats(self):
        form = (2, 0, 2)
        n = many(form)
        for k in (-n - 3, n + 2, True, False, "0", (0,), [0]):
            assert_refused(self, BadCount, Grid, form, low_seat=k)
            assert_refused(self, BadCount, Grid, form, high_seat=k)
        assert_refused(self, BadCount, Grid, form, low_seat=1, high_seat=0)
        assert_refused(self, BadCount, Grid, form, low_seat=n + 1)
        assert_refused(self, BadCount, Grid, form, high_seat=-n - 2)
        assert_refused(self, BadFormat, Grid, (1, 0, 2), low_seat=True)
        self.assertEqual(list(Grid(form, low_seat=n + 1, high_seat=n + 1)), [INF])
        self.assertEqual(list(Grid(form, low_seat=-n - 2, high_seat=-n - 2)), [MINUS_INF])

    def test_limit(self):
        form = (140, -600, 600)
        self.assertEqual(len(Grid(form, low_seat=-2000, high_seat=2095)), 4096)
        told = assert_refused(self, TooMany, Grid, form, low_seat=-2000, high_seat=2096)
        self.assertEqual(told.limit, 4096)
        self.assertEqual(assert_refused(self, TooMany, Grid, form).limit, 4096)
        assert_refused(self, BadCount, Grid, form, low_seat=0, high_seat=many(form) + 2)
        assert_refused(self, TooMany, Grid, form, low_seat=0)
        self.assertEqual(len(Grid((11, 0, 0))), 4096)
        self.assertEqual(len(Grid((11, 0, 0), high_seat=many((11, 0, 0)))), 4096)
        assert_refused(self, TooMany, Grid, (11, 0, 0), high_seat=many((11, 0, 0)) + 1)
