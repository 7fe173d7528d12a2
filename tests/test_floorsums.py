import random
import unittest

from everyrounding.errors import BadCount
from everyrounding.floorsums import floor_rows, floor_sum, rows_hold
from tests.oracle import assert_refused

GREAT_N, GREAT_M = (1 << 200) - 1, (1 << 9000) - 1


def slow_sum(N, M, A, B):
    return sum((A * i + B) // M for i in range(N))


def slow_rows(N, M, A, B):
    """The told rows by [31], each S by adding up, for small N and for rows whose Y stay small."""
    rows = []
    while True:
        rows.append((N, M, A, B, slow_sum(N, M, A, B)))
        Y = (A % M * N + B % M) // M
        if N <= 4 or Y == 0:
            return rows
        N, M, A, B = Y, A % M, M, M - B % M + A % M - 1


def next_row(N, M, A, B):
    """The row behind this one, whether or not this is an end."""
    Y = (A % M * N + B % M) // M
    N, M, A, B = Y, A % M, M, M - B % M + A % M - 1
    return (N, M, A, B, slow_sum(N, M, A, B))


def asked(seed, many, most, spread):
    picker = random.Random(seed)
    for _ in range(many):
        M = picker.randint(1, most)
        yield picker.randint(0, 40), M, picker.randint(-spread, spread), picker.randint(-spread, spread)


class TestSum(unittest.TestCase):
    def test_against_adding_up(self):
        for most, spread in [(3, 10), (30, 60), (1000, 2000), (1 << 200, 1 << 230)]:
            for N, M, A, B in asked(most, 400, most, spread):
                self.assertEqual(floor_sum(N, M, A, B), slow_sum(N, M, A, B), (N, M, A, B))

    def test_all_small(self):
        for N in range(8):
            for M in range(1, 6):
                for A in range(-7, 8):
                    for B in range(-7, 8):
                        self.assertEqual(floor_sum(N, M, A, B), slow_sum(N, M, A, B))
                        self.assertEqual(floor_rows(N, M, A, B), slow_rows(N, M, A, B))

    def test_short_sums(self):
        for N in (0, 1, 4, 5):
            for A, B in [(-3, -8), (7, 100), (0, -1), (GREAT_M, -GREAT_M)]:
                self.assertEqual(floor_sum(N, 5, A, B), slow_sum(N, 5, A, B))
        self.assertEqual(floor_sum(0, 1, 5, 5), 0)

    def test_great_integers(self):
        self.assertEqual(floor_sum(GREAT_N, 1, 1, 0), GREAT_N * (GREAT_N - 1) // 2)
        self.assertEqual(floor_sum(GREAT_N, 1, -1, 7), 7 * GREAT_N - GREAT_N * (GREAT_N - 1) // 2)
        self.assertEqual(floor_sum(GREAT_N, GREAT_M, 1, 0), 0)
        self.assertEqual(floor_sum(GREAT_N, GREAT_M, 0, -1), -GREAT_N)
        # The odd integers i halved: of each two neighbours one is odd.
        self.assertEqual(floor_sum(1 << 199, 2, 1, 0), ((1 << 199) * ((1 << 199) - 1) // 2 - (1 << 198)) // 2)
        # For N a multiple of M and A prime to M the rests are all equally frequent.
        M, N = (1 << 89) - 1, ((1 << 89) - 1) << 100
        total = (GREAT_M * (N - 1) * N // 2 - N * (M - 1) // 2) // M
        self.assertEqual(GREAT_M % M != 0 and floor_sum(N, M, GREAT_M, 0), total)

    def test_rows_of_great_integers(self):
        picker = random.Random(7)
        for bits in (150, 600, 3000, 9000):
            for _ in range(3):
                M = picker.getrandbits(bits) | 1
                for A in (picker.getrandbits(bits), -picker.getrandbits(bits), M // 2, (M * 5) // 8):
                    for N in (GREAT_N, picker.getrandbits(199)):
                        B = picker.getrandbits(bits) - picker.getrandbits(bits)
                        rows = floor_rows(N, M, A, B)
                        self.assertLessEqual(len(rows), 410)
                        self.assertEqual(rows[0], (N, M, A, B, floor_sum(N, M, A, B)))
                        self.assertIs(rows_hold(rows), True)
        # Neighbours in Fibonacci's list make the most rows.
        low, high = 1, 1
        while high < GREAT_N:
            low, high = high, low + high
        self.assertLessEqual(len(floor_rows(GREAT_N, high, low, high - 1)), 410)


class TestRows(unittest.TestCase):
    def test_told(self):
        self.assertEqual(floor_rows(6, 5, 3, 1), [(6, 5, 3, 1, 8), (3, 3, 5, 6, 10)])
        self.assertEqual(floor_rows(4, 5, 3, 1), [(4, 5, 3, 1, 3)])
        self.assertEqual(floor_rows(0, 5, -3, -1), [(0, 5, -3, -1, 0)])
        self.assertEqual(floor_rows(100, 5, 10, 4), [(100, 5, 10, 4, 9900)])

    def test_to_the_first_end(self):
        for N, M, A, B in asked(3, 800, 60, 200):
            self.assertEqual(floor_rows(N, M, A, B), slow_rows(N, M, A, B))

    def test_each_list_is_new(self):
        floor_rows(6, 5, 3, 1).append(None)
        self.assertEqual(len(floor_rows(6, 5, 3, 1)), 2)

    def test_wrong_arguments(self):
        for call in (floor_sum, floor_rows):
            for wrong in [(-1, 1, 0, 0), (1 << 200, 1, 0, 0), (1, 0, 0, 0), (1, -1, 0, 0), (1, 1 << 9000, 0, 0), (1, 1, 1 << 9000, 0),
                          (1, 1, -(1 << 9000), 0), (1, 1, 0, 1 << 9000), (1, 1, 0, -(1 << 9000)), (True, 1, 0, 0), (1, True, 0, 0),
                          (1, 1, False, 0), (1, 1, 0, None), ("1", 1, 0, 0), (1, (1,), 0, 0)]:
                assert_refused(self, BadCount, call, *wrong)
        self.assertEqual(floor_sum(1, 1, 0, -GREAT_M), -GREAT_M)


class TestRowsHold(unittest.TestCase):
    def papers(self):
        for N, M, A, B in asked(9, 300, 60, 200):
            yield floor_rows(N, M, A, B)

    def test_told_rows(self):
        for rows in self.papers():
            self.assertIs(rows_hold(rows), True)

    def test_longer_papers(self):
        longer = 0
        for rows in self.papers():
            # A row with N <= 4 is an end, but another may follow while its Y is above 0.
            while rows[-1][0] > 0 and (rows[-1][2] % rows[-1][1] * rows[-1][0] + rows[-1][3] % rows[-1][1]) // rows[-1][1] > 0:
                rows = rows + [next_row(*rows[-1][:4])]
                self.assertIs(rows_hold(rows), True)
                self.assertIs(rows_hold(rows[1:]), True)
                longer += 1
        self.assertGreater(longer, 50)
        self.assertIs(rows_hold([(3, 3, 5, 6, 10), next_row(3, 3, 5, 6)]), True)

    def test_no_row_behind_a_y_of_zero(self):
        for row in [(4, 5, 0, 1, 0), (9, 5, 5, 1, 36), (0, 3, 1, 1, 0), (2, 9, 1, 1, 0), (5, 9, 1, 1, 0), (1, 7, 10, -4, -1)]:
            self.assertIs(rows_hold([row]), True)
            for after in [(0, 1, 5, 3, 0), (0, 5, 5, 3, 0), (1, 1, 1, 1, 1), (0, 1, 1, 0, 0)]:
                self.assertIs(rows_hold([row, after]), False)
            if row[2] % row[1] > 0:
                self.assertIs(rows_hold([row, next_row(*row[:4])]), False)

    def test_bent_rows(self):
        for rows in self.papers():
            bent = [rows[:at] + rows[at + 1:] for at in range(1, len(rows))]
            bent += [rows[:at] + [rows[at]] + rows[at:] for at in range(len(rows))]
            bent += [rows[:at] + [rows[at + 1], rows[at]] + rows[at + 2:] for at in range(len(rows) - 1)]
            for at, row in enumerate(rows):
                for place in range(5):
                    for step in (-1, 1):
                        changed = row[:place] + (row[place] + step,) + row[place + 1:]
                        # A row that asks for another sum can be right by itself.
                        if at > 0 or place == 4:
                            bent.append(rows[:at] + [changed] + rows[at + 1:])
            for each in bent:
                self.assertIs(rows_hold(each), False, (rows, each))

    def test_another_question_can_be_right_by_chance_alone(self):
        for rows in self.papers():
            for place in range(4):
                for step in (-1, 1):
                    N, M, A, B, S = rows[0][:place] + (rows[0][place] + step,) + rows[0][place + 1:]
                    each = [(N, M, A, B, S)] + rows[1:]
                    right = N >= 0 and M >= 1 and S == slow_sum(N, M, A, B)
                    if rows_hold(each):
                        self.assertTrue(right)
                    if len(rows) == 1 and right and (N <= 4 or (A % M * N + B % M) // M == 0):
                        self.assertIs(rows_hold(each), True)

    def test_a_long_sum_is_no_end(self):
        self.assertIs(rows_hold([(6, 5, 3, 1, 8)]), False)
        self.assertIs(rows_hold([(5, 5, 3, 1, slow_sum(5, 5, 3, 1))]), False)
        self.assertIs(rows_hold([(4, 5, 3, 1, slow_sum(4, 5, 3, 1))]), True)

    def test_other_shapes(self):
        rows = [(6, 5, 3, 1, 8), (3, 3, 5, 6, 10)]
        for wrong in [None, True, False, 0, "rows", (), tuple(rows), [], [[]], [()], [None], rows[0], [rows], [list(rows[0]), rows[1]],
                      [rows[0], list(rows[1])], [rows[0][:4], rows[1]], [rows[0] + (1,), rows[1]], [rows[0], None], [rows[0], ()],
                      [(6, 5, 3, True, 8), rows[1]], [(6, 5, 3, 1, "8"), rows[1]], [(-1, 5, 3, 1, 0)], [(1, 0, 3, 1, 0)], [(1, -1, 0, 0, 0)],
                      [(0, True, 0, 0, 0)], [(0, 1, 0, 0, False)], [(False, 1, 0, 0, 0)], {}]:
            self.assertIs(rows_hold(wrong), False, wrong)
        self.assertIs(rows_hold([(0, 1, 0, 0, 0)]), True)
        self.assertIs(rows_hold(rows), True)

    def test_no_bounds_and_no_reducing(self):
        far = 1 << 20000
        self.assertIs(rows_hold([(far, 1, 1, 0, far * (far - 1) // 2)]), True)
        self.assertIs(rows_hold([(far, 7, 7 * far, -7, far * far * (far - 1) // 2 - far)]), True)
        self.assertIs(rows_hold([(far, 7, 7 * far, -7, far * far * (far - 1) // 2 - far + 1)]), False)
        self.assertIs(rows_hold([(2, far, -far * far, far + 1, 2 - far)]), True)

    def test_passed_lists_stay(self):
        rows = floor_rows(39, 31, 17, -5)
        kept = list(rows)
        rows_hold(rows)
        self.assertEqual(rows, kept)
