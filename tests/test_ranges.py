import random
import unittest
from fractions import Fraction
from itertools import product

from everyrounding.errors import BadBox, BadProgram
from everyrounding.formats import many
from everyrounding.order import total
from everyrounding.programs import exact_program, run_program
from everyrounding.ranges import check_box, grids, point_numbers, points, ranges
from everyrounding.seats import at_seat
from everyrounding.stations import deed
from tests.oracle import HUGE_M, MINUS_ZERO, SMALL, TINY, ZERO, assert_refused, exact_from, finite_numbers, two, value_of
from tests.test_programs import some_program, steps

ONE = (0, 1, 0)
SIDE = (TINY, -3, 4)
BOX = (SIDE,)
ADD = (1, (), (("add", (0, 0), TINY, "even"),))
FORMS = [TINY, SMALL, (2, -2, -1), (3, 1, 2)]


def some_box(picker, inputs, most=8):
    """A box with few points on each side, often around the zeros."""
    sides = []
    for _ in range(inputs):
        form = picker.choice(FORMS)
        n = many(form)
        a = picker.choice([picker.randint(-n - 1, n), picker.randint(-4, 3)])
        sides.append((form, a, min(n, a + picker.choice([0, 0, 1, 2, picker.randint(0, most)]))))
    return tuple(sides)


def all_points(box):
    return product(*[range(a, b + 1) for _, a, b in box])


class TestBoxes(unittest.TestCase):
    def test_bounds(self):
        for form in (TINY, SMALL, (140, -600, 600)):
            n = many(form)
            last = min(n, 1 << 39)
            for side in [(form, n, n), (form, -n - 1, -n - 1), (form, -1, 0), (form, n - last + 1, n), (form, -n - 1, last - n - 1)]:
                for inputs in (1, 2, 3, 4):
                    box = (side,) + ((form, 0, 0),) * (inputs - 1)
                    self.assertIsNone(check_box(box))
                    self.assertEqual(points(box), side[2] - side[1] + 1)
            for side in [(form, n, n + 1), (form, n + 1, n + 1), (form, -n - 2, -n - 2), (form, -n - 2, 0), (form, 1, 0), (form, 0, -1)]:
                for box in [(side,), ((TINY, 0, 0), side)]:
                    assert_refused(self, BadBox, check_box, box)
                    assert_refused(self, BadBox, points, box)

    def test_wrong_kinds(self):
        wrongs = [None, True, 0, "box", (), [SIDE], SIDE, BOX * 5, (SIDE, None), (list(SIDE),), (SIDE[:2],), (SIDE + (1,),), ((None,
                    0, 1),), ((TINY, True, 1),),
                  ((TINY, 0, True),), ((TINY, False, 1),), (((True, 0, 2), 0, 1),), (((2, False, 2), 0, 1),), (((1, 0, 2), 0,
                              1),), ((TINY, None, 1),),
                  ((TINY, 0, "1"),), ((list(TINY), 0, 1),)]
        for wrong in wrongs:
            for call in (check_box, points):
                assert_refused(self, BadBox, call, wrong)
            assert_refused(self, BadBox, point_numbers, wrong, None)
            assert_refused(self, BadBox, ranges, ADD, wrong)
            assert_refused(self, BadBox, grids, ADD, wrong)

    def test_too_many_points(self):
        wide = (53, -600, 600)
        for box in [((wide, 1, 1 << 40),), ((wide, 1, 1 << 20), (wide, -(1 << 20), -1)), ((wide, 1, 1 << 10),) * 4, ((wide, 0,
                    (1 << 38) - 1), (wide, -1, 2))]:
            self.assertEqual(points(box), 1 << 40)
        for box in [((wide, 1, (1 << 40) + 1),), ((wide, 1, 1 << 20), (wide, -(1 << 20), 0)), ((wide, 1, 1 << 10),) * 3 + ((wide, 1,
                    1025),),
                    ((wide, -many(wide) - 1, many(wide)),) * 4]:
            assert_refused(self, BadBox, points, box)

    def test_points(self):
        for box in [BOX, (SIDE, (SMALL, 2, 5)), ((TINY, 0, 0), (TINY, -1, 0), (SMALL, -3, -2), (TINY, 7, 7))]:
            self.assertEqual(points(box), len(list(all_points(box))))
            for seats in all_points(box):
                self.assertEqual(point_numbers(box, seats), [at_seat(form, k) for (form, _, _), k in zip(box, seats)])
        for wrong in [None, True, 0, (), (0, 0), [0], (None,), (True,), (False,), ("0",), (-4,), (5,), ((0,),), "0"]:
            assert_refused(self, BadBox, point_numbers, BOX, wrong)

    def test_inputs_and_sides(self):
        for call in (ranges, grids):
            assert_refused(self, BadProgram, call, None, None)
            for box in (BOX * 2, BOX * 4):
                assert_refused(self, BadBox, call, ADD, box)
            assert_refused(self, BadBox, call, (2, (), ADD[2]), BOX)
            self.assertEqual(len(call(ADD, BOX)), 1)


def told_ranges(program, box):
    """The ranges by [46]."""
    known = [(at_seat(form, a), at_seat(form, b)) for form, a, b in box] + [(c, c) for c in program[1]]
    found = []
    for op, places, form, mode in program[2]:
        args = [known[place] for place in places]
        told = None if None in args or wild(op, args) else around(op, args, form, mode)
        known.append(told)
        found.append(told)
    return found


def wild(op, args):
    if op == "div":
        return any(total(args[1][0], x) <= 0 <= total(args[1][1], x) for x in (ZERO, MINUS_ZERO))
    return op == "root" and total(args[0][0], MINUS_ZERO) < 0


def around(op, args, form, mode):
    choices = [list(arg) for arg in args]
    if op == "size" and choices[0][0][0] == 1 and choices[0][1][0] == 0:
        choices[0].append(ZERO)
    results = [deed(op, form, *xs, mode=mode)[0] for xs in product(*choices)]
    if any(x[1] < 0 for x in results):
        return None
    least = next(x for x in results if all(total(x, y) <= 0 for y in results))
    greatest = next(x for x in results if all(total(x, y) >= 0 for y in results))
    return (least, greatest)


class TestRanges(unittest.TestCase):
    def test_against_the_definition_and_all_points(self):
        picker = random.Random(46)
        tame = count = 0
        for _ in range(500):
            inputs = picker.randint(1, 3)
            program = some_program(picker, inputs, picker.randint(1, 6))
            box = some_box(picker, inputs)
            told = ranges(program, box)
            self.assertEqual(told, told_ranges(program, box), (program, box))
            count += len(told)
            tame += len(told) - told.count(None)
            if points(box) > 60:
                continue
            for seats in all_points(box):
                for x, bounds in zip(run_program(program, point_numbers(box, seats))[0], told):
                    if bounds is not None:
                        self.assertTrue(total(bounds[0], x) <= 0 <= total(bounds[1], x), (program, box, seats))
        self.assertTrue(count / 8 < tame < count * 7 / 8)

    def one(self, op, *args, form=TINY, mode="even", constants=()):
        """The range of one step on places of a box with two sides."""
        return ranges((len(self.box), constants, ((op, args, form, mode),)), self.box)[0]

    def test_division(self):
        for a, b, told in [(-3, -2, True), (-3, -1, False), (-3, 0, False), (-3, 3, False), (-1, -1, False), (0, 0, False), (-1, 0,
                    False), (0, 3, False),
                           (1, 3, True)]:
            self.box = ((TINY, 2, 3), (TINY, a, b))
            self.assertEqual(self.one("div", 0, 1) is not None, told, (a, b))
            self.assertIsNotNone(self.one("add", 0, 1))
        self.box = ((TINY, 2, 3), (TINY, 1, 2))
        self.assertEqual(self.one("div", 0, 1, form=SMALL), ((0, 1, 0), (0, 3, 0)))
        self.assertEqual(self.one("div", 1, 1, form=SMALL), ((0, 1, -1), (0, 1, 1)))

    def test_root(self):
        for a, told in [(-4, None), (-2, None), (-1, (MINUS_ZERO, (0, 1, 1))), (0, (ZERO, (0, 1, 1))), (1, (ONE, (0, 1, 1)))]:
            self.box = ((TINY, a, 4),)
            self.assertEqual(self.one("root", 0), told)

    def test_infinite_and_lost_results(self):
        self.box = ((TINY, 1, 7), (TINY, 7, 7))
        self.assertIsNone(self.one("mul", 0, 1))
        self.assertEqual(self.one("mul", 0, 1, mode="zero"), ((0, 3, 2), (0, 3, 2)))
        self.box = ((TINY, -8, 7), (TINY, 7, 7))
        self.assertIsNone(self.one("mul", 0, 1, mode="down"))
        self.assertEqual(self.one("mul", 0, 1, mode="odd"), ((1, 3, 2), (0, 3, 2)))
        # What is wild makes all that rests on it wild, and nothing else.
        program = (1, (), steps(("mul", 0, 0), ("add", 1, 0), ("minus", 0), ("size", 2), form=TINY))
        self.assertEqual(ranges(program, ((TINY, 1, 7),)), [None, None, ((1, 3, 2), (1, 1, 0)), None])

    def test_size_across_zero(self):
        for a, b, told in [(-4, 2, (ZERO, (0, 3, 0))), (-4, -2, (ONE, (0, 3, 0))), (-4, -1, (ZERO, (0, 3, 0))), (-4, 0, (ZERO, (0,
                    3, 0))), (2, 3, ((0, 1, 1), (0, 3, 0))),
                           (-1, -1, (ZERO, ZERO)), (-1, 0, (ZERO, ZERO)), (0, 3, (ZERO, (0, 3, 0)))]:
            self.box = ((TINY, a, b),)
            self.assertEqual(self.one("size", 0), told, (a, b))

    def test_the_same_place_twice(self):
        self.box = ((TINY, 1, 3),)
        self.assertEqual(self.one("sub", 0, 0), ((1, 1, 1), (0, 1, 1)))
        self.box = ((TINY, -3, 3),)
        # Seats -3 and 3 are -2 and 3.
        self.assertEqual(self.one("mul", 0, 0, form=(4, 0, 2)), ((1, 3, 1), (0, 9, 0)))

    def test_zeros_of_both_signs(self):
        self.box = ((TINY, -1, 0), (TINY, 1, 2))
        self.assertEqual(self.one("convert", 0), (MINUS_ZERO, ZERO))
        self.assertEqual(self.one("mul", 0, 1), (MINUS_ZERO, ZERO))
        self.assertEqual(self.one("minus", 0), (MINUS_ZERO, ZERO))
        self.assertEqual(self.one("mul", 2, 1, constants=(MINUS_ZERO,)), (MINUS_ZERO, MINUS_ZERO))


def told_grid(op, args, form):
    """The grid of a step by [47]."""
    if None in args or op in ("div", "root"):
        return None
    (g, B), rest = args[0], args[1:]
    if op in ("add", "sub"):
        g, B = min(g, rest[0][0]), B + rest[0][1]
    elif op == "mul":
        g, B = g + rest[0][0], B * rest[0][1]
    elif op == "muladd":
        g, B = min(g + rest[0][0], rest[1][0]), B * rest[0][1] + rest[1][1]
    p, lo, hi = form
    return (g, B) if g >= lo and (B == 0 or B <= two(p + g)) and B <= (2 ** p - 1) * two(hi) else None


def input_grid(form, a, b):
    """The grid of an input by [47], going through its numbers."""
    numbers = [at_seat(form, k) for k in range(a, b + 1)]
    sizes = [abs(value_of(x)) for x in numbers]
    if a == b:
        return (numbers[0][2], sizes[0])
    p, lo, _ = form
    least = min(sizes)
    q = lo
    while least / two(q) >= 2 ** p:
        q += 1
    return (q, max(sizes))


def told_grids(program, box):
    known = [input_grid(*side) for side in box] + [(c[2], abs(value_of(c))) for c in program[1]]
    found = []
    for op, places, form, _ in program[2]:
        found.append(told_grid(op, [known[place] for place in places], form))
        known.append(found[-1])
    return [None if grid is None else (grid[0], exact_from(Fraction(grid[1]))) for grid in found]


class TestGrids(unittest.TestCase):
    OPS = ("add", "sub", "mul", "muladd", "minus", "size", "convert", "div", "root")

    def test_against_the_definition_and_all_points(self):
        picker = random.Random(47)
        full = 0
        for _ in range(500):
            inputs = picker.randint(1, 3)
            program = some_program(picker, inputs, picker.randint(1, 5), self.OPS[:picker.choice([7, 9])], [(9, -6, 4), (12, -3, 3),
                        (30, -20, 20), TINY])
            box = some_box(picker, inputs)
            told = grids(program, box)
            self.assertEqual(told, told_grids(program, box), (program, box))
            full += None not in told
            if points(box) <= 40:
                self.check_points(program, box, told)
        self.assertGreater(full, 80)

    def check_points(self, program, box, told):
        """The values are multiples of 2^g, at most B, and exact."""
        for seats in all_points(box):
            xs = point_numbers(box, seats)
            values = exact_program(program, xs)
            for x, value, grid in zip(run_program(program, xs)[0], values, told):
                if grid is not None:
                    g, (n, d, _) = grid
                    told_value = Fraction(*value[:2])
                    self.assertEqual(value_of(x), told_value)
                    self.assertEqual((told_value / two(g)).denominator, 1)
                    self.assertLessEqual(abs(told_value), Fraction(n, d))

    def grid_of(self, side, form=(140, -600, 600), constants=(), step=("convert", 0)):
        return grids((1, constants, steps(step, form=form)), (side,))[0]

    def test_inputs(self):
        # In (3, -2, 1) the seats 1..3 are 1/4, 1/2, 3/4 and 4 is 1 = 4 * 2^-2.
        for a, b, told in [(4, 5, (-2, (5, 4, 1))), (8, 9, (-1, (5, 2, 1))), (8, 15, (-1, (7, 1, 1))), (12, 13, (0, (5, 1, 1))),
                           (1, 2, (-2, (1, 2, 1))), (0, 1, (-2, (1, 4, 1))), (-1, 0, (-2, (0, 1, 1))), (-2, -1, (-2, (1, 4,
                                       1))), (-9, 3, (-2, (2, 1, 1))),
                           (-13, -9, (-1, (4, 1, 1)))]:
            self.assertEqual(self.grid_of((SMALL, a, b)), told, (a, b))

    def test_one_number_inputs_and_constants(self):
        for k, told in [(4, (0, (1, 1, 1))), (8, (1, (2, 1, 1))), (10, (0, (3, 1, 1))), (0, (0, (0, 1, 1))), (-1, (0, (0, 1, 1))),
                    (-5, (0, (1, 1, 1)))]:
            self.assertEqual(self.grid_of((SMALL, k, k)), told)
        # A zero has the power 0, also where lo is above 0.
        self.assertEqual(self.grid_of(((3, 4, 5), 0, 0)), (0, (0, 1, 1)))
        self.assertIsNone(self.grid_of(((3, 4, 5), 0, 0), form=(3, 1, 5)))
        self.assertEqual(self.grid_of(((3, 4, 5), 0, 1)), (4, (16, 1, 1)))
        for constant, told in [((0, 5, -3), (-3, (5, 8, 1))), ((1, 5, 7), (7, (640, 1, 1))), (MINUS_ZERO, (0, (0, 1, 1))), ((0, 1,
                    599), (599, (1 << 599, 1, 1)))]:
            self.assertEqual(self.grid_of(SIDE, constants=(constant,), step=("convert", 1)), told)

    def test_g_at_lo_and_the_bounds_of_B(self):
        for lo, told in [(-2, True), (-3, True), (-1, False)]:
            self.assertEqual(self.grid_of((SMALL, 1, 2), form=(5, lo, 5)) is not None, told)
        # B = 2^p * 2^g is allowed, one unit more is not.
        eight, nine = (0, 1, 3), (0, 9, 0)
        for constant, p, told in [(eight, 3, True), (eight, 2, True), (nine, 3, False), (nine, 4, True), ((0, 7, 0), 3, True)]:
            self.assertEqual(self.grid_of(SIDE, form=(p, 0, 9), constants=(constant,), step=("convert", 1)) is not None, told)
        one_more = (1, ((0, 7, 0), ONE), steps(("add", 1, 2), form=(3, 0, 9)))
        self.assertEqual(grids(one_more, BOX), [(0, (8, 1, 1))])
        two_more = (1, ((0, 7, 0), (0, 1, 1)), steps(("add", 1, 2), form=(3, 0, 9)))
        self.assertEqual(grids(two_more, BOX), [None])
        # B at top and beyond.
        self.assertEqual(self.grid_of(SIDE, form=(3, 0, 0), constants=((0, 7, 0),), step=("convert", 1)), (0, (7, 1, 1)))
        self.assertIsNone(self.grid_of(SIDE, form=(3, 0, 0), constants=(eight,), step=("convert", 1)))
        self.assertIsNone(self.grid_of(SIDE, form=(2, 0, 1), constants=((0, 7, 0),), step=("convert", 1)))

    def test_powers_without_a_bound(self):
        # Zero times a great power: g doubles at each step, and B stays 0.
        program = (1, (ZERO, (0, 1, 2000)), steps(("mul", 1, 2), *[("mul", k, k) for k in range(3, 14)]))
        self.assertEqual(grids(program, BOX), [(2000 << k, (0, 1, 1)) for k in range(12)])
        low = (1, (ZERO, (0, 1, -300)), steps(("mul", 1, 2), ("mul", 3, 2), ("mul", 4, 2)))
        self.assertEqual(grids(low, BOX), [(-300, (0, 1, 1)), (-600, (0, 1, 1)), None])
        self.assertEqual(self.grid_of(SIDE, constants=((0, HUGE_M, 0),), step=("convert", 1)), None)

    def test_none_for_div_and_root_and_what_rests_on_them(self):
        program = (1, (ONE,), steps(("div", 1, 1), ("root", 1), ("add", 2, 1), ("minus", 3), ("add", 1, 1)))
        self.assertEqual(grids(program, BOX), [None, None, None, None, (0, (2, 1, 1))])

    def test_lists_are_new(self):
        for call in (ranges, grids):
            first = call(ADD, BOX)
            first.append(None)
            self.assertEqual(len(call(ADD, BOX)), 1)
        self.assertEqual(len(finite_numbers(TINY)), 2 * many(TINY) + 2)
