"""Boxes [45], and what the steps of a program can be over a box: ranges [46] and grids [47]."""

from everyrounding.checks import is_integer
from everyrounding.errors import BadBox
from everyrounding.formats import count_of, is_format
from everyrounding.order import compare_total
from everyrounding.places import compare_values, lowest
from everyrounding.programs import check_program
from everyrounding.seats import number_of_rank, number_of_seat, units_of_rank
from everyrounding.stations import op_answer
from everyrounding.values import dyadic, exact_value

MOST_INPUTS = 4
MOST_POINTS = 1 << 40
MINUS_ZERO = (1, 0, 0)
PLUS_ZERO = (0, 0, 0)


def is_side(value):
    """True for one side of a box: a format with a range of seats of its finite numbers."""
    if type(value) is not tuple or len(value) != 3:
        return False
    form, a, b = value
    if not is_format(form) or not is_integer(a) or not is_integer(b):
        return False
    n = count_of(form)
    return -n - 1 <= a <= b <= n


def points_of(box):
    """The number of points of a box."""
    total = 1
    for _, a, b in box:
        total = total * (b - a + 1)
    return total


def is_box(value):
    """True for a box."""
    if type(value) is not tuple or len(value) < 1 or len(value) > MOST_INPUTS:
        return False
    return all([is_side(side) for side in value]) and points_of(value) <= MOST_POINTS


def check_box(box):
    """Refuse what is no box."""
    if not is_box(box):
        raise BadBox()


def check_program_box(program, box):
    """Refuse a wrong program, then what is no box with a side for each input."""
    check_program(program)
    check_box(box)
    if len(box) != program[0]:
        raise BadBox()


def is_point(value, box):
    """True for a tuple of one seat for each side of the box."""
    if type(value) is not tuple or len(value) != len(box):
        return False
    return all([is_integer(k) and side[1] <= k <= side[2] for k, side in zip(value, box)])


def numbers_at(box, seats):
    """The numbers at a point of the box."""
    return [number_of_seat(side[0], k) for k, side in zip(seats, box)]


def combined(choices):
    """All lists that take one of each choice, in order."""
    found = [[]]
    for choice in choices:
        found = [taken + [x] for taken in found for x in choice]
    return found


def holds_number(bounds, x):
    """True if the number lies in the range, by the total order."""
    return compare_total(bounds[0], x) <= 0 and compare_total(x, bounds[1]) <= 0


def is_wild(op, args):
    """True if a step is wild already for its arguments' ranges, None standing for a wild one."""
    if None in args:
        return True
    if op == "div":
        return holds_number(args[1], MINUS_ZERO) or holds_number(args[1], PLUS_ZERO)
    return op == "root" and compare_total(args[0][0], MINUS_ZERO) < 0


def step_range(step, args):
    """The least and the greatest result of a step over its arguments' ranges, None if it is wild."""
    op, _, form, mode = step
    if is_wild(op, args):
        return None
    choices = [list(bounds) for bounds in args]
    if op == "size" and choices[0][0][0] == 1 and choices[0][1][0] == 0:
        choices[0].append(PLUS_ZERO)
    results = [op_answer(op, form, xs, mode)[0] for xs in combined(choices)]
    low = results[0]
    high = results[0]
    for x in results:
        low = x if compare_total(x, low) < 0 else low
        high = x if compare_total(x, high) > 0 else high
    # NaN and plus infinity are the greatest of all numbers, minus infinity is the least.
    return None if low[1] < 0 or high[1] < 0 else (low, high)


def ranges_of(program, box):
    """The ranges of all steps over the box."""
    known = [(number_of_seat(form, a), number_of_seat(form, b)) for form, a, b in box]
    known.extend([(constant, constant) for constant in program[1]])
    found = []
    for step in program[2]:
        bounds = step_range(step, [known[place] for place in step[1]])
        known.append(bounds)
        found.append(bounds)
    return found


def rank_of_seat(k):
    """The rank of a seat."""
    return k if k >= 0 else -1 - k


def point_grid(x):
    """The grid of one zero or finite number."""
    return (x[2], dyadic(x[1], x[2]))


def side_grid(side):
    """The grid of an input."""
    form, a, b = side
    if a == b:
        return point_grid(number_of_seat(form, a))
    ranks = [rank_of_seat(a), rank_of_seat(b)]
    # Seats on both sides of the zeros have a zero between them.
    least = 0 if a < 0 <= b else min(ranks)
    return (units_of_rank(form, least)[1], exact_value(number_of_rank(form, max(ranks))))


def grid_sum(grid, grid2):
    """The grid of an exact sum or difference."""
    n, d, _ = grid[1]
    n2, d2, _ = grid2[1]
    return (min(grid[0], grid2[0]), lowest(n * d2 + n2 * d, d * d2, 1))


def grid_product(grid, grid2):
    """The grid of an exact product."""
    n, d, _ = grid[1]
    n2, d2, _ = grid2[1]
    return (grid[0] + grid2[0], lowest(n * n2, d * d2, 1))


def exact_grid(op, args):
    """The grid of an exact step from those of its arguments."""
    if op == "add" or op == "sub":
        return grid_sum(args[0], args[1])
    if op == "mul":
        return grid_product(args[0], args[1])
    if op == "muladd":
        return grid_sum(grid_product(args[0], args[1]), args[2])
    return args[0]


def step_grid(step, args):
    """The grid of a step, None if it need not be exact."""
    op, _, form, _ = step
    if op == "div" or op == "root" or None in args:
        return None
    g, bound = exact_grid(op, args)
    p, lo, hi = form
    if g < lo:
        return None
    if bound[0] == 0:
        return (g, bound)
    # What is above top is refused first: so the power of the other bound is no great one.
    if compare_values(bound, dyadic((1 << p) - 1, hi)) > 0 or compare_values(bound, dyadic(1 << p, g)) > 0:
        return None
    return (g, bound)


def grids_of(program, box):
    """The grids of all steps over the box."""
    known = [side_grid(side) for side in box]
    known.extend([point_grid(constant) for constant in program[1]])
    found = []
    for step in program[2]:
        grid = step_grid(step, [known[place] for place in step[1]])
        known.append(grid)
        found.append(grid)
    return found


def points(box):
    """The number of points of the box."""
    check_box(box)
    return points_of(box)


def point_numbers(box, seats):
    """The numbers at a point of the box, which is a tuple of seats."""
    check_box(box)
    if not is_point(seats, box):
        raise BadBox()
    return numbers_at(box, seats)


def ranges(program, box):
    """The range of each step over the box, None for a wild one."""
    check_program_box(program, box)
    return ranges_of(program, box)


def grids(program, box):
    """The grid of each step over the box, None where there is none."""
    check_program_box(program, box)
    return grids_of(program, box)
