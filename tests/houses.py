"""Pairs of fair chains with one small goal, and exact numbers all over their houses, for the tests."""

import random

from everyrounding.values import alike
from tests.oracle import MODES, exact_from, slow_round, two, value_of

TINY, WIDE = (2, 0, 2), (3, -1, 2)

# Pairs whose last gaps are of every sort: none, one, two, and two sets that overlap or touch.
LAST_GAPS = [
    ((((4, -1, 1), "even"), ((4, 1, 1), "zero")), (((4, 1, 1), "even"),), []),
    ((((4, -2, 1), "down"), ((2, 1, 3), "even")), (((4, 0, 1), "odd"), ((2, 1, 3), "up")), [((3, 3, 1), (7, 2, 0))]),
    ((((3, 1, 2), "zero"),), (((3, 1, 2), "away"), ((3, 1, 2), "away")), [((15, 1, 0), (1, 5, 0))]),
    ((((5, -3, 0), "zero"), ((3, -3, 3), "even"), ((4, 0, 1), "zero")), (((4, 0, 1), "zero"),), []),
    ((((4, 0, 2), "zero"),), (((2, -3, 5), "away"), ((5, 0, 2), "even"), ((4, 0, 2), "down")), [((13, 2, 0), (15, 2, 0))]),
    ((((2, 1, 5), "even"), ((4, 1, 2), "down")), (((3, 0, 3), "zero"), ((4, 1, 2), "zero")), [((7, 3, 0), (1, 6, 0))]),
    ((((5, 0, 1), "up"), ((2, -3, 3), "down"), ((3, 0, 1), "zero")), (((3, 0, 1), "up"),), [((3, 2, 1), (1, 4, 0))]),
    ((((3, -2, 2), "even"), ((4, 1, 1), "even")), (((2, 0, 4), "away"), ((4, 1, 1), "down")), [((13, 1, 1), (1, 5, 0))]),
    ((((4, -1, -1), "away"),), (((5, -3, -2), "up"), ((3, -4, 1), "away"), ((4, -1, -1), "down")),
     [((29, -2, 0), (29, -2, 1)), ((31, -2, 0), (31, -2, 1))]),
    ((((5, -1, -1), "odd"), ((3, -2, 1), "even"), ((4, -1, -1), "down")), (((4, -1, -1), "even"),),
     [((7, 0, 1), (29, -2, 1)), ((31, -2, 0), (1, 3, 0))]),
]
PAIRS = [(chain, chain2) for chain, chain2, _ in LAST_GAPS] + [
    (((WIDE, "even"), (TINY, "even")), ((TINY, "even"),)),
    (((WIDE, "odd"), (TINY, "even")), ((TINY, "even"),)),
    ((((4, -2, 2), "odd"), (TINY, "even")), ((TINY, "even"),)),
    ((((2, -3, 3), "even"), (WIDE, "zero"), (TINY, "down")), ((TINY, "zero"),)),
    (((TINY, "zero"),), ((TINY, "down"),)),
    (((TINY, "odd"),), ((TINY, "up"),)),
    ((((4, 0, 0), "up"), (TINY, "away")), (((2, -1, 2), "down"), (TINY, "away"))),
]


def random_chain(picker, goal):
    """A fair chain to the goal."""
    p, lo, hi = goal
    steps = []
    for _ in range(picker.choice([0, 1, 1, 2, 3])):
        P, low = picker.randint(2, 6), lo - picker.randint(0, 3)
        steps.append(((P, low, max(hi + p - P, low) + picker.choice([0, 0, 1, 2])), picker.choice(MODES)))
    return tuple(steps) + ((goal, picker.choice(MODES)),)


def random_pairs(seed, many):
    """Pairs of fair chains with one small goal."""
    picker = random.Random(seed)
    found = []
    for _ in range(many):
        lo = picker.randint(-2, 1)
        goal = (picker.randint(2, 4), lo, lo + picker.randint(0, 2))
        found.append((random_chain(picker, goal), random_chain(picker, goal)))
    return found


def over_of(chain):
    p, _, hi = chain[-1][0]
    return two(hi + p)


def house_grid(chain, chain2):
    """Exact numbers at all places of the house where one of the chains can step, and between them."""
    step = two(min(form[1] for form, _ in chain + chain2) - 2)
    return [i * step for i in range(1, int(over_of(chain) / step))]


def slow_number(chain, exact):
    """The number that a chain gives, by the slow rounding."""
    x = slow_round(chain[0][0], exact, chain[0][1])[0]
    for form, mode in chain[1:]:
        if x[1] > 0:
            x = slow_round(form, exact_from(value_of(x)), mode)[0]
    return x


def slow_unlike(chain, chain2, exact):
    return not alike(slow_number(chain, exact), slow_number(chain2, exact))


def lies_in(value, gap):
    """True if a fraction lies between two cuts, by their definition."""
    (m, q, side), (m2, q2, side2) = gap
    low, high = m * two(q), m2 * two(q2)
    return (value > low or (value == low and side == 0)) and (value < high or (value == high and side2 == 1))
