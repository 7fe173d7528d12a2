"""Slow and plain answers for small formats, made from the definitions by fractions, and helpers for the tests."""

from bisect import bisect_right
from fractions import Fraction
from functools import lru_cache

from everyrounding.errors import Refused

MODES = ("even", "away", "zero", "up", "down", "odd")
MIRROR = {"up": "down", "down": "up"}
TINY = (2, 0, 2)
SMALL = (3, -2, 1)
NAN = (0, -2, 0)
INF = (0, -1, 0)
MINUS_INF = (1, -1, 0)
ZERO = (0, 0, 0)
MINUS_ZERO = (1, 0, 0)
SPECIALS = (ZERO, MINUS_ZERO, INF, MINUS_INF, NAN)
HUGE_M = (1 << 600) - 1


def two(k):
    """2^k as a fraction."""
    return Fraction(1 << k) if k >= 0 else Fraction(1, 1 << -k)


def positives(form):
    """The positive finite numbers of a format as fractions, ascending, by point [5]."""
    p, lo, hi = form
    return sorted({m * two(q) for m in range(1, 1 << p) for q in range(lo, hi + 1)})


def tuple_of(value, s=0):
    """The number for a fraction; s is the sign of a zero."""
    if value == 0:
        return (s, 0, 0)
    sign = 1 if value < 0 else 0
    n, d = abs(value).numerator, abs(value).denominator
    q = 0
    while n % 2 == 0:
        n, q = n // 2, q + 1
    while d % 2 == 0:
        d, q = d // 2, q - 1
    assert d == 1
    return (sign, n, q)


def value_of(x):
    """The fraction of a zero or finite number."""
    assert x[1] >= 0
    return (-1 if x[0] else 1) * x[1] * two(x[2])


def finite_numbers(form):
    """All finite numbers and both zeros of a format in the total order."""
    plus = [tuple_of(value) for value in positives(form)]
    minus = [(1, m, q) for _, m, q in reversed(plus)]
    return minus + [MINUS_ZERO, ZERO] + plus


def all_numbers(form):
    """All numbers of a format in the order of their seats."""
    return [MINUS_INF] + finite_numbers(form) + [INF, NAN]


@lru_cache(maxsize=None)
def sizes_of(form):
    """Zero, the positive finite numbers and over."""
    return [Fraction(0)] + positives(form) + [two(form[2] + form[0])]


def square_or_self(value, k):
    return value if k == 1 else value * value


def pick_up(mode, s, rank, below, above_half):
    """True if the mode steps from the number of this rank to the next; above_half is -1, 0 or 1."""
    if mode == "zero":
        return False
    if mode == "up":
        return s == 0
    if mode == "down":
        return s == 1
    if mode == "odd":
        return rank % 2 == 0
    if above_half != 0:
        return above_half > 0
    return mode == "away" or rank % 2 == 1


def slow_round(form, exact, mode, s=0):
    """The answer of [11] and [12], found by looking through the list of all numbers."""
    n, d, k = exact
    if n == 0:
        return ((s, 0, 0), ())
    sign = 1 if n < 0 else 0
    size = Fraction(abs(n), d)
    sizes = sizes_of(form)
    over, line = sizes[-1], two(form[1] + form[0] - 1)
    beyond = size >= square_or_self(over, k)
    rank = bisect_right(sizes, size, key=lambda v: square_or_self(v, k)) - 1
    if not beyond and square_or_self(sizes[rank], k) != size:
        mid = square_or_self((sizes[rank] + sizes[rank + 1]) / 2, k)
        above_half = (size > mid) - (size < mid)
        rank += pick_up(mode, sign, rank, size, above_half)
    if rank == len(sizes) - 1:
        inward = mode in ("zero", "odd") or mode == ("down", "up")[sign]
        value = tuple_of(sizes[-2]) if inward else INF
        return ((sign,) + value[1:], ("overflow", "inexact"))
    flags = ()
    if square_or_self(sizes[rank], k) != size:
        flags = ("inexact",)
        if size < square_or_self(line, k):
            flags = ("underflow", "inexact")
    return ((sign,) + tuple_of(sizes[rank])[1:], flags)


def exact_from(value, k=1):
    """The exact number of a fraction in lowest terms."""
    return (value.numerator, value.denominator, k)


def refusal(call, *args, **named):
    """The error that a call raises, None if it raises none."""
    try:
        call(*args, **named)
    except Refused as error:
        return error
    return None


def assert_refused(case, error, call, *args, **named):
    """Assert that the call raises this error and no other class."""
    told = refusal(call, *args, **named)
    case.assertIs(type(told), error, (getattr(call, "__name__", call), args, named))
    return told


def assert_at(case, at, call, *args):
    """Assert that the call raises BadText with this place."""
    told = refusal(call, *args)
    case.assertEqual((type(told).__name__, getattr(told, "at", None)), ("BadText", at), (call.__name__, args))
