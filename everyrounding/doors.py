"""Doors [37], [38]: rounding a result to more digits first and then to fewer, and when this is harmless."""

from everyrounding.checks import check_count
from everyrounding.errors import BadNumber, NotAsked
from everyrounding.formats import check_format, reaches_all
from everyrounding.places import power_of
from everyrounding.products import exact_product_of, exact_quotient_of
from everyrounding.rests import convert_answer
from everyrounding.rounding import check_five, check_mode, check_near
from everyrounding.splits import check_op_of, op_result
from everyrounding.sums import exact_sum_of
from everyrounding.values import are_alike, check_number, exact_value, signed

DOOR_OPS = ("add", "mul", "div", "root")
MOST_DIGITS = 68


def check_door(op, near, p, P):
    """Refuse the first wrong argument of a door."""
    check_op_of(op, DOOR_OPS)
    check_near(near)
    check_count(p, 2, MOST_DIGITS)
    check_count(P, p, 140)


def check_sumdoor(form, inner, five):
    """Refuse the first wrong argument of a door of sums, then an inner format that does not reach the other."""
    check_format(form)
    check_format(inner)
    check_five(five)
    if not reaches_all(inner, form):
        raise NotAsked()


def door_threshold(op, p):
    """The count of digits from which on the door is harmless."""
    if op == "add":
        return 2 * p + 1
    return 2 * p + 2 if op == "root" else 2 * p


def is_always_open(op, near, p):
    """True if every number of digits before the last rounding is harmless, although the operation is inexact."""
    return (op == "mul" and near == "even" and p <= 3) or (op == "div" and near == "away" and p == 2)


def is_open(op, near, p, P):
    """True if the claim of the door holds."""
    return P == p or P >= door_threshold(op, p) or is_always_open(op, near, p)


def mul_witness(near, p):
    """The m of two factors whose product fails at the door."""
    whole = 1 << p
    half = 1 << (p - 1)
    if near == "away":
        return (whole - 1, half + 1)
    if p % 2 == 0:
        return (whole - 3, (5 * half - 1) // 3)
    middle = 1 << ((p + 1) // 2)
    return (half + middle - 1, whole - middle - 1)


def door_witness(op, near, p):
    """The operands at which the door fails, y None for root."""
    whole = 1 << p
    half = 1 << (p - 1)
    if op == "add":
        return (signed(0, half + 1, 0), signed(0, whole - 1, -p - 1))
    if op == "mul":
        m, m2 = mul_witness(near, p)
        return (signed(0, m, 0), signed(0, m2, 0))
    if op == "root":
        m = (whole - 1) << (p % 2) if near == "even" else (half + 1) << ((p + 1) % 2)
        return (signed(0, m, 0), None)
    if near == "even":
        return (signed(0, 1, 2 * p), signed(0, whole - 1, 0))
    return (signed(0, (3 << (p - 3)) + 1, 0), signed(0, half + 1, 0))


def exact_result(op, x, y):
    """The exact result of the operation on finite numbers; for root x is above zero and y None."""
    if op == "add":
        return exact_sum_of(x, y)
    if op == "mul":
        return exact_product_of(x, y)
    if op == "div":
        return exact_quotient_of(x, y)
    n, d, _ = exact_value(x)
    return (n, d, 2)


def moves_into(form, x):
    """The least and the greatest power of two by which x becomes a number of the format, x having few enough digits."""
    p, lo, hi = form
    _, m, q = x
    return (lo - q, hi + p - m.bit_length() - q)


def least_moves(op, xs, ys, zs):
    """The least a and for it the least b, or None, for moves a of x, b of y and of the result within these bounds."""
    x_low, x_high = xs
    y_low, y_high = ys
    z_low, z_high = zs
    if op == "add":
        a = max(x_low, y_low, z_low)
        return (a, a) if a <= min(x_high, y_high, z_high) else None
    if op == "mul":
        # The result moves by a + b.
        a = max(x_low, z_low - y_high)
        b = max(y_low, z_low - a)
        return (a, b) if a <= x_high and a + b <= z_high else None
    # The result moves by a - b.
    a = max(x_low, z_low + y_low)
    b = max(y_low, a - z_high)
    return (a, b) if a <= x_high and b <= y_high else None


def root_move(xs, zs):
    """The least even move of x within the bounds, or None; the root moves by half of it."""
    half = max(-(-xs[0] // 2), zs[0])
    return 2 * half if half <= min(xs[1] // 2, zs[1]) else None


def moved(x, a):
    """x * 2^a."""
    return (x[0], x[1], x[2] + a)


def room_of(op, near, form):
    """The witness moved into the format with the least moves, None if there is no room."""
    p, lo, hi = form
    x, y = door_witness(op, near, p)
    power = power_of(exact_result(op, x, y))
    zs = (lo + p - 1 - power, hi + p - 1 - power)
    if y is None:
        a = root_move(moves_into(form, x), zs)
        return None if a is None else (moved(x, a), None)
    found = least_moves(op, moves_into(form, x), moves_into(form, y), zs)
    return None if found is None else (moved(x, found[0]), moved(y, found[1]))


def both_results(op, form, inner, x, y, mode):
    """The number of the operation in form, and that of the operation in inner converted into form."""
    once = op_result(op, form, x, y, mode)[0]
    return (once, convert_answer(form, op_result(op, inner, x, y, mode)[0], mode)[0])


def fails_both_ways(op, form, inner, x, y, mode):
    """True if the two ways give unlike numbers."""
    once, twice = both_results(op, form, inner, x, y, mode)
    return not are_alike(once, twice)


def sums_hold(form, inner, mode):
    """True if the claim of a door of sums holds."""
    p, lo, hi = form
    P = inner[0]
    if P <= p or mode == "zero" or mode == "up" or mode == "down":
        return P >= p
    return P >= min(2 * p + 1, p + hi - lo) or (mode == "even" and hi - lo <= 2)


def sums_witness(form, inner):
    """The summands at which the door of sums fails."""
    p, lo, hi = form
    if inner[0] < p:
        return (signed(0, (1 << p) - 1, lo), (0, 0, 0))
    low = max(hi - p - 1, lo)
    return (signed(0, (1 << (p - 1)) + 1, hi), signed(0, (1 << (hi - 1 - low)) - 1, low))


def threshold(op, p):
    """The count of digits from which on the door is harmless."""
    check_op_of(op, DOOR_OPS)
    check_count(p, 2, MOST_DIGITS)
    return door_threshold(op, p)


def door_holds(op, near, p, P):
    """True if rounding to P and then to p digits is the same as rounding to p digits, for all operands."""
    check_door(op, near, p, P)
    return is_open(op, near, p, P)


def door_question(op, near, p, P):
    """Whether the claim of the door holds, or the operands at which it fails."""
    check_door(op, near, p, P)
    if is_open(op, near, p, P):
        return ("holds",)
    x, y = door_witness(op, near, p)
    return ("fails", x, y)


def room(op, near, form):
    """The witness of the door for the digits of the format, moved so that it and its result lie in the format."""
    check_op_of(op, DOOR_OPS)
    check_near(near)
    check_format(form)
    if form[0] > MOST_DIGITS or is_always_open(op, near, form[0]):
        raise NotAsked()
    return room_of(op, near, form)


def both_ways(op, form, inner, x, y=None, *, mode="even"):
    """The number of the operation in form, and that of the operation in inner converted into form."""
    check_op_of(op, DOOR_OPS)
    check_format(form)
    check_format(inner)
    check_number(x)
    if op != "root":
        check_number(y)
    elif y is not None:
        raise BadNumber()
    check_mode(mode)
    return both_results(op, form, inner, x, y, mode)


def sumdoor_holds(form, inner, five):
    """True if x + y rounded into inner and then into form is alike x + y rounded into form, for all x, y of form."""
    check_sumdoor(form, inner, five)
    return sums_hold(form, inner, five)


def sumdoor_question(form, inner, five):
    """Whether the claim of a door of sums holds, or the summands at which it fails."""
    check_sumdoor(form, inner, five)
    if sums_hold(form, inner, five):
        return ("holds",)
    x, y = sums_witness(form, inner)
    return ("fails", x, y)
