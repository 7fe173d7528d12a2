"""Exact rests of divisions, and rounding a number to an integer or into a format [16], [17]."""

from everyrounding.checks import check_count
from everyrounding.errors import BadNumber
from everyrounding.formats import check_format
from everyrounding.places import place_of
from everyrounding.rounding import check_mode, choice, round_exact
from everyrounding.sums import INVALID, any_nan
from everyrounding.values import NAN, check_number, dyadic, exact_value, is_finite, is_infinite, is_zero
from everyrounding.values import is_number, signed, signed_part


def finite_rest(x, y, nearest):
    """The rest of two finite numbers, for the nearest quotient or for the cut one."""
    unit = min(x[2], y[2])
    whole_x = x[1] << (x[2] - unit)
    whole_y = y[1] << (y[2] - unit)
    count = whole_x // whole_y
    left = whole_x - count * whole_y
    past_half = 2 * left > whole_y or (2 * left == whole_y and count % 2 == 1)
    if nearest and past_half:
        return signed(1 - x[0], whole_y - left, unit)
    return signed(x[0], left, unit)


def rest_answer(x, y, nearest):
    """The answer for the rest of x by y; refuse a rest whose power is too great."""
    check_number(x)
    check_number(y)
    if any_nan((x, y)):
        return (NAN, ())
    if is_infinite(x) or is_zero(y):
        return INVALID
    if is_infinite(y) or is_zero(x):
        return (x, ())
    found = finite_rest(x, y, nearest)
    if not is_number(found):
        raise BadNumber()
    return (found, ())


def convert_answer(form, x, mode):
    """The answer for x rounded into the format."""
    return scale_answer(form, x, 0, mode)


def scale_answer(form, x, k, mode):
    """The answer for x * 2^k rounded into the format."""
    if not is_finite(x):
        return (x, ())
    return round_exact(form, dyadic(signed_part(x), x[2] + k), mode, x[0])


def rest(x, y):
    """The answer for x less the multiple of y that is nearest to it."""
    return rest_answer(x, y, True)


def cut_rest(x, y):
    """The answer for x less the multiple of y next to it toward zero."""
    return rest_answer(x, y, False)


def whole(x, *, mode="even"):
    """The answer for x rounded to an integer."""
    check_number(x)
    check_mode(mode)
    if not is_finite(x):
        return (x, ())
    k, where = place_of(exact_value(x), 0)
    found = signed(x[0], choice(mode, x[0], k, where), 0)
    return (found, () if where == 0 else ("inexact",))


def convert(form, x, *, mode="even"):
    """The answer for x rounded into the format."""
    check_format(form)
    check_number(x)
    check_mode(mode)
    return convert_answer(form, x, mode)


def scale(form, x, k, *, mode="even"):
    """The answer for x * 2^k rounded into the format."""
    check_format(form)
    check_number(x)
    check_count(k, -2000, 2000)
    check_mode(mode)
    return scale_answer(form, x, k, mode)
