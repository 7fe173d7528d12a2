"""Sums, and products with a summand, each rounded once [14], [15]."""

from everyrounding.formats import check_format
from everyrounding.rounding import check_mode, round_exact
from everyrounding.values import NAN, check_number, check_valued, dyadic, is_infinite, is_nan, is_zero
from everyrounding.values import opposite, signed_part

# The answer of an operation that has no result.
INVALID = ((0, -2, 0), ("invalid",))


def check_step(form, xs, mode):
    """Refuse a wrong format, then a wrong operand, then a wrong mode."""
    check_format(form)
    for x in xs:
        check_number(x)
    check_mode(mode)


def any_nan(xs):
    """True if one of the numbers is NaN."""
    return any([is_nan(x) for x in xs])


def dyadic_sum(m, q, m2, q2):
    """The integer and the power of m * 2^q + m2 * 2^q2, for m and m2 of either sign or zero."""
    unit = min(q, q2)
    return ((m << (q - unit)) + (m2 << (q2 - unit)), unit)


def zero_sign(s, s2, both_zero, mode):
    """The sign of a sum that is exactly zero."""
    if both_zero and s == s2:
        return s
    return 1 if mode == "down" else 0


def product_parts(x, y):
    """Sign, m and q of the product of two zeros or finite numbers, as they stand."""
    return (x[0] ^ y[0], x[1] * y[1], x[2] + y[2])


def round_sum_of(form, x, y, mode):
    """The answer for x + y, where x and y are signs, sizes m at least zero and powers, in any terms."""
    m, unit = dyadic_sum(signed_part(x), x[2], signed_part(y), y[2])
    s = zero_sign(x[0], y[0], x[1] == 0 and y[1] == 0, mode)
    return round_exact(form, dyadic(m, unit), mode, s)


def sum_answer(form, x, y, mode):
    """The answer for x + y."""
    if any_nan((x, y)):
        return (NAN, ())
    if is_infinite(x) and is_infinite(y) and x[0] != y[0]:
        return INVALID
    if is_infinite(x):
        return (x, ())
    if is_infinite(y):
        return (y, ())
    return round_sum_of(form, x, y, mode)


def muladd_answer(form, x, y, z, mode):
    """The answer for x*y + z."""
    if any_nan((x, y, z)):
        return (NAN, ())
    if is_infinite(x) or is_infinite(y):
        if is_zero(x) or is_zero(y):
            return INVALID
        return sum_answer(form, (x[0] ^ y[0], -1, 0), z, mode)
    if is_infinite(z):
        return (z, ())
    return round_sum_of(form, product_parts(x, y), z, mode)


def exact_sum_of(x, y):
    """The exact sum of two zeros or finite numbers."""
    m, unit = dyadic_sum(signed_part(x), x[2], signed_part(y), y[2])
    return dyadic(m, unit)


def add(form, x, y, *, mode="even"):
    """The answer for x + y."""
    check_step(form, (x, y), mode)
    return sum_answer(form, x, y, mode)


def sub(form, x, y, *, mode="even"):
    """The answer for x - y."""
    check_step(form, (x, y), mode)
    return sum_answer(form, x, opposite(y), mode)


def muladd(form, x, y, z, *, mode="even"):
    """The answer for x*y + z, rounded once."""
    check_step(form, (x, y, z), mode)
    return muladd_answer(form, x, y, z, mode)


def exact_sum(x, y):
    """The exact sum of two zeros or finite numbers."""
    check_valued(x)
    check_valued(y)
    return exact_sum_of(x, y)
