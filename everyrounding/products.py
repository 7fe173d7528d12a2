"""Products, quotients and square roots, each rounded once [14], [15]."""

from everyrounding.errors import BadNumber
from everyrounding.places import lowest
from everyrounding.rounding import round_exact
from everyrounding.sums import INVALID, any_nan, check_step
from everyrounding.values import NAN, check_valued, dyadic, exact_value, is_infinite, is_nan, is_zero, signed_part


def exact_product_of(x, y):
    """The exact product of two zeros or finite numbers."""
    return dyadic(signed_part(x) * signed_part(y), x[2] + y[2])


def exact_quotient_of(x, y):
    """The exact quotient of a zero or finite number by a finite one."""
    n, d, _ = exact_value(x)
    n2, d2, _ = exact_value(y)
    if n2 < 0:
        n2, d2 = -n2, -d2
    return lowest(n * d2, d * n2, 1)


def mul_answer(form, x, y, mode):
    """The answer for x * y."""
    if any_nan((x, y)):
        return (NAN, ())
    s = x[0] ^ y[0]
    if is_infinite(x) or is_infinite(y):
        return INVALID if is_zero(x) or is_zero(y) else ((s, -1, 0), ())
    return round_exact(form, exact_product_of(x, y), mode, s)


def div_answer(form, x, y, mode):
    """The answer for x / y."""
    if any_nan((x, y)):
        return (NAN, ())
    s = x[0] ^ y[0]
    if is_infinite(x):
        return INVALID if is_infinite(y) else ((s, -1, 0), ())
    if is_infinite(y):
        return ((s, 0, 0), ())
    if is_zero(y):
        return INVALID if is_zero(x) else ((s, -1, 0), ("divzero",))
    return round_exact(form, exact_quotient_of(x, y), mode, s)


def root_answer(form, x, mode):
    """The answer for the square root of x."""
    if is_nan(x) or is_zero(x):
        return (x, ())
    if x[0] == 1:
        return INVALID
    if is_infinite(x):
        return (x, ())
    n, d, _ = exact_value(x)
    return round_exact(form, (n, d, 2), mode, 0)


def mul(form, x, y, *, mode="even"):
    """The answer for x * y."""
    check_step(form, (x, y), mode)
    return mul_answer(form, x, y, mode)


def div(form, x, y, *, mode="even"):
    """The answer for x / y."""
    check_step(form, (x, y), mode)
    return div_answer(form, x, y, mode)


def root(form, x, *, mode="even"):
    """The answer for the square root of x."""
    check_step(form, (x,), mode)
    return root_answer(form, x, mode)


def exact_product(x, y):
    """The exact product of two zeros or finite numbers."""
    check_valued(x)
    check_valued(y)
    return exact_product_of(x, y)


def exact_quotient(x, y):
    """The exact quotient of a zero or finite number by a finite one."""
    check_valued(x)
    check_valued(y)
    if is_zero(y):
        raise BadNumber()
    return exact_quotient_of(x, y)
