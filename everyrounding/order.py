"""The total order of numbers [8], and exact differences."""

from everyrounding.checks import check_count
from everyrounding.errors import BadNumber, NotAsked
from everyrounding.formats import check_format
from everyrounding.places import lowest
from everyrounding.sums import dyadic_sum
from everyrounding.values import NAN, are_alike, check_number, check_valued, compare_integers, compare_sizes
from everyrounding.values import fits_form, holds_or_zero, is_finite, is_nan, is_zero, odd_parts
from everyrounding.values import signed_part


def order_class(x):
    """The place of the number's kind and sign in the total order: -0 is 0, +0 is 1, NaN is 4."""
    if is_nan(x):
        return 4
    if is_zero(x):
        height = 1
    elif is_finite(x):
        height = 2
    else:
        height = 3
    return height if x[0] == 0 else 1 - height


def compare_total(x, y):
    """-1, 0 or 1 as x is less than, the same as or greater than y in the total order."""
    kind = order_class(x)
    kind2 = order_class(y)
    if kind != kind2 or not is_finite(x):
        return compare_integers(kind, kind2)
    order = compare_sizes(x[1], x[2], y[1], y[2])
    return order if x[0] == 0 else -order


def compare(x, y):
    """How x stands to y: less, same, more or apart."""
    check_number(x)
    check_number(y)
    if is_nan(x) or is_nan(y):
        return "apart"
    if are_alike(x, y):
        return "same"
    return "less" if compare_total(x, y) < 0 else "more"


def total(x, y):
    """-1, 0 or 1 as x is less than, the same as or greater than y in the total order."""
    check_number(x)
    check_number(y)
    return compare_total(x, y)


def lesser(x, y):
    """The lesser of two numbers in the total order, NaN if one is NaN."""
    if is_nan(x) or is_nan(y):
        return NAN
    return x if compare_total(x, y) < 0 else y


def greater(x, y):
    """The greater of two numbers in the total order, NaN if one is NaN."""
    if is_nan(x) or is_nan(y):
        return NAN
    return x if compare_total(x, y) > 0 else y


def least_of(x, y):
    """The lesser number, NaN if one is NaN."""
    check_number(x)
    check_number(y)
    return lesser(x, y)


def greatest_of(x, y):
    """The greater number, NaN if one is NaN."""
    check_number(x)
    check_number(y)
    return greater(x, y)


def check_valued_fits(form, x):
    """Refuse what is neither a zero nor a finite number of the format."""
    check_valued(x)
    if not fits_form(form, x):
        raise BadNumber()


def is_difference_exact(form, x, y):
    """True if x - y of two zeros or finite numbers is zero or, with either sign, a number of the format."""
    m, unit = dyadic_sum(signed_part(x), x[2], -signed_part(y), y[2])
    return holds_or_zero(form, m, unit)


def difference_exact(form, x, y):
    """True if x - y is zero or, with either sign, a number of the format."""
    check_format(form)
    check_valued_fits(form, x)
    check_valued_fits(form, y)
    return is_difference_exact(form, x, y)


def bound_parts(form):
    """The integers n and d of the bound C*, or None if there is none."""
    p, lo, hi = form
    if hi == lo:
        return None
    if hi - lo == 1:
        return ((1 << (p + 1)) - 2, (1 << p) - 3)
    return (1 << (p + 1), (1 << p) - 1)


def ratio_bound(form):
    """The quotient in lowest terms below which all differences are exact, or None if all are."""
    check_format(form)
    parts = bound_parts(form)
    if parts is None:
        return None
    n, d, _ = lowest(parts[0], parts[1], 1)
    return (n, d)


def check_difference(form, n, d):
    """Refuse the first wrong argument, then a quotient below 1."""
    check_format(form)
    high = (1 << 600) - 1
    check_count(n, 1, high)
    check_count(d, 1, high)
    if n < d:
        raise NotAsked()


def difference_question(form, n, d):
    """Whether x - y fits the format for all its x >= y > 0 with x <= (n/d) * y."""
    check_difference(form, n, d)
    parts = bound_parts(form)
    if parts is None or n * parts[1] < parts[0] * d:
        return ("holds",)
    lo = form[1]
    odd, power = odd_parts(parts[0], lo)
    return ("fails", (0, odd, power), (0, parts[1], lo))
