"""Written texts [20]: numbers in decimal, exactly, with a count of figures, or as multiples of a power of ten."""

from everyrounding.checks import check_count
from everyrounding.decread import ten_to
from everyrounding.places import place_of, power_of
from everyrounding.rounding import check_five, choice
from everyrounding.values import check_number, exact_value, is_finite, is_zero, show

MOST_FIGURES = 60


def written(s, figures, k):
    """The text for figures * 10^k with the sign s."""
    sign = "-" if s == 1 else ""
    return f"{sign}{figures}e{k}"


def word_of(x):
    """The text of a zero, an infinity or NaN."""
    return written(x[0], 0, 0) if is_zero(x) else show(x)


def without_zeros(figures, k):
    """The same value with no zeros at the end of the figures, which are above zero."""
    while figures % 10 == 0:
        figures = figures // 10
        k = k + 1
    return (figures, k)


def size_parts(x):
    """Numerator and denominator of the size of a finite number."""
    n, d, _ = exact_value(x)
    return (abs(n), d)


def in_units(n, d, k):
    """n/d, which is above zero, in units of 10^k: the whole ones, and where it lies behind them."""
    return place_of((n * ten_to(max(-k, 0)), d * ten_to(max(k, 0)), 1), 0)


def decimal_power(n, d):
    """The t with 10^t <= n/d < 10^(t+1), for n above zero."""
    # The binary digits tell it but for a little; the guess is never above.
    t = power_of((n, d, 1)) * 30103 // 100000 - 1
    while n * ten_to(max(-t - 1, 0)) >= d * ten_to(max(t + 1, 0)):
        t = t + 1
    return t


def some_figures(s, n, d, count, mode):
    """D and K of n/d written with so many figures by the mode for the sign s, and whether this is exact."""
    k = decimal_power(n, d) - count + 1
    whole, where = in_units(n, d, k)
    figures = choice(mode, s, whole, where)
    if figures == ten_to(count):
        return (ten_to(count - 1), k + 1, False)
    return (figures, k, where == 0)


def exact_text(x):
    """The number as a text without any rounding."""
    check_number(x)
    if not is_finite(x):
        return word_of(x)
    s, m, q = x
    figures, k = without_zeros(m << q, 0) if q >= 0 else (m * ten_to(-q) >> -q, q)
    return written(s, figures, k)


def figures_text(x, count, *, five="even"):
    """The number as a text with so many figures, and whether this is exact."""
    check_number(x)
    check_count(count, 1, MOST_FIGURES)
    check_five(five)
    if not is_finite(x):
        return (word_of(x), True)
    n, d = size_parts(x)
    figures, k, exact = some_figures(x[0], n, d, count, five)
    return (written(x[0], figures, k), exact)


def fixed_text(x, k, *, five="even"):
    """The number as a multiple of 10^k."""
    check_number(x)
    check_count(k, -1500, 1500)
    check_five(five)
    if is_zero(x):
        return written(x[0], 0, k)
    if not is_finite(x):
        return word_of(x)
    n, d = size_parts(x)
    whole, where = in_units(n, d, k)
    return written(x[0], choice(five, x[0], whole, where), k)
