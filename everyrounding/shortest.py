"""The shortest text that reads back as a number [20]."""

from everyrounding.cuts import format_cut, lies_above
from everyrounding.decread import decimal_parts, decimal_value, read_value, ten_to
from everyrounding.decwrite import decimal_power, in_units, size_parts, without_zeros, word_of, written
from everyrounding.errors import BadText
from everyrounding.formats import check_format
from everyrounding.rounding import check_five, mirrored
from everyrounding.seats import rank_of
from everyrounding.values import check_fits, is_finite


def lies_inside(figures, k, low, high):
    """True if figures * 10^k lies above the first cut and below the second."""
    exact = (figures * ten_to(max(k, 0)), ten_to(max(-k, 0)), 1)
    return lies_above(exact, low) and not lies_above(exact, high)


def near_figures(n, d, k, low, high):
    """The D for which D * 10^k is next to n/d on one side and lies between the cuts, the nearest first."""
    whole, where = in_units(n, d, k)
    if where == 0:
        found = [whole]
    elif where == 3:
        found = [whole + 1, whole]
    else:
        found = [whole, whole + 1]
    return [figures for figures in found if lies_inside(figures, k, low, high)]


def shortest_parts(form, x, mode):
    """D and K of the shortest text of the size of a finite number, the mode being the one for this size."""
    i = rank_of(form, x)
    low = format_cut(form, i - 1, mode)
    high = format_cut(form, i, mode)
    n, d = size_parts(x)
    k = decimal_power(n, d)
    found = near_figures(n, d, k, low, high)
    while not found:
        k = k - 1
        found = near_figures(n, d, k, low, high)
    return without_zeros(found[0], k)


def shortest(form, x, *, five="even"):
    """The shortest text that the mode reads as x."""
    check_format(form)
    check_fits(form, x)
    check_five(five)
    if not is_finite(x):
        return word_of(x)
    figures, k = shortest_parts(form, x, mirrored(five) if x[0] == 1 else five)
    return written(x[0], figures, k)


def reads_back(form, text, x, *, five="even"):
    """True if the mode reads the decimal text as just x."""
    check_format(form)
    value = decimal_value(text)
    check_fits(form, x)
    check_five(five)
    return read_value(form, value, five)[0] == x


def figures_of(text):
    """How many figures a decimal text has, without the zeros before and behind."""
    parts = decimal_parts(text)
    if parts is None:
        raise BadText(0)
    return len(parts[1].strip("0"))
