"""Cuts [13]: the places where a rounding of positive numbers steps; None is the cut that is never reached."""

from everyrounding.checks import are_integers, check_count
from everyrounding.errors import BadCut, BadExact, BadNumber
from everyrounding.formats import check_format, count_of
from everyrounding.places import check_exact, compare_values
from everyrounding.rounding import check_mode
from everyrounding.seats import rank_of, units_of_rank
from everyrounding.values import check_fits, compare_sizes, dyadic, in_bounds, odd_parts

NEVER = None


def is_cut(value):
    """True for a cut."""
    if value is None:
        return True
    if not are_integers(value, 3):
        return False
    m, q, side = value
    if side < 0 or side > 1:
        return False
    if m == 0:
        return q == 0
    return m > 0 and m % 2 == 1 and in_bounds(m, q)


def check_cut(cut):
    """Refuse what is no cut."""
    if not is_cut(cut):
        raise BadCut()


def cut_point(m, q, side):
    """The cut at the point m * 2^q, m at least zero."""
    if m == 0:
        return (0, 0, side)
    odd, power = odd_parts(m, q)
    return (odd, power, side)


def cut_between(m, unit, mode):
    """The cut of the mode between m and m+1 units 2^unit, m at least zero."""
    even = m % 2 == 0
    if mode == "up" or (mode == "odd" and even):
        return cut_point(m, unit, 1)
    if mode == "zero" or mode == "down" or mode == "odd":
        return cut_point(m + 1, unit, 0)
    side = 1 if mode == "even" and even else 0
    return cut_point(2 * m + 1, unit - 1, side)


def format_cut(form, i, mode):
    """The cut of the format and mode at rank i."""
    if i == count_of(form) and (mode == "zero" or mode == "down" or mode == "odd"):
        return NEVER
    m, unit = units_of_rank(form, i)
    return cut_between(m, unit, mode)


def lies_above(exact, cut):
    """True if an exact number at or above zero is above the cut."""
    if cut is None:
        return False
    m, q, side = cut
    order = compare_values(exact, dyadic(m, q))
    return order > 0 or (order == 0 and side == 0)


def is_less(cut, second):
    """True if the first cut is strictly less than the second."""
    if cut is None:
        return False
    if second is None:
        return True
    order = compare_sizes(cut[0], cut[1], second[0], second[1])
    return order < 0 or (order == 0 and cut[2] < second[2])


def inner_value(cut, second):
    """An exact number between two cuts of which the first is less."""
    m, q, _ = cut
    if second is None:
        return dyadic(2 * m, q) if m > 0 else (1, 1, 1)
    unit = min(q, second[1])
    both = (m << (q - unit)) + (second[0] << (second[1] - unit))
    return dyadic(both, unit - 1)


def cut_at(form, i, *, mode="even"):
    """The cut between the numbers of ranks i and i+1."""
    check_format(form)
    check_count(i, 0, count_of(form))
    check_mode(mode)
    return format_cut(form, i, mode)


def is_above(exact, cut):
    """True if the exact number, at or above zero, is above the cut."""
    check_exact(exact)
    if exact[0] < 0:
        raise BadExact()
    check_cut(cut)
    return lies_above(exact, cut)


def cut_less(cut, second):
    """True if the first cut is strictly less than the second."""
    check_cut(cut)
    check_cut(second)
    return is_less(cut, second)


def cell(form, x, *, mode="even"):
    """The two cuts between which the mode rounds to the positive finite number x of the format."""
    check_format(form)
    check_fits(form, x)
    if x[0] == 1 or x[1] < 1:
        raise BadNumber()
    check_mode(mode)
    i = rank_of(form, x)
    return (format_cut(form, i - 1, mode), format_cut(form, i, mode))


def inner_point(cut, second):
    """An exact number between the two cuts."""
    check_cut(cut)
    check_cut(second)
    if not is_less(cut, second):
        raise BadCut()
    return inner_value(cut, second)
