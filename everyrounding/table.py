"""The claim of a table [30]: which roundings through a second format are harmless."""

from everyrounding.chains import chain_cut
from everyrounding.cuts import format_cut, inner_value, is_less
from everyrounding.formats import check_format, count_of, unit_at
from everyrounding.rounding import check_five, check_mode, mirrored
from everyrounding.seats import rank_of_units


def check_table(form, five, inner, mode):
    """Refuse the first wrong argument."""
    check_format(form)
    check_five(five)
    check_format(inner)
    check_mode(mode)


def is_same(form, inner):
    """True if rounding to the nearest twice is the same as once by point [30]."""
    p, lo, hi = form
    return inner[1] == lo and (inner[0] == p or (hi == lo and inner[0] >= p))


def is_harmless(form, five, inner, mode):
    """True if the claim of the table holds."""
    if inner[2] + inner[0] < form[2] + form[0]:
        return False
    finer = min(inner[0] - form[0], form[1] - inner[1])
    if five == "even":
        return (mode == "odd" and finer >= 2) or (mode == "even" and is_same(form, inner))
    if mode == "odd":
        return finer >= (2 if five == "away" else 1)
    if five != "away":
        return mode == five and finer >= 0
    return (mode == "zero" and finer >= 1) or (mode == "away" and is_same(form, inner))


def tried_ranks(form):
    """The ranks at which a failing claim is looked for, in order."""
    p, lo, hi = form
    n = count_of(form)
    ranks = [0, 1, n - 1, n]
    for E in range(lo, hi + p):
        unit = unit_at(form, E)
        i = rank_of_units(form, 1 << (E - unit), unit)
        ranks.extend([i, i + 1])
    return ranks


def table_witness(form, five, inner, mode):
    """A positive exact number at which the claim fails, None if no tried rank tells one."""
    chain = ((inner, mode), (form, five))
    for j in tried_ranks(form):
        cut = format_cut(form, j, five)
        second = chain_cut(chain, j)
        if is_less(cut, second):
            return inner_value(cut, second)
        if is_less(second, cut):
            return inner_value(second, cut)
    return None


def table_holds(form, five, inner, mode):
    """True if rounding into inner by mode and then into form by five is alike rounding into form by five."""
    check_table(form, five, inner, mode)
    return is_harmless(form, five, inner, mode)


def table_question(form, five, inner, mode):
    """Whether the claim of the table holds, or an exact number at which it fails."""
    check_table(form, five, inner, mode)
    if is_harmless(form, five, inner, mode):
        return ("holds",)
    found = table_witness(form, five, inner, mode)
    if found is not None:
        return ("fails", found)
    n, d, k = table_witness(form, mirrored(five), inner, mirrored(mode))
    return ("fails", (-n, d, k))
