"""Rank sums and stand-ins [36]: whether two series round alike member by member, found by counting ranks."""

from everyrounding.checks import check_count
from everyrounding.errors import NotAsked
from everyrounding.families import check_ranks, check_series, member_of, rank_series
from everyrounding.floorsums import rows_hold, told_rows
from everyrounding.formats import check_format, count_of, unit_at
from everyrounding.places import compare_values, power_of
from everyrounding.residues import parts_sum, rounding_parts
from everyrounding.rounding import check_mode, round_exact
from everyrounding.through import first_beyond
from everyrounding.values import exact_value, is_finite

MOST_DIVISOR = 1000000


def check_pair(form, series, series2, mode):
    """Refuse the first wrong argument, then series with unlike places."""
    check_format(form)
    check_series(series)
    check_series(series2)
    check_mode(mode)
    if series[3:] != series2[3:]:
        raise NotAsked()


def check_standin(form, series, series2, mode):
    """Refuse what check_pair refuses, then a first series that is greater at one of its ends."""
    check_pair(form, series, series2, mode)
    for m in series[3:]:
        if compare_values(member_of(series, m), member_of(series2, m)) > 0:
            raise NotAsked()


def stretches(form, series):
    """The stretches of the series below over, as the unit's power, the first and the last m, and the m behind them."""
    p, lo, hi = form
    last = hi + p - 1
    first_power = max(power_of(member_of(series, series[3])), lo + p - 1)
    last_power = max(power_of(member_of(series, series[4])), lo + p - 1)
    low = series[3]
    found = []
    for E in range(first_power, min(last_power, last) + 1):
        behind = first_beyond(series, (1, E + 1, 0))
        if low < behind:
            found.append((unit_at(form, E), low, behind - 1))
            low = behind
    return (found, low)


def stretch_parts(series, unit, low, high, mode):
    """The parts of the round sum of a stretch in units 2^unit."""
    s, t, d, _, _ = series
    finer = max(-unit, 0)
    return rounding_parts(mode, s << finer, t << finer, d << max(unit, 0), low, high)


def rank_total(form, series, mode):
    """The base and the parts of the rank sum."""
    p, lo, _ = form
    found, behind = stretches(form, series)
    last = count_of(form)
    beyond = last if mode == "zero" or mode == "down" or mode == "odd" else last + 1
    base = (series[4] + 1 - behind) * beyond
    parts = []
    for unit, low, high in found:
        base = base + (high - low + 1) * ((unit - lo) << (p - 1))
        parts.extend(stretch_parts(series, unit, low, high, mode))
    return (base, parts)


def sum_of_ranks(form, series, mode):
    """The rank sum of the series."""
    base, parts = rank_total(form, series, mode)
    return base + parts_sum(parts)


def between_places(series, low, high):
    """The series with the places low..high alone."""
    return series[:3] + (low, high)


def are_apart(form, series, series2, mode, low, high):
    """True if the rank sums of the two series over the places low..high are unlike."""
    part = between_places(series, low, high)
    part2 = between_places(series2, low, high)
    return sum_of_ranks(form, part, mode) != sum_of_ranks(form, part2, mode)


def first_apart(form, series, series2, mode):
    """The least place at which the two series round to unlike numbers, None if there is none."""
    # A stretch that holds an unlike place is found first, so that not all stretches are summed again and again.
    ends = [high for part in (series, series2) for _, _, high in stretches(form, part)[0]]
    low = series[3]
    for high in sorted(ends + [series[4]]):
        if low <= high and are_apart(form, series, series2, mode, low, high):
            return halved_to_first(form, series, series2, mode, low, high)
        low = high + 1
    return None


def halved_to_first(form, series, series2, mode, low, high):
    """The least of the places low..high at which the series round to unlike numbers; there is one."""
    while low < high:
        middle = (low + high) // 2
        if are_apart(form, series, series2, mode, low, middle):
            high = middle
        else:
            low = middle + 1
    return low


def part_rows(parts):
    """The told list of rows of each part."""
    return [told_rows(N, M, A, B) for _, N, M, A, B in parts]


def proved_sum(base, parts, told):
    """The rank sum that lists of rows prove, None if they are not right ones of just these parts."""
    if type(told) is not list or len(told) != len(parts):
        return None
    total = base
    for (c, N, M, A, B), rows in zip(parts, told):
        if not rows_hold(rows) or rows[0][:4] != (N, M, A, B):
            return None
        total = total + c * rows[0][4]
    return total


def rank_parts(form, series, *, mode="even"):
    """The base and the parts of the rank sum of a series."""
    check_format(form)
    check_series(series)
    check_mode(mode)
    return rank_total(form, series, mode)


def rank_sum(form, series, *, mode="even"):
    """The sum of the ranks of the rounded members, an infinity counting one more than the greatest number."""
    check_format(form)
    check_series(series)
    check_mode(mode)
    return sum_of_ranks(form, series, mode)


def standin_total(form, series, series2, *, mode="even"):
    """By how much the rank sum of the second series is greater."""
    check_pair(form, series, series2, mode)
    return sum_of_ranks(form, series2, mode) - sum_of_ranks(form, series, mode)


def standin_question(form, series, series2, *, mode="even"):
    """Whether the two series round alike at every place, with a paper or the first place at which they do not."""
    check_standin(form, series, series2, mode)
    m = first_apart(form, series, series2, mode)
    if m is not None:
        return ("fails", m)
    parts = rank_total(form, series, mode)[1]
    parts2 = rank_total(form, series2, mode)[1]
    return ("holds", (part_rows(parts), part_rows(parts2)))


def standin_paper_holds(form, series, series2, paper, *, mode="even"):
    """True if the paper proves that the two series round alike at every place."""
    check_standin(form, series, series2, mode)
    if type(paper) is not tuple or len(paper) != 2:
        return False
    base, parts = rank_total(form, series, mode)
    base2, parts2 = rank_total(form, series2, mode)
    total = proved_sum(base, parts, paper[0])
    return total is not None and total == proved_sum(base2, parts2, paper[1])


def division_pair(form, k, inner, i, j, *, mode="even"):
    """For the numbers of ranks i..j: the series divided by k and times the rounded 1/k, the lesser first."""
    check_format(form)
    check_count(k, 2, MOST_DIVISOR)
    check_format(inner)
    check_ranks(form, i, j)
    check_mode(mode)
    factor = round_exact(inner, (1, k, 1), mode, 0)[0]
    if not is_finite(factor):
        raise NotAsked()
    n, d, _ = exact_value(factor)
    found = []
    for _, t, under, a, b in rank_series(form, i, j):
        divided = (0, t, under * k, a, b)
        multiplied = (0, t * n, under * d, a, b)
        found.append((divided, multiplied) if d <= n * k else (multiplied, divided))
    return found
