"""Series and families [34]: exact numbers in even steps, many at once."""

from everyrounding.checks import are_integers, check_any_count, check_count
from everyrounding.decread import ten_to
from everyrounding.errors import BadFamily, TooMany
from everyrounding.formats import check_format, count_of
from everyrounding.places import lowest
from everyrounding.seats import units_of_rank

MOST_SERIES = 64
SIZE_BITS = 3000
PLACE_BITS = 140
MOST_FACTOR = (1 << 3000) - 1


def is_series(value):
    """True for a series."""
    if not are_integers(value, 5):
        return False
    s, t, d, a, b = value
    if t < 1 or d < 1 or a > b or max(a.bit_length(), b.bit_length()) > PLACE_BITS:
        return False
    return max(s.bit_length(), t.bit_length(), d.bit_length()) <= SIZE_BITS and s + t * a > 0


def is_family(value):
    """True for a family."""
    if type(value) is not tuple or len(value) < 1 or len(value) > MOST_SERIES:
        return False
    return all([is_series(series) for series in value])


def check_series(series):
    """Refuse what is no series."""
    if not is_series(series):
        raise BadFamily()


def check_family(family):
    """Refuse what is no family."""
    if not is_family(family):
        raise BadFamily()


def checked_family(made):
    """A tuple of the series of a list; refuse one that breaks a bound."""
    family = tuple(made)
    check_family(family)
    return family


def member_of(series, m):
    """The member of the series at m."""
    s, t, d, _, _ = series
    return lowest(s + t * m, d, 1)


def first_above(series, n, d, side):
    """The least m of the series whose member is at least n/d, or above it for side 1; b + 1 if there is none."""
    s, t, under, a, b = series
    bound = n * under - s * d
    step = t * d
    m = bound // step + 1 if side == 1 else -(-bound // step)
    return min(max(m, a), b + 1)


def family_size(family):
    """The number of members, each counted as often as it occurs."""
    check_family(family)
    return sum([b - a + 1 for _, _, _, a, b in family])


def member(series, m):
    """The member of the series at m."""
    check_series(series)
    check_count(m, series[3], series[4])
    return member_of(series, m)


def first_from(series, n, d):
    """The least m of the series whose member is at least n/d, b + 1 if there is none."""
    check_series(series)
    check_any_count(n)
    check_count(d, 1, None)
    return first_above(series, n, d, 0)


def unit_series(unit, base, low, high):
    """The series of m * base^unit for m in low..high; base is 2 or 10."""
    size = 1 << abs(unit) if base == 2 else ten_to(abs(unit))
    if unit < 0:
        return (0, 1, size, low, high)
    return (0, size, 1, low, high)


def check_ranks(form, i, j):
    """Refuse what is no range of ranks of positive finite numbers."""
    n = count_of(form)
    check_count(i, 1, n)
    check_count(j, i, n)


def units_apart(form, i, j):
    """How far the unit powers of two ranks are apart."""
    return units_of_rank(form, j)[1] - units_of_rank(form, i)[1]


def unit_ranges(form, i, j):
    """For each unit power q of the ranks i..j, ascending: q, and the first and the last m of their numbers m * 2^q."""
    p = form[0]
    low_m, low_unit = units_of_rank(form, i)
    high_m, high_unit = units_of_rank(form, j)
    found = []
    for unit in range(low_unit, high_unit + 1):
        # Only the first unit can be that of the numbers with fewer digits.
        low = low_m if unit == low_unit else 1 << (p - 1)
        high = high_m if unit == high_unit else (1 << p) - 1
        found.append((unit, low, high))
    return found


def rank_series(form, i, j):
    """The series of the numbers of ranks i..j, one for each unit power; refuse too many of these."""
    if units_apart(form, i, j) >= MOST_SERIES:
        raise TooMany(MOST_SERIES)
    return [unit_series(unit, 2, low, high) for unit, low, high in unit_ranges(form, i, j)]


def numbers_family(form, i, j):
    """The family of the numbers of ranks i..j of the format."""
    check_format(form)
    check_ranks(form, i, j)
    return tuple(rank_series(form, i, j))


def times(family, n, d):
    """The family of the members times n/d; nothing is reduced."""
    check_family(family)
    check_count(n, 1, MOST_FACTOR)
    check_count(d, 1, MOST_FACTOR)
    return checked_family([(s * n, t * n, under * d, a, b) for s, t, under, a, b in family])


def shifted(family, n, d):
    """The family of the members plus n/d; nothing is reduced."""
    check_family(family)
    check_count(n, -MOST_FACTOR, MOST_FACTOR)
    check_count(d, 1, MOST_FACTOR)
    return checked_family([(s * d + n * under, t * d, under * d, a, b) for s, t, under, a, b in family])


def texts_family(count, k, k2):
    """The family of the decimal numbers with so many figures and the powers of ten k..k2."""
    check_count(count, 1, 40)
    check_count(k, -300, 300)
    check_count(k2, k, 300)
    if k2 - k >= MOST_SERIES:
        raise TooMany(MOST_SERIES)
    low = ten_to(count - 1)
    return tuple([unit_series(unit, 10, low, 10 * low - 1) for unit in range(k, k2 + 1)])
