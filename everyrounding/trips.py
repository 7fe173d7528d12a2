"""Trips [39]: numbers written with a count of figures and read again, and which of them come back."""

from everyrounding.checks import check_count
from everyrounding.decread import ten_to
from everyrounding.decwrite import MOST_FIGURES, decimal_power, size_parts, some_figures, written
from everyrounding.errors import BadNumber, NotAsked
from everyrounding.families import check_ranks, unit_ranges, units_apart
from everyrounding.formats import check_format
from everyrounding.residues import least_residue, proves_none, residue_count, residue_paper
from everyrounding.rounding import check_five, check_near, round_exact
from everyrounding.seats import rank_of_units
from everyrounding.values import check_fits, signed

MOST_APART = 64


def check_apart(form, i, j):
    """Refuse ranks whose unit powers are too far apart."""
    if units_apart(form, i, j) > MOST_APART:
        raise NotAsked()


def check_trip(form, count, i, j, writer, reader):
    """Refuse the first wrong argument, then ranks that are too far apart."""
    check_format(form)
    check_count(count, 1, MOST_FIGURES)
    check_ranks(form, i, j)
    check_five(writer)
    check_five(reader)
    check_apart(form, i, j)


def trip_of(form, count, x, writer, reader):
    """The text of a positive number of the format, the number that is read, and whether it is the first one."""
    n, d = size_parts(x)
    figures, k, _ = some_figures(0, n, d, count, writer)
    exact = (figures * ten_to(max(k, 0)), ten_to(max(-k, 0)), 1)
    found = round_exact(form, exact, reader, 0)[0]
    return (written(0, figures, k), found, found == x)


def comes_back(form, count, m, q, writer, reader):
    """True if the number m * 2^q of the format comes back."""
    return trip_of(form, count, signed(0, m, q), writer, reader)[2]


def single_numbers(form, q, low, high):
    """Of the m from low to high of the unit power q those that are run one by one, and what remains of the range."""
    p, lo, hi = form
    half = 1 << (p - 1)
    top = (1 << p) - 1
    singles = []
    if q > lo and low == half:
        singles.append(half)
        low = low + 1
    if q == hi and high == top:
        singles.append(top)
        high = high - 1
    return (singles, low, high)


def scaled(k, q):
    """Numerator and denominator of 10^k / 2^q."""
    return (ten_to(max(k, 0)) << max(-q, 0), ten_to(max(-k, 0)) << max(q, 0))


def least_count(k, q):
    """The least m with m * 2^q at least 10^k."""
    n, d = scaled(k, q)
    return -(-n // d)


def decade_halves(q, low, high, t, b):
    """The first and the last m' with m = 2m' + b from low to high and 10^t <= m * 2^q < 10^(t+1)."""
    first = max(low, least_count(t, q))
    last = min(high, least_count(t + 1, q) - 1)
    return (-((b - first) // 2), (last - b) // 2)


def first_up(writer, V, c):
    """The first rest that is written upward, in a text's unit V behind a multiple of the parity c."""
    if writer == "zero" or writer == "down":
        return V
    if writer == "up":
        return 1
    return V // 2 if writer == "away" else V // 2 + 1 - c


def low_and_high(reader, V, W, b):
    """The first rest that fails when it is written downward, and the first that does not when it is written upward."""
    if reader == "zero" or reader == "down":
        return (1, V - W + 1)
    if reader == "up":
        return (W, V)
    if reader == "away":
        return (W // 2 + 1, V - W // 2 + 1)
    return (W // 2 + 1 - b, V - W // 2 + b)


def side_residues(writer, reader, V, W, b, c):
    """The sides of a decade with their residues l and r, as far as they hold any."""
    up = first_up(writer, V, c)
    low, high = low_and_high(reader, V, W, b)
    base = c * V
    sides = [("low", base + low, base + up), ("high", base + up, base + high)]
    return [(side, l, r) for side, l, r in sides if l < r]


def text_units(count, q, t):
    """The steps of numbers and of texts, W and V, in a unit so fine that all residues are integers."""
    finer = max(0, 1 - q)
    k = t - count + 1
    tens = max(0, -k)
    return (ten_to(tens) << (q + finer + 1), ten_to(k + tens) << (finer + 1))


def unit_pieces(count, q, low, high, writer, reader):
    """The pieces of the m from low to high of the unit power q."""
    if low > high:
        return []
    first_t = decimal_power(low << max(q, 0), 1 << max(-q, 0))
    last_t = decimal_power(high << max(q, 0), 1 << max(-q, 0))
    found = []
    for b in range(2):
        for t in range(first_t, last_t + 1):
            first, last = decade_halves(q, low, high, t, b)
            if first > last:
                continue
            W, V = text_units(count, q, t)
            for c in range(2):
                for side, l, r in side_residues(writer, reader, V, W, b, c):
                    found.append((q, t, b, c, side, first, last, 2 * W, b * W, 2 * V, l, r))
    return found


def piece_count(piece):
    """How many numbers of a piece fail."""
    first, last, A, B, M, l, r = piece[5:]
    return residue_count(A, B, M, l, r, first, last)


def piece_first(piece):
    """The m of the first number of a piece that fails, None if none does."""
    first, last, A, B, M, l, r = piece[5:]
    found = least_residue(A, B, M, l, r, first, last)
    return None if found is None else 2 * found + piece[2]


def piece_paper(piece):
    """The residue paper of a piece."""
    first, last, A, B, M, l, r = piece[5:]
    return residue_paper(A, B, M, l, r, first, last)


def piece_proved(piece, paper):
    """True if the paper proves that no number of the piece fails."""
    first, last, A, B, M, l, r = piece[5:]
    return proves_none(paper, A, B, M, l, r, first, last)


def unit_parts(form, count, bounds, writer, reader):
    """The single m and the pieces of a unit power with its first and last m."""
    q, low, high = bounds
    singles, low, high = single_numbers(form, q, low, high)
    return (singles, unit_pieces(count, q, low, high, writer, reader))


def trip_parts(form, count, i, j, writer, reader):
    """For each unit power of the ranks i..j: this power, its single m and its pieces."""
    found = []
    for bounds in unit_ranges(form, i, j):
        singles, told = unit_parts(form, count, bounds, writer, reader)
        found.append((bounds[0], singles, told))
    return found


def failing_singles(form, count, q, singles, writer, reader):
    """Those of the single m of a unit power that do not come back."""
    return [m for m in singles if not comes_back(form, count, m, q, writer, reader)]


def least_of_pieces(told):
    """The least m that fails in the pieces of one unit power, None if none does."""
    decades = {}
    for piece in told:
        decades.setdefault(piece[1], []).append(piece)
    # The decades follow one another: the first one with a number that fails has the least of all.
    for t in sorted(list(decades)):
        firsts = [piece_first(piece) for piece in decades[t]]
        failing = [m for m in firsts if m is not None]
        if failing:
            return min(failing)
    return None


def first_failing(form, count, part, writer, reader):
    """The least rank that fails in the part of one unit power, None if none does."""
    q, singles, told = part
    failing = failing_singles(form, count, q, singles, writer, reader)
    m = least_of_pieces(told)
    if m is not None:
        failing.append(m)
    return rank_of_units(form, min(failing), q) if failing else None


def all_come_back(form, count, i, j, writer, reader):
    """True if all ranks i..j come back; the search ends at the first unit power at which some do not."""
    for bounds in unit_ranges(form, i, j):
        singles, told = unit_parts(form, count, bounds, writer, reader)
        if failing_singles(form, count, bounds[0], singles, writer, reader):
            return False
        for piece in told:
            if piece_count(piece) > 0:
                return False
    return True


def trip(form, count, x, *, writer="even", reader="even"):
    """The text of x with so many figures, the number that is read from it, and whether this is x."""
    check_format(form)
    check_count(count, 1, MOST_FIGURES)
    check_fits(form, x)
    if x[0] == 1 or x[1] < 1:
        raise BadNumber()
    check_five(writer)
    check_five(reader)
    return trip_of(form, count, x, writer, reader)


def trip_pieces(form, count, i, j, *, writer="even", reader="even"):
    """The ranks of i..j that are run one by one, and the pieces of all others."""
    check_trip(form, count, i, j, writer, reader)
    ranks = []
    found = []
    for q, singles, told in trip_parts(form, count, i, j, writer, reader):
        ranks.extend([rank_of_units(form, m, q) for m in singles])
        found.extend(told)
    return (ranks, found)


def trip_count(form, count, i, j, *, writer="even", reader="even"):
    """How many of the ranks i..j do not come back."""
    check_trip(form, count, i, j, writer, reader)
    total = 0
    for q, singles, told in trip_parts(form, count, i, j, writer, reader):
        failing = failing_singles(form, count, q, singles, writer, reader)
        total = total + len(failing) + sum([piece_count(piece) for piece in told])
    return total


def trip_question(form, count, i, j, *, writer="even", reader="even"):
    """Whether all ranks i..j come back, with a paper or the least rank that does not."""
    check_trip(form, count, i, j, writer, reader)
    parts = trip_parts(form, count, i, j, writer, reader)
    for part in parts:
        found = first_failing(form, count, part, writer, reader)
        if found is not None:
            return ("fails", found)
    return ("holds", [piece_paper(piece) for _, _, told in parts for piece in told])


def trip_paper_holds(form, count, i, j, paper, *, writer="even", reader="even"):
    """True if the paper proves that all ranks i..j come back."""
    check_trip(form, count, i, j, writer, reader)
    parts = trip_parts(form, count, i, j, writer, reader)
    for q, singles, _ in parts:
        if failing_singles(form, count, q, singles, writer, reader):
            return False
    found = [piece for _, _, told in parts for piece in told]
    if type(paper) is not list or len(paper) != len(found):
        return False
    return all([piece_proved(piece, told) for piece, told in zip(found, paper)])


def enough_figures(p):
    """The least count of figures with which every number of p digits comes back, to the nearest both ways."""
    check_count(p, 2, 140)
    count = 1
    while ten_to(count - 1) <= 1 << p:
        count = count + 1
    return count


def least_figures(form, i, j, *, near="even", near2="even"):
    """The least count of figures with which all ranks i..j come back, written and read to the nearest."""
    check_format(form)
    check_ranks(form, i, j)
    check_near(near)
    check_near(near2)
    check_apart(form, i, j)
    count = 1
    while not all_come_back(form, count, i, j, near, near2):
        count = count + 1
    return count
