"""Residue counts [32] with their papers, and sums of rounded quotients [33], by floor sums."""

from everyrounding.checks import check_any_count, check_count
from everyrounding.errors import BadCount
from everyrounding.floorsums import check_modulus, rows_hold, sum_of_floors, told_rows
from everyrounding.rounding import check_mode

MOST_MEMBERS = 1 << 199


def check_range(a, b):
    """Refuse what is no range of fewer than 2^199 steps."""
    check_any_count(a)
    check_count(b, a, a + MOST_MEMBERS - 1)


def check_residues(A, B, M, l, r, a, b):
    """Refuse the first wrong argument of a residue count."""
    check_any_count(A)
    check_any_count(B)
    check_modulus(M)
    check_count(l, 0, M)
    check_count(r, l, M)
    check_range(a, b)


def asked_sum(A, B, M, bound, a, b):
    """N, M, A, B of the floor sum that counts what lies from this bound on."""
    return (b - a + 1, M, A, A * a + B - bound)


def residue_count(A, B, M, l, r, a, b):
    """How many m in a..b have (A*m + B) mod M from l to below r."""
    N, _, _, low = asked_sum(A, B, M, l, a, b)
    high = asked_sum(A, B, M, r, a, b)[3]
    return sum_of_floors(N, M, A, low) - sum_of_floors(N, M, A, high)


def least_residue(A, B, M, l, r, a, b):
    """The least m that residue_count counts, None if there is none."""
    if residue_count(A, B, M, l, r, a, b) == 0:
        return None
    low = a
    high = b
    while low < high:
        middle = (low + high) // 2
        if residue_count(A, B, M, l, r, low, middle) > 0:
            high = middle
        else:
            low = middle + 1
    return low


def residue_paper(A, B, M, l, r, a, b):
    """The told rows of the two floor sums of a residue count."""
    N, _, _, low = asked_sum(A, B, M, l, a, b)
    high = asked_sum(A, B, M, r, a, b)[3]
    return (told_rows(N, M, A, low), told_rows(N, M, A, high))


def proves_none(paper, A, B, M, l, r, a, b):
    """True if the paper proves that residue_count is 0."""
    if type(paper) is not tuple or len(paper) != 2 or not rows_hold(paper[0]) or not rows_hold(paper[1]):
        return False
    first = paper[0][0]
    second = paper[1][0]
    if first[:4] != asked_sum(A, B, M, l, a, b) or second[:4] != asked_sum(A, B, M, r, a, b):
        return False
    return first[4] == second[4]


def count_residues(A, B, M, l, r, a, b):
    """How many m in a..b have (A*m + B) mod M from l to below r."""
    check_residues(A, B, M, l, r, a, b)
    return residue_count(A, B, M, l, r, a, b)


def first_residue(A, B, M, l, r, a, b):
    """The least m in a..b with (A*m + B) mod M from l to below r, None if there is none."""
    check_residues(A, B, M, l, r, a, b)
    return least_residue(A, B, M, l, r, a, b)


def residue_rows(A, B, M, l, r, a, b):
    """The paper of a residue count: the rows of its two floor sums."""
    check_residues(A, B, M, l, r, a, b)
    return residue_paper(A, B, M, l, r, a, b)


def residues_none(paper, A, B, M, l, r, a, b):
    """True if the paper proves that no m in a..b has (A*m + B) mod M from l to below r."""
    check_residues(A, B, M, l, r, a, b)
    return proves_none(paper, A, B, M, l, r, a, b)


def rounding_parts(mode, X0, X1, D, a, b):
    """The parts c, N, M, A, B of a round sum."""
    N = b - a + 1
    start = X0 + X1 * a
    if mode == "zero" or mode == "down":
        return [(1, N, D, X1, start)]
    if mode == "up":
        return [(1, N, D, X1, start + D - 1)]
    if mode == "odd":
        return [(1, N, 2 * D, X1, start), (1, N, 2 * D, X1, start + 2 * D - 1)]
    nearest = (1, N, 2 * D, 2 * X1, 2 * start + D)
    if mode == "away":
        return [nearest]
    return [nearest, (-1, N, 4 * D, 2 * X1, 2 * start - D), (1, N, 4 * D, 2 * X1, 2 * start - D - 1)]


def parts_sum(parts):
    """The sum of the parts, each c times its floor sum."""
    return sum([c * sum_of_floors(N, M, A, B) for c, N, M, A, B in parts])


def check_rounding(mode, X0, X1, D, a, b):
    """Refuse the first wrong argument of a round sum."""
    check_mode(mode)
    check_any_count(X0)
    check_any_count(X1)
    check_count(D, 1, None)
    check_range(a, b)
    if X0 + X1 * a < 0 or X0 + X1 * b < 0:
        raise BadCount()


def round_parts(mode, X0, X1, D, a, b):
    """The parts of the sum of (X0 + X1*m)/D rounded to integers for m in a..b, each c times a floor sum."""
    check_rounding(mode, X0, X1, D, a, b)
    return rounding_parts(mode, X0, X1, D, a, b)


def round_sum(mode, X0, X1, D, a, b):
    """The sum of (X0 + X1*m)/D rounded to integers by the mode, for m in a..b."""
    check_rounding(mode, X0, X1, D, a, b)
    return parts_sum(rounding_parts(mode, X0, X1, D, a, b))
