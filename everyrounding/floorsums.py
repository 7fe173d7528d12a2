"""Floor sums [31], and the rows that prove them."""

from everyrounding.checks import are_integers, check_any_count, check_count

MOST_TERMS = (1 << 200) - 1
SHORT = 4


def reduced(N, M, A, B):
    """The quotients and rests of A and B by M, and Y."""
    outer_a, rest_a = divmod(A, M)
    outer_b, rest_b = divmod(B, M)
    return (outer_a, rest_a, outer_b, rest_b, (rest_a * N + rest_b) // M)


def outer_sum(N, outer_a, outer_b):
    """The sum of outer_a*i + outer_b for i below N."""
    return outer_a * (N * (N - 1) // 2) + outer_b * N


def next_asked(N, M, A, B):
    """N, M, A, B of the next row, None if this one is an end."""
    _, rest_a, _, rest_b, Y = reduced(N, M, A, B)
    if N <= SHORT or Y == 0:
        return None
    return (Y, rest_a, M, M - rest_b + rest_a - 1)


def end_sum(N, M, A, B):
    """The floor sum of an end."""
    if N <= SHORT:
        return sum([(A * i + B) // M for i in range(N)])
    outer_a, _, outer_b, _, _ = reduced(N, M, A, B)
    return outer_sum(N, outer_a, outer_b)


def upper_sum(N, M, A, B, after):
    """The floor sum of a row from that of the next row."""
    outer_a, _, outer_b, _, Y = reduced(N, M, A, B)
    return outer_sum(N, outer_a, outer_b) + N * Y - after


def told_rows(N, M, A, B):
    """The rows from the asked one to the first end."""
    asked = [(N, M, A, B)]
    following = next_asked(N, M, A, B)
    while following is not None:
        asked.append(following)
        N, M, A, B = following
        following = next_asked(N, M, A, B)
    total = end_sum(N, M, A, B)
    rows = [(N, M, A, B, total)]
    for N, M, A, B in reversed(asked[:-1]):
        total = upper_sum(N, M, A, B, total)
        rows.append((N, M, A, B, total))
    return rows[::-1]


def sum_of_floors(N, M, A, B):
    """The floor sum."""
    return told_rows(N, M, A, B)[0][4]


def is_row(value):
    """True for a tuple of five integers that asks for a floor sum."""
    return are_integers(value, 5) and value[0] >= 0 and value[1] >= 1


def follows(row, after):
    """True if the second row is the next one of the first, which has the right sum if the second one has."""
    N, M, A, B, total = row
    _, rest_a, _, rest_b, Y = reduced(N, M, A, B)
    if Y <= 0 or after[:4] != (Y, rest_a, M, M - rest_b + rest_a - 1):
        return False
    return total == upper_sum(N, M, A, B, after[4])


def is_right_end(row):
    """True if the row is an end with the right sum."""
    N, M, A, B, total = row
    return next_asked(N, M, A, B) is None and total == end_sum(N, M, A, B)


def check_modulus(M):
    """Refuse what is no integer from 1 to below 2^9000."""
    check_any_count(M)
    check_count(M, 1, None)


def check_asked(N, M, A, B):
    """Refuse the first wrong argument of a floor sum."""
    check_count(N, 0, MOST_TERMS)
    check_modulus(M)
    check_any_count(A)
    check_any_count(B)


def floor_sum(N, M, A, B):
    """The sum of (A*i + B) // M for i = 0 .. N-1."""
    check_asked(N, M, A, B)
    return sum_of_floors(N, M, A, B)


def floor_rows(N, M, A, B):
    """The rows of the floor sum, from the asked one to the first end."""
    check_asked(N, M, A, B)
    return told_rows(N, M, A, B)


def rows_hold(paper):
    """True if the paper is a list of rows in which each one rests on the next and the last is right by itself."""
    if type(paper) is not list or not paper or not all([is_row(row) for row in paper]):
        return False
    for row, after in zip(paper, paper[1:]):
        if not follows(row, after):
            return False
    return is_right_end(paper[-1])
