"""Exact numbers [9]: the tuples (n, d, k), fractions and square roots of fractions, compared and placed exactly."""

from math import gcd, isqrt

from everyrounding.checks import are_integers, check_count
from everyrounding.errors import BadExact
from everyrounding.values import compare_integers

EXACT_BITS = 12000


def is_exact(value):
    """True for an exact number."""
    if not are_integers(value, 3):
        return False
    n, d, k = value
    if d < 1 or k < 1 or k > 2 or (k == 2 and n < 0):
        return False
    return n.bit_length() <= EXACT_BITS and d.bit_length() <= EXACT_BITS


def check_exact(exact):
    """Refuse what is no exact number."""
    if not is_exact(exact):
        raise BadExact()


def lowest(n, d, k):
    """The exact number with n/d in lowest terms."""
    common = gcd(n, d)
    return (n // common, d // common, k)


def powered(base, k):
    """The base, or its square for k = 2."""
    return base if k == 1 else base * base


def power_of(exact):
    """The E with 2^E <= |z| < 2^(E+1), for an exact number other than zero."""
    n, d, k = exact
    n = abs(n)
    power = n.bit_length() - d.bit_length()
    if power >= 0:
        below = n < (d << power)
    else:
        below = (n << -power) < d
    if below:
        power = power - 1
    return power if k == 1 else power // 2


def place_of(exact, unit):
    """The whole units 2^unit in the size of the exact number, and where it lies between this and the next multiple."""
    n, d, k = exact
    shift = unit if k == 1 else 2 * unit
    over = abs(n) << max(-shift, 0)
    under = d << max(shift, 0)
    count = over // under if k == 1 else isqrt(over // under)
    if over == powered(count, k) * under:
        return (count, 0)
    half = powered(2 * count + 1, k) * under
    return (count, 2 + compare_integers(over << k, half))


def sign_of_exact(exact):
    """-1, 0 or 1 as the exact number is below, equal to or above zero."""
    return compare_integers(exact[0], 0)


def compare_values(exact, other):
    """-1, 0 or 1 as the first exact number is less than, equal to or greater than the second."""
    sign = sign_of_exact(exact)
    if sign != sign_of_exact(other):
        return compare_integers(sign, sign_of_exact(other))
    n, d, k = exact
    n2, d2, k2 = other
    if k < k2:
        n, d = n * n, d * d
    if k2 < k:
        n2, d2 = n2 * n2, d2 * d2
    return sign * compare_integers(abs(n) * d2, abs(n2) * d)


def fraction_of(n, d, k):
    """The exact number n/d, or its root, in lowest terms; refuse what is none as it stands."""
    check_exact((n, d, k))
    return lowest(n, d, k)


def ratio(n, d):
    """The exact number n/d in lowest terms."""
    return fraction_of(n, d, 1)


def root_of(n, d):
    """The exact square root of n/d, n/d in lowest terms."""
    return fraction_of(n, d, 2)


def sign_of(exact):
    """-1, 0 or 1 as the exact number is below, equal to or above zero."""
    check_exact(exact)
    return sign_of_exact(exact)


def high_power(exact):
    """The E with 2^E <= |z| < 2^(E+1)."""
    check_exact(exact)
    if exact[0] == 0:
        raise BadExact()
    return power_of(exact)


def place(exact, u):
    """The whole units 2^u in the size of the exact number, and where it lies behind them [10]."""
    check_exact(exact)
    check_count(u, -5000, 5000)
    return place_of(exact, u)


def compare_exact(exact, other):
    """-1, 0 or 1 as the first is less than, equal to or greater than the second."""
    check_exact(exact)
    check_exact(other)
    return compare_values(exact, other)
