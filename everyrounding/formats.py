"""Formats [5]: the tuples (p, lo, hi), their bounds, and their texts."""

from everyrounding.checks import are_integers, check_count, check_text, integer_end
from everyrounding.errors import BadFormat, BadText


def is_format(form):
    """True for a format."""
    if not are_integers(form, 3):
        return False
    p, lo, hi = form
    return 2 <= p <= 140 and -600 <= lo <= hi <= 600


def check_format(form):
    """Refuse what is no format."""
    if not is_format(form):
        raise BadFormat()


def count_of(form):
    """The number n of the positive finite numbers of a format."""
    p, lo, hi = form
    return ((hi - lo + 2) << (p - 1)) - 1


def unit_at(form, power):
    """The power of the last digit's unit for sizes from 2^power to below twice that."""
    p, lo, _ = form
    return max(power - p + 1, lo)


def over_power(form):
    """The power of the first size that is too great for the format."""
    check_format(form)
    p, _, hi = form
    return hi + p


def many(form):
    """How many positive finite numbers the format has."""
    check_format(form)
    return count_of(form)


def greatest(form):
    """The greatest number of the format."""
    check_format(form)
    p, _, hi = form
    return (0, (1 << p) - 1, hi)


def least(form):
    """The least positive number of the format."""
    check_format(form)
    return (0, 1, form[1])


def line(form):
    """The number below which sizes are tiny."""
    check_format(form)
    p, lo, _ = form
    return (0, 1, lo + p - 1)


def unit_power(form, E):
    """The power of the unit of the last digit for sizes from 2^E to below 2^(E+1)."""
    check_format(form)
    check_count(E, -5000, 5000)
    return unit_at(form, E)


def reaches_all(form, inner):
    """True if the first format goes as far down and up as the second."""
    return form[1] <= inner[1] and form[2] + form[0] >= inner[2] + inner[0]


def holds_all(form, inner):
    """True if every number of inner is a number of form."""
    check_format(form)
    check_format(inner)
    return form[0] >= inner[0] and reaches_all(form, inner)


def reaches(form, inner):
    """True if form goes as far down and up as inner, with any number of digits."""
    check_format(form)
    check_format(inner)
    return reaches_all(form, inner)


def finer_by(form, inner):
    """By how many digits, and by how many powers at the low end, form is finer: the lesser of the two."""
    check_format(form)
    check_format(inner)
    return min(form[0] - inner[0], inner[1] - form[1])


def format_text(form):
    """The format as a text such as 24:-149:104."""
    check_format(form)
    p, lo, hi = form
    return f"{p}:{lo}:{hi}"


def read_format(text):
    """The format that format_text writes so."""
    check_text(text)
    parts = []
    at = 0
    for part in range(3):
        if part > 0:
            if text[at:at + 1] != ":":
                raise BadText(at)
            at += 1
        end, whole = integer_end(text, at)
        if not whole:
            raise BadText(end)
        parts.append(int(text[at:end]))
        at = end
    if at < len(text):
        raise BadText(at)
    form = tuple(parts)
    check_format(form)
    return form
