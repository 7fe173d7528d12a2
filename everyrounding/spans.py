"""Spans [40]: pairs of numbers that hold all exact numbers between them."""

from everyrounding.errors import BadSpan
from everyrounding.formats import check_format
from everyrounding.order import check_valued_fits, compare_total, greater, lesser
from everyrounding.places import check_exact, compare_values, lowest
from everyrounding.rounding import round_exact
from everyrounding.seats import number_of_seat, seat_of
from everyrounding.values import check_fits, exact_value, fits_form, is_infinite, is_number, is_zero

MOST_SPANS = 64
PLUS_ZERO = (0, 0, 0)
MINUS_ZERO = (1, 0, 0)
PLUS_INFINITY = (0, -1, 0)
MINUS_INFINITY = (1, -1, 0)


def makes_span(low, high):
    """True if two numbers are the ends of a span."""
    if low == MINUS_ZERO or high == MINUS_ZERO:
        return False
    if (low[1] < 0 and low != MINUS_INFINITY) or (high[1] < 0 and high != PLUS_INFINITY):
        return False
    return compare_total(low, high) <= 0


def is_span(value):
    """True for a span."""
    if type(value) is not tuple or len(value) != 2:
        return False
    return is_number(value[0]) and is_number(value[1]) and makes_span(value[0], value[1])


def check_span(span):
    """Refuse what is no span."""
    if not is_span(span):
        raise BadSpan()


def check_spans(spans):
    """Refuse what is no list of so few spans."""
    if type(spans) is not list or len(spans) > MOST_SPANS:
        raise BadSpan()
    for span in spans:
        check_span(span)


def is_span_of(form, span):
    """True if both ends of a span fit the format."""
    return fits_form(form, span[0]) and fits_form(form, span[1])


def plus_zero(x):
    """The number, a zero as +0."""
    return PLUS_ZERO if is_zero(x) else x


def point_of(x):
    """The span that holds the value of a zero or finite number alone."""
    end = plus_zero(x)
    return (end, end)


def end_value(x):
    """The exact number of an end; 1/0 and -1/0 stand for the infinities, and compare_values orders them rightly."""
    if is_infinite(x):
        return (-1 if x[0] == 1 else 1, 0, 1)
    return exact_value(x)


def span_values(span):
    """The exact numbers of both ends."""
    return (end_value(span[0]), end_value(span[1]))


def rounded_end(form, end, mode):
    """The number for an exact end, rounded into the format by the mode."""
    if end[1] == 0:
        return MINUS_INFINITY if end[0] < 0 else PLUS_INFINITY
    return plus_zero(round_exact(form, end, mode, 0)[0])


def rounded_span(form, ends):
    """The least span of the format that holds all from the one exact end to the other."""
    low, high = ends
    return (rounded_end(form, low, "down"), rounded_end(form, high, "up"))


def contains(span, span2):
    """True if the second span lies within the first."""
    return compare_total(span[0], span2[0]) <= 0 and compare_total(span2[1], span[1]) <= 0


def hull_of(span, span2):
    """The least span that holds both."""
    return (lesser(span[0], span2[0]), greater(span[1], span2[1]))


def are_touching(span, span2):
    """True if two spans have a common member."""
    return compare_total(span[0], span2[1]) <= 0 and compare_total(span2[0], span[1]) <= 0


def span_of(form, x, y):
    """The span from x to y, zeros as +0."""
    check_format(form)
    check_fits(form, x)
    check_fits(form, y)
    span = (plus_zero(x), plus_zero(y))
    check_span(span)
    return span


def point_span(form, x):
    """The span that holds the value of x alone."""
    check_format(form)
    check_valued_fits(form, x)
    return point_of(x)


def whole_line():
    """The span from minus infinity to plus infinity."""
    return (MINUS_INFINITY, PLUS_INFINITY)


def holds_exact(span, exact):
    """True if the exact number lies in the span."""
    check_span(span)
    check_exact(exact)
    low, high = span_values(span)
    return compare_values(low, exact) <= 0 and compare_values(exact, high) <= 0


def holds_span(span, span2):
    """True if the second span lies within the first."""
    check_span(span)
    check_span(span2)
    return contains(span, span2)


def hull(span, span2):
    """The least span that holds both."""
    check_span(span)
    check_span(span2)
    return hull_of(span, span2)


def meet(span, span2):
    """The common part of two spans, None if there is none."""
    check_span(span)
    check_span(span2)
    if not are_touching(span, span2):
        return None
    return (greater(span[0], span2[0]), lesser(span[1], span2[1]))


def width(form, span):
    """The upper end less the lower one, rounded up into the format."""
    check_format(form)
    check_span(span)
    if is_infinite(span[0]) or is_infinite(span[1]):
        return PLUS_INFINITY
    n, d, _ = exact_value(span[1])
    n2, d2, _ = exact_value(span[0])
    return round_exact(form, lowest(n * d2 - n2 * d, d * d2, 1), "up", 0)[0]


def halves(form, span):
    """The two spans into which the number at the middle seat cuts the span."""
    check_format(form)
    check_span(span)
    if not is_span_of(form, span):
        raise BadSpan()
    low, high = span
    middle = number_of_seat(form, (seat_of(form, low) + seat_of(form, high)) // 2)
    if middle == MINUS_INFINITY:
        middle = number_of_seat(form, seat_of(form, middle) + 1)
    cut = plus_zero(middle)
    return [(low, cut), (cut, high)]
