"""Steps on spans [41]: the least span of a format that holds the exact answers on all members."""

from everyrounding.decread import decimal_value
from everyrounding.errors import BadText
from everyrounding.formats import check_format
from everyrounding.order import compare_total
from everyrounding.places import compare_values, lowest
from everyrounding.spans import are_touching, check_span, check_spans, hull_of, rounded_span, span_values

ZERO_END = (0, 1, 1)
PLUS_END = (1, 0, 1)
MINUS_END = (-1, 0, 1)


def lesser_end(end, end2):
    """The lesser of two exact ends."""
    return end if compare_values(end, end2) <= 0 else end2


def greater_end(end, end2):
    """The greater of two exact ends."""
    return end if compare_values(end, end2) >= 0 else end2


def outer_ends(ends):
    """The least and the greatest of some exact ends."""
    low = ends[0]
    high = ends[0]
    for end in ends[1:]:
        low = lesser_end(low, end)
        high = greater_end(high, end)
    return (low, high)


def end_sum(end, end2):
    """The sum of two exact ends; an infinite one is the sum."""
    n, d, _ = end
    n2, d2, _ = end2
    if d == 0:
        return end
    if d2 == 0:
        return end2
    return lowest(n * d2 + n2 * d, d * d2, 1)


def end_minus(end):
    """The exact end with the other sign."""
    return (-end[0], end[1], end[2])


def end_product(end, end2):
    """The product of two exact ends; zero times an infinity counts 0."""
    if end[0] == 0 or end2[0] == 0:
        return ZERO_END
    return lowest(end[0] * end2[0], end[1] * end2[1], 1)


def end_quotient(end, end2):
    """The quotient of an exact end by one other than zero, not both infinite; a finite one by an infinity is 0."""
    n = end[0] * end2[1]
    d = end[1] * end2[0]
    return lowest(-n, -d, 1) if end2[0] < 0 else lowest(n, d, 1)


def sum_ends(xs, ys):
    """The ends of all sums of members of two spans, which are given by their ends like all spans here."""
    return (end_sum(xs[0], ys[0]), end_sum(xs[1], ys[1]))


def minus_ends(xs):
    """The ends of all members with the other sign."""
    return (end_minus(xs[1]), end_minus(xs[0]))


def product_ends(xs, ys):
    """The ends of all products of members."""
    return outer_ends([end_product(x, y) for x in xs for y in ys])


def size_ends(xs):
    """The ends of the sizes of all members."""
    if xs[0][0] >= 0:
        return xs
    below = minus_ends(xs)
    if below[0][0] >= 0:
        return below
    return (ZERO_END, greater_end(below[1], xs[1]))


def square_ends(xs):
    """The ends of the squares of all members."""
    low, high = size_ends(xs)
    return (end_product(low, low), end_product(high, high))


def muladd_ends(xs, ys, zs):
    """The ends of all products of members of the first two with a summand of the third."""
    return sum_ends(product_ends(xs, ys), zs)


def root_spans(form, xs):
    """The rounded span of the roots of all members that have one, in a list that is empty if none has."""
    if xs[1][0] < 0:
        return []
    low = greater_end(xs[0], ZERO_END)
    return [rounded_span(form, ((low[0], low[1], 2), (xs[1][0], xs[1][1], 2)))]


def least_ends(xs, ys):
    """The ends of the lesser one of each two members."""
    return (lesser_end(xs[0], ys[0]), lesser_end(xs[1], ys[1]))


def greatest_ends(xs, ys):
    """The ends of the greater one of each two members."""
    return (greater_end(xs[0], ys[0]), greater_end(xs[1], ys[1]))


def part_quotient_ends(xs, end):
    """The ends of all quotients of members by numbers above zero and up to this end."""
    low = end_quotient(xs[0], end) if xs[0][0] >= 0 else MINUS_END
    high = end_quotient(xs[1], end) if xs[1][0] <= 0 else PLUS_END
    return (low, high)


def quotient_parts(xs, ys):
    """The ends of the intervals of all quotients of members, at most two of them."""
    if ys[0][0] > 0 or ys[1][0] < 0:
        return [outer_ends([end_quotient(x, y) for x in xs for y in ys if x[1] > 0 or y[1] > 0])]
    found = []
    if ys[1][0] > 0:
        found.append(part_quotient_ends(xs, ys[1]))
    if ys[0][0] < 0:
        found.append(part_quotient_ends(minus_ends(xs), end_minus(ys[0])))
    return found


def quotient_spans(form, xs, ys):
    """The rounded spans of all quotients of members, ascending; two that share a point are one."""
    found = [rounded_span(form, ends) for ends in quotient_parts(xs, ys)]
    if len(found) < 2:
        return found
    one, two = found
    if are_touching(one, two):
        return [hull_of(one, two)]
    return [one, two] if compare_total(one[0], two[0]) < 0 else [two, one]


def check_step_spans(form, spans):
    """Refuse a wrong format, then the first wrong span."""
    check_format(form)
    for span in spans:
        check_span(span)


def span_add(form, span, span2):
    """The span of all sums."""
    check_step_spans(form, (span, span2))
    return rounded_span(form, sum_ends(span_values(span), span_values(span2)))


def span_sub(form, span, span2):
    """The span of all differences."""
    check_step_spans(form, (span, span2))
    return rounded_span(form, sum_ends(span_values(span), minus_ends(span_values(span2))))


def span_mul(form, span, span2):
    """The span of all products."""
    check_step_spans(form, (span, span2))
    return rounded_span(form, product_ends(span_values(span), span_values(span2)))


def span_div(form, span, span2):
    """The spans of all quotients, none, one or two, ascending."""
    check_step_spans(form, (span, span2))
    return quotient_spans(form, span_values(span), span_values(span2))


def span_muladd(form, span, span2, span3):
    """The span of all products with a summand."""
    check_step_spans(form, (span, span2, span3))
    return rounded_span(form, muladd_ends(span_values(span), span_values(span2), span_values(span3)))


def span_least(form, span, span2):
    """The span of the lesser one of each two members."""
    check_step_spans(form, (span, span2))
    return rounded_span(form, least_ends(span_values(span), span_values(span2)))


def span_greatest(form, span, span2):
    """The span of the greater one of each two members."""
    check_step_spans(form, (span, span2))
    return rounded_span(form, greatest_ends(span_values(span), span_values(span2)))


def span_minus(form, span):
    """The span of all members with the other sign."""
    check_step_spans(form, (span,))
    return rounded_span(form, minus_ends(span_values(span)))


def span_size(form, span):
    """The span of all sizes."""
    check_step_spans(form, (span,))
    return rounded_span(form, size_ends(span_values(span)))


def span_square(form, span):
    """The span of the squares of all members."""
    check_step_spans(form, (span,))
    return rounded_span(form, square_ends(span_values(span)))


def span_convert(form, span):
    """The span of all members."""
    check_step_spans(form, (span,))
    return rounded_span(form, span_values(span))


def span_root(form, span):
    """The span of the roots of all members that have one: a list of one span, or of none."""
    check_step_spans(form, (span,))
    return root_spans(form, span_values(span))


def span_text(form, text):
    """The least span that holds the value of a decimal text."""
    check_format(form)
    s, n, d = decimal_value(text)
    if n < 0:
        raise BadText(0)
    value = (-n if s == 1 else n, d, 1)
    return rounded_span(form, (value, value))


def span_sum(form, spans):
    """The span of all sums of one member of each span."""
    check_format(form)
    check_spans(spans)
    total = (ZERO_END, ZERO_END)
    for span in spans:
        total = sum_ends(total, span_values(span))
    return rounded_span(form, total)
