"""Programs run on spans, and papers of spans [44]."""

from everyrounding.checks import check_count
from everyrounding.errors import BadSpan
from everyrounding.formats import check_format
from everyrounding.programs import check_program
from everyrounding.seats import number_of_seat, seat_of
from everyrounding.spandeeds import minus_ends, muladd_ends, product_ends, quotient_spans, root_spans, size_ends
from everyrounding.spandeeds import sum_ends
from everyrounding.spans import check_spans, contains, hull_of, is_span, is_span_of, plus_zero, point_of
from everyrounding.spans import rounded_span, span_values
from everyrounding.stations import OPERANDS, check_op

MOST_PIECES = 64


def interval_ends(op, parts):
    """The exact ends of the interval of all results of an operation other than div and root."""
    if op == "add":
        return sum_ends(parts[0], parts[1])
    if op == "sub":
        return sum_ends(parts[0], minus_ends(parts[1]))
    if op == "mul":
        return product_ends(parts[0], parts[1])
    if op == "muladd":
        return muladd_ends(parts[0], parts[1], parts[2])
    if op == "minus":
        return minus_ends(parts[0])
    return size_ends(parts[0]) if op == "size" else parts[0]


def tightest(op, form, spans):
    """The tightest step of an operation on so many spans as it has operands, None if it is empty."""
    parts = [span_values(span) for span in spans]
    if op == "div":
        found = quotient_spans(form, parts[0], parts[1])
    elif op == "root":
        found = root_spans(form, parts[0])
    else:
        return rounded_span(form, interval_ends(op, parts))
    if not found:
        return None
    return hull_of(found[0], found[-1])


def spans_of(program, spans):
    """The span of each step, None from the first empty one on."""
    _, constants, steps = program
    known = list(spans) + [point_of(constant) for constant in constants]
    found = []
    for op, args, form, _ in steps:
        if found and found[-1] is None:
            span = None
        else:
            span = tightest(op, form, [known[place] for place in args])
        known.append(span)
        found.append(span)
    return found


def is_spans_paper(program, spans, claims):
    """True if the claims are a paper of spans for the program on these spans."""
    _, constants, steps = program
    if type(claims) is not list or len(claims) != len(steps):
        return False
    known = list(spans) + [point_of(constant) for constant in constants]
    for (op, args, form, _), claim in zip(steps, claims):
        if not is_span(claim) or not is_span_of(form, claim):
            return False
        span = tightest(op, form, [known[place] for place in args])
        if span is None or not contains(claim, span):
            return False
        known.append(claim)
    return True


def check_input_spans(program, spans):
    """Refuse a wrong program, then what is no list of a span for each input."""
    check_program(program)
    check_spans(spans)
    if len(spans) != program[0]:
        raise BadSpan()


def piece_points(form, span, k):
    """The numbers that cut the span into at most k pieces with as many seats, its ends among them."""
    low = seat_of(form, span[0])
    high = seat_of(form, span[1])
    found = []
    for i in range(k + 1):
        x = plus_zero(number_of_seat(form, low + (high - low) * i // k))
        if not found or found[-1] != x:
            found.append(x)
    return found


def pieces_of(form, span, k):
    """The spans into which the span is cut."""
    cuts = piece_points(form, span, k)
    if len(cuts) == 1:
        return [(cuts[0], cuts[0])]
    return [(low, high) for low, high in zip(cuts, cuts[1:])]


def step_span(op, form, spans):
    """The tightest step of the operation on the spans, None if it is empty."""
    check_op(op)
    check_format(form)
    check_spans(spans)
    if len(spans) != OPERANDS[op]:
        raise BadSpan()
    return tightest(op, form, spans)


def run_spans(program, spans):
    """The span of each step, None from the first empty one on."""
    check_input_spans(program, spans)
    return spans_of(program, spans)


def spans_paper_holds(program, spans, claims):
    """True if each claim is a span of its step's format and holds the step on the claims before it."""
    check_input_spans(program, spans)
    return is_spans_paper(program, spans, claims)


def pieces_hull(program, form, spans, k):
    """The hull of the last spans over the pieces of the first span, None if all are empty."""
    check_program(program)
    check_format(form)
    check_spans(spans)
    if len(spans) != program[0] or not is_span_of(form, spans[0]):
        raise BadSpan()
    check_count(k, 1, MOST_PIECES)
    told = None
    for piece in pieces_of(form, spans[0], k):
        last = spans_of(program, [piece] + spans[1:])[-1]
        if last is not None:
            told = last if told is None else hull_of(told, last)
    return told
