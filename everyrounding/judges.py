"""Judging an answer to a question [51]: a paper by its judge, a witness by running the claim at it."""

from everyrounding.agree import Agreement, Bounding, is_tree
from everyrounding.asks import KINDS, ask, check_question
from everyrounding.chains import goal_of
from everyrounding.checks import is_integer
from everyrounding.doors import exact_result, fails_both_ways
from everyrounding.families import member_of
from everyrounding.gaps import are_unlike, in_house
from everyrounding.order import compare_total, is_difference_exact
from everyrounding.places import is_exact, power_of
from everyrounding.plans import is_plan, plan_answer
from everyrounding.ranges import is_point, numbers_at
from everyrounding.rounding import round_exact
from everyrounding.seats import number_of_rank
from everyrounding.spanpapers import is_spans_paper, spans_of
from everyrounding.spans import contains, is_span
from everyrounding.splits import rest_of
from everyrounding.standins import standin_paper_holds
from everyrounding.through import through_paper_holds
from everyrounding.trips import trip_of, trip_paper_holds
from everyrounding.values import are_alike, exact_value, fits_form, is_finite, is_number

# The kinds whose claims the judge decides anew, without a paper.
BARE_KINDS = ("table", "house", "door", "sumdoor", "orders", "split", "difference")
DOOR_POWER = 400

# How many members a failing answer of each kind has behind its first word.
WITNESSES = {
    "table": 1,
    "house": 1,
    "through": 2,
    "standin": 1,
    "trip": 1,
    "door": 2,
    "sumdoor": 2,
    "orders": 3,
    "split": 2,
    "difference": 2,
    "agree": 1,
    "within": 1,
    "spans": 1,
}


def is_valued(form, value):
    """True for a zero or a finite number of the format."""
    return is_number(value) and value[1] >= 0 and fits_form(form, value)


def table_fails(members, told):
    """True if an exact number is rounded unlike on the two ways of a table."""
    form, five, inner, mode = members
    if not is_exact(told[0]) or told[0][0] == 0:
        return False
    return are_unlike(((inner, mode), (form, five)), ((form, five),), told[0])


def house_fails(members, told):
    """True if two chains give unlike results for an exact number of the house."""
    chain, chain2 = members
    if not is_exact(told[0]) or not in_house(goal_of(chain), told[0]):
        return False
    return are_unlike(chain, chain2, told[0])


def is_place(value, series):
    """True for an integer that is the place of a member of the series."""
    return is_integer(value) and series[3] <= value <= series[4]


def through_fails(members, told):
    """True if two chains give unlike results for a member of the house."""
    chain, chain2, family = members
    place, m = told
    if not is_integer(place) or place < 0 or place >= len(family) or not is_place(m, family[place]):
        return False
    exact = member_of(family[place], m)
    return in_house(goal_of(chain), exact) and are_unlike(chain, chain2, exact)


def standin_fails(members, told):
    """True if the members of two series at a place round to unlike numbers."""
    form, series, series2, mode = members
    if not is_place(told[0], series):
        return False
    found = [round_exact(form, member_of(part, told[0]), mode, 0)[0] for part in (series, series2)]
    return not are_alike(found[0], found[1])


def trip_fails(members, told):
    """True if a rank of the range does not come back."""
    form, count, i, j, writer, reader = members
    if not is_integer(told[0]) or told[0] < i or told[0] > j:
        return False
    return not trip_of(form, count, number_of_rank(form, told[0]), writer, reader)[2]


def is_short(value, p):
    """True for a finite number with at most p digits."""
    return is_number(value) and is_finite(value) and value[1].bit_length() <= p


def door_fails(members, told):
    """True if an operation fails at the door on operands whose result is neither very small nor very great."""
    op, near, p, P = members
    x, y = told
    if not is_short(x, p):
        return False
    if op == "root":
        if y is not None or x[0] == 1:
            return False
    elif not is_short(y, p):
        return False
    exact = exact_result(op, x, y)
    if exact[0] == 0 or not -DOOR_POWER <= power_of(exact) < DOOR_POWER:
        return False
    return fails_both_ways(op, (p, -600, 600), (P, -600, 600), x, y, near)


def sumdoor_fails(members, told):
    """True if a sum fails at the door of a bounded format."""
    form, inner, mode = members
    x, y = told
    return is_valued(form, x) and is_valued(form, y) and fails_both_ways("add", form, inner, x, y, mode)


def is_multiple(value, K, u):
    """True for a number k * 2^u with an integer k of size at most K, zeros of both signs among them."""
    if not is_number(value) or value[1] < 0:
        return False
    return value[1] == 0 or (value[2] >= u and value[1] << (value[2] - u) <= K)


def orders_fail(members, told):
    """True if two plans give unlike numbers for such multiples."""
    form, N, K, u, mode = members
    xs, plan, plan2 = told
    if type(xs) is not list or len(xs) != N or not all([is_multiple(x, K, u) for x in xs]):
        return False
    if not is_plan(plan, N) or not is_plan(plan2, N):
        return False
    return not are_alike(plan_answer(form, plan, xs, mode)[0], plan_answer(form, plan2, xs, mode)[0])


def split_fails(members, told):
    """True if the exact rest of an operation without overflow does not fit."""
    op, form, mode = members
    x, y = told
    if not is_valued(form, x) or not is_valued(form, y) or (op == "div" and y[1] == 0):
        return False
    answer, exact, fit = rest_of(op, form, x, y, mode=mode)
    return "overflow" not in answer[1] and exact is not None and not fit


def difference_fails(members, told):
    """True if the difference of two numbers in this ratio does not fit."""
    form, n, d = members
    x, y = told
    for value in told:
        if not is_short(value, form[0]) or not fits_form(form, value) or value[0] == 1:
            return False
    n_x, d_x, _ = exact_value(x)
    n_y, d_y, _ = exact_value(y)
    if compare_total(x, y) < 0 or n_x * d_y * d > n_y * d_x * n:
        return False
    return not is_difference_exact(form, x, y)


def claim_of(kind, members):
    """The claim of a question about all points of a box, and the box."""
    if kind == "agree":
        program, program2, box, _ = members
        return (Agreement(program, program2), box)
    program, box, low, high, _ = members
    return (Bounding(program, low, high), box)


def point_fails(kind, members, told):
    """True if the claim fails at a point of the box."""
    claim, box = claim_of(kind, members)
    return is_point(told[0], box) and not claim.holds_at(numbers_at(box, told[0]))


def spans_fail(members, told):
    """True if a span is the program's last one and does not lie within the ends."""
    program, spans, low, high = members
    if not is_span(told[0]) or told[0] != spans_of(program, spans)[-1]:
        return False
    return not contains((low, high), told[0])


def counted_fails(kind, members, told):
    """True if a question about chains, families or trips fails so."""
    if kind == "table":
        return table_fails(members, told)
    if kind == "house":
        return house_fails(members, told)
    if kind == "through":
        return through_fails(members, told)
    if kind == "standin":
        return standin_fails(members, told)
    return trip_fails(members, told)


def operated_fails(kind, members, told):
    """True if a question about operations fails so."""
    if kind == "door":
        return door_fails(members, told)
    if kind == "sumdoor":
        return sumdoor_fails(members, told)
    if kind == "orders":
        return orders_fail(members, told)
    if kind == "split":
        return split_fails(members, told)
    return difference_fails(members, told)


def witness_fails(kind, members, told):
    """True if the claim of the question fails at this witness."""
    if len(told) != WITNESSES[kind]:
        return False
    if kind in KINDS[:5]:
        return counted_fails(kind, members, told)
    if kind in KINDS[5:10]:
        return operated_fails(kind, members, told)
    if kind == "spans":
        return spans_fail(members, told)
    return point_fails(kind, members, told)


def paper_holds(kind, members, paper):
    """True if the paper proves the claim of the question."""
    if kind == "through":
        chain, chain2, family = members
        return through_paper_holds(chain, chain2, family, paper)
    if kind == "standin":
        form, series, series2, mode = members
        return standin_paper_holds(form, series, series2, paper, mode=mode)
    if kind == "trip":
        form, count, i, j, writer, reader = members
        return trip_paper_holds(form, count, i, j, paper, writer=writer, reader=reader)
    if kind == "spans":
        program, spans, low, high = members
        return is_spans_paper(program, spans, paper) and contains((low, high), paper[-1])
    claim, box = claim_of(kind, members)
    return is_tree(claim, box, paper)


def judge(question, answer):
    """True if the answer to the question is right: its claim, its paper or its witness."""
    check_question(question)
    if type(answer) is not tuple or not answer or type(answer[0]) is not str:
        return False
    kind = question[0]
    members = question[1:]
    told = answer[1:]
    if answer[0] == "fails":
        return witness_fails(kind, members, told)
    if answer[0] != "holds":
        return False
    if kind in BARE_KINDS:
        return not told and ask(question) == ("holds",)
    return len(told) == 1 and paper_holds(kind, members, told[0])
