"""Plans [22]: the orders in which numbers can be added, and the claim of orders [23]."""

from everyrounding.checks import check_any_count, check_count, is_integer
from everyrounding.errors import BadNumber, BadPlan, NotAsked, TooMany
from everyrounding.formats import check_format
from everyrounding.rounding import check_mode, joined
from everyrounding.seats import seat_of
from everyrounding.sums import sum_answer
from everyrounding.values import check_numbers, is_zero, signed

MOST_PLACES = 64
MOST_LISTED = 5


def is_plan(value, many):
    """True for a plan for so many numbers."""
    found = [False] * many
    waiting = [value]
    while waiting:
        part = waiting.pop()
        if type(part) is tuple and len(part) == 2:
            waiting.append(part[1])
            waiting.append(part[0])
        elif not is_integer(part) or part < 0 or part >= many or found[part]:
            return False
        else:
            found[part] = True
    return all(found)


def require_plan(plan, many):
    """Refuse what is no plan for so many numbers."""
    if not is_plan(plan, many):
        raise BadPlan()


def check_places(N):
    """Refuse a count of numbers for which there are no plans."""
    check_count(N, 1, MOST_PLACES)


def check_addends(xs):
    """Refuse what is no list of numbers that a plan can add."""
    check_numbers(xs, MOST_PLACES)
    if not xs:
        raise BadNumber()


def left_of(places):
    """The plan that adds these places from left to right."""
    plan = places[0]
    for place in places[1:]:
        plan = (plan, place)
    return plan


def plans_of(places):
    """All plans of these places, in their order."""
    first = places[0]
    others = places[1:]
    if not others:
        return [first]
    found = []
    for mask in range((1 << len(others)) - 1):
        left = [place for i, place in enumerate(others) if (mask >> i) % 2 == 1]
        right = [place for i, place in enumerate(others) if (mask >> i) % 2 == 0]
        ends = plans_of(right)
        for begin in plans_of([first] + left):
            found.extend([(begin, end) for end in ends])
    return found


def plan_answer(form, plan, xs, mode):
    """The answer of a part of a plan."""
    if is_integer(plan):
        return (xs[plan], ())
    x, flags = plan_answer(form, plan[0], xs, mode)
    y, more = plan_answer(form, plan[1], xs, mode)
    z, last = sum_answer(form, x, y, mode)
    return (z, joined(joined(flags, more), last))


def check_plan(plan, N):
    """Refuse what is no plan for N numbers."""
    check_places(N)
    require_plan(plan, N)


def left_plan(N):
    """The plan that adds N numbers from left to right."""
    check_places(N)
    return left_of(list(range(N)))


def all_plans(N):
    """All plans for N numbers."""
    check_places(N)
    if N > MOST_LISTED:
        raise TooMany(MOST_LISTED)
    return plans_of(list(range(N)))


def run_plan(form, plan, xs, *, mode="even"):
    """The answer for the numbers added as the plan says."""
    check_format(form)
    check_addends(xs)
    check_mode(mode)
    require_plan(plan, len(xs))
    return plan_answer(form, plan, xs, mode)


def answers(form, xs, *, mode="even"):
    """The different numbers that the plans give, in the total order, zeros once and as +0."""
    check_format(form)
    check_addends(xs)
    check_mode(mode)
    if len(xs) > MOST_LISTED:
        raise TooMany(MOST_LISTED)
    if len(xs) == 1:
        return [(0, 0, 0) if is_zero(xs[0]) else xs[0]]
    found = {}
    for plan in plans_of(list(range(len(xs)))):
        x = plan_answer(form, plan, xs, mode)[0]
        if is_zero(x):
            x = (0, 0, 0)
        found[seat_of(form, x)] = x
    return [found[seat] for seat in sorted(list(found))]


def order_witness(form, N, K, u):
    """Numbers of size at most K * 2^u for which two plans differ, and these plans."""
    total = (1 << form[0]) + 1
    counts = [K] * (total // K)
    if total % K > 0:
        counts.append(total % K)
    xs = [signed(1, 1, u)] + [signed(0, count, u) for count in counts]
    while len(xs) < N:
        xs.append((0, 0, 0))
    return ("fails", xs, left_of(list(range(N))), (left_of(list(range(1, N))), 0))


def check_orders(form, N, K, u, mode):
    """Refuse the first wrong argument, then numbers about which nothing is claimed."""
    check_format(form)
    check_any_count(N)
    check_any_count(K)
    check_any_count(u)
    check_mode(mode)
    p, lo, hi = form
    if N < 3 or N > 40 or K < 1 or K > 1 << p or u < lo or u >= hi:
        raise NotAsked()


def order_question(form, N, K, u, *, mode="even"):
    """Whether all plans give alike results for all N numbers k * 2^u with integers k of size at most K."""
    check_orders(form, N, K, u, mode)
    if (N - 1) * K <= 1 << form[0]:
        return ("holds",)
    return order_witness(form, N, K, u)
