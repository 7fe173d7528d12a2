"""Sums and products split into a rounded result and its rest, and the claim of splits [24]."""

from everyrounding.errors import BadNumber, BadOp, NotAsked
from everyrounding.formats import check_format
from everyrounding.order import check_valued_fits
from everyrounding.products import mul_answer
from everyrounding.rounding import check_mode
from everyrounding.stations import one_answer, two_answer
from everyrounding.sums import dyadic_sum, muladd_answer, sum_answer
from everyrounding.values import check_numbers, compare_sizes, dyadic, holds_or_zero, opposite, signed, signed_part

MOST_NUMBERS = 200
MOST_DISTILLED = 40
REST_OPS = ("add", "sub", "mul", "div", "root")
SPLIT_OPS = ("add", "mul", "div")


def check_op_of(op, known):
    """Refuse what is none of the known operation names."""
    if type(op) is not str or op not in known:
        raise BadOp()


def check_pair_step(form, x, y, mode):
    """Refuse a wrong format, then a wrong number of it, then a wrong mode."""
    check_format(form)
    check_valued_fits(form, x)
    check_valued_fits(form, y)
    check_mode(mode)


def check_list_step(form, xs, most, mode):
    """Refuse a wrong format, then a wrong list of its numbers, then a wrong mode."""
    check_format(form)
    check_numbers(xs, most)
    for x in xs:
        check_valued_fits(form, x)
    check_mode(mode)


def plus(form, x, y, mode):
    """The number x + y rounded."""
    return sum_answer(form, x, y, mode)[0]


def less(form, x, y, mode):
    """The number x - y rounded."""
    return sum_answer(form, x, opposite(y), mode)[0]


def six_steps(form, x, y, mode):
    """The sum and its rest by six operations."""
    s = plus(form, x, y, mode)
    b = less(form, s, x, mode)
    a = less(form, s, b, mode)
    c = less(form, x, a, mode)
    d = less(form, y, b, mode)
    return (s, plus(form, c, d, mode))


def passed(form, xs, mode):
    """The list after one pass of six steps over each two neighbours."""
    told = list(xs)
    for i in range(len(told) - 1):
        s, e = six_steps(form, told[i], told[i + 1], mode)
        told[i] = e
        told[i + 1] = s
    return told


def fast_two(form, x, y, *, mode="even"):
    """The sum and its rest by three operations, for x not smaller than y."""
    check_pair_step(form, x, y, mode)
    if compare_sizes(x[1], x[2], y[1], y[2]) < 0:
        raise NotAsked()
    s = plus(form, x, y, mode)
    b = less(form, s, x, mode)
    return (s, less(form, y, b, mode))


def six_two(form, x, y, *, mode="even"):
    """The sum and its rest by six operations."""
    check_pair_step(form, x, y, mode)
    return six_steps(form, x, y, mode)


def two_product(form, x, y, *, mode="even"):
    """The product and its rest."""
    check_pair_step(form, x, y, mode)
    s = mul_answer(form, x, y, mode)[0]
    return (s, muladd_answer(form, x, y, opposite(s), mode)[0])


def sum_pass(form, xs, *, mode="even"):
    """The list after one pass of six steps over each two neighbours."""
    check_list_step(form, xs, MOST_NUMBERS, mode)
    return passed(form, xs, mode)


def distill(form, xs, *, mode="even"):
    """The list after as many passes as change it, at most one for each number."""
    check_list_step(form, xs, MOST_DISTILLED, mode)
    told = list(xs)
    for _ in range(len(xs)):
        following = passed(form, told, mode)
        if following == told:
            return told
        told = following
    return told


def check_second(op, form, y):
    """Refuse a second operand that the operation does not take: root has none."""
    if op != "root":
        check_valued_fits(form, y)
    elif y is not None:
        raise BadNumber()


def op_result(op, form, x, y, mode):
    """The answer of the operation; y is None for root."""
    if op == "root":
        return one_answer(op, form, x, mode)
    return two_answer(op, form, x, y, mode)


def rest_parts(op, x, y, s):
    """The integer and the power of the exact rest that the result s leaves."""
    m, q = signed_part(x), x[2]
    m2, q2 = signed_part(s), s[2]
    if op == "root":
        return dyadic_sum(m, q, -m2 * m2, q2 + q2)
    m3, q3 = signed_part(y), y[2]
    if op == "div":
        return dyadic_sum(m, q, -m2 * m3, q2 + q3)
    if op == "mul":
        return dyadic_sum(m * m3, q + q3, -m2, q2)
    both, unit = dyadic_sum(m, q, -m3 if op == "sub" else m3, q3)
    return dyadic_sum(both, unit, -m2, q2)


def rest_of(op, form, x, y=None, *, mode="even"):
    """The answer of an operation, its exact rest, and whether this rest fits the format."""
    check_op_of(op, REST_OPS)
    check_format(form)
    check_valued_fits(form, x)
    check_second(op, form, y)
    check_mode(mode)
    answer = op_result(op, form, x, y, mode)
    if answer[0][1] < 0:
        return (answer, None, False)
    m, q = rest_parts(op, x, y, answer[0])
    return (answer, dyadic(m, q), holds_or_zero(form, m, q))


def split_holds(op, form, mode):
    """True if each rest of the operation fits the format."""
    p, lo, hi = form
    if op != "add":
        return lo >= 0
    return mode == "even" or mode == "away" or hi - lo <= p


def split_witness(op, form, mode):
    """Two numbers whose rest does not fit the format."""
    p, lo, hi = form
    if op == "mul":
        return ("fails", (0, 1, lo), (0, 1, lo))
    if op == "div":
        return ("fails", (0, 1, lo + 1), (0, 3, lo))
    half = 1 << (p - 1)
    if mode == "zero" or mode == "down":
        return ("fails", signed(0, half + 1, hi), (1, 1, lo))
    return ("fails", signed(0, half, hi), (0, 1, lo))


def check_split(op, form, mode):
    """Refuse the first wrong argument, then a division about which nothing is claimed."""
    check_op_of(op, SPLIT_OPS)
    check_format(form)
    check_mode(mode)
    if op == "div" and (mode == "up" or mode == "down" or mode == "odd" or form[2] + form[0] < 1):
        raise NotAsked()


def split_question(op, form, *, mode="even"):
    """Whether for all numbers of the format the exact rest of the operation fits it."""
    check_split(op, form, mode)
    if split_holds(op, form, mode):
        return ("holds",)
    return split_witness(op, form, mode)
