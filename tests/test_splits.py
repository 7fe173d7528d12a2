import unittest
from fractions import Fraction
from itertools import product

from everyrounding.errors import BadFormat, BadMode, BadNumber, BadOp, NotAsked
from everyrounding.splits import (distill, fast_two, rest_of, six_two, split_question, sum_pass, two_product)
from everyrounding.stations import deed
from everyrounding.sums import add, sub
from everyrounding.values import fits, minus
from tests.oracle import (INF, MINUS_INF, MINUS_ZERO, MODES, NAN, TINY, ZERO, assert_refused, exact_from, finite_numbers, positives,
                          slow_round, two, value_of)

ONE, THREE, TWELVE = (0, 1, 0), (0, 3, 0), (0, 3, 2)
FORMS = [TINY, (2, -1, 0), (3, 0, 0)]
REST = {"add": lambda x, y, s: x + y - s, "sub": lambda x, y, s: x - y - s, "mul": lambda x, y, s: x * y - s,
        "div": lambda x, y, s: x - s * y, "root": lambda x, y, s: x - s * s}
UNFIT = [INF, MINUS_INF, NAN, (0, 5, 0), (1, 1, -1), (0, 1, 4), None, True, 1, (0, 2, 0), [0, 1, 0], (0, True, 0), (False, 1, 0)]


def plus(form, x, y, mode):
    return add(form, x, y, mode=mode)[0]


def less(form, x, y, mode):
    return sub(form, x, y, mode=mode)[0]


def slow_six(form, x, y, mode):
    s = plus(form, x, y, mode)
    b = less(form, s, x, mode)
    a = less(form, s, b, mode)
    return (s, plus(form, less(form, x, a, mode), less(form, y, b, mode), mode))


def slow_pass(form, xs, mode):
    xs = list(xs)
    for i in range(len(xs) - 1):
        xs[i + 1], xs[i] = slow_six(form, xs[i], xs[i + 1], mode)
    return xs


def slow_fits(form, value):
    return value == 0 or abs(value) in positives(form)


class TestPairs(unittest.TestCase):
    def test_sums(self):
        for form in FORMS:
            numbers = finite_numbers(form)
            for x, y in product(numbers, repeat=2):
                for mode in MODES:
                    told = six_two(form, x, y, mode=mode)
                    self.assertEqual(told, slow_six(form, x, y, mode))
                    if abs(value_of(x)) < abs(value_of(y)):
                        assert_refused(self, NotAsked, fast_two, form, x, y, mode=mode)
                        continue
                    s = plus(form, x, y, mode)
                    self.assertEqual(fast_two(form, x, y, mode=mode), (s, less(form, y, less(form, s, x, mode), mode)))

    def test_nearest_sums_lose_nothing(self):
        for form in FORMS:
            for x, y in product(finite_numbers(form), repeat=2):
                for mode in ("even", "away"):
                    s, e = six_two(form, x, y, mode=mode)
                    # A step between can overflow although the sum does not.
                    if s[1] >= 0 and e[1] >= 0:
                        self.assertEqual(value_of(s) + value_of(e), value_of(x) + value_of(y))

    def test_products(self):
        for form in FORMS:
            for x, y in product(finite_numbers(form), repeat=2):
                value = value_of(x) * value_of(y)
                for mode in MODES:
                    s, e = two_product(form, x, y, mode=mode)
                    self.assertEqual(s, slow_round(form, exact_from(value), mode, x[0] ^ y[0])[0])
                    if s[1] >= 0:
                        zero_sign = x[0] ^ y[0] if s[1] == 0 and value == 0 and 1 - s[0] == x[0] ^ y[0] else mode == "down"
                        self.assertEqual(e, slow_round(form, exact_from(value - value_of(s)), mode, int(zero_sign))[0])
                    else:
                        self.assertEqual(e, minus(s))

    def test_overflow(self):
        self.assertEqual(fast_two(TINY, TWELVE, TWELVE), (INF, MINUS_INF))
        self.assertEqual(six_two(TINY, TWELVE, TWELVE), (INF, NAN))
        self.assertEqual(two_product(TINY, TWELVE, TWELVE), (INF, MINUS_INF))
        self.assertEqual(fast_two(TINY, TWELVE, TWELVE, mode="zero"), (TWELVE, TWELVE))
        self.assertEqual(two_product(TINY, minus(TWELVE), TWELVE, mode="up"), (minus(TWELVE), minus(TWELVE)))

    def test_zeros(self):
        for x, y in product((ZERO, MINUS_ZERO), repeat=2):
            for mode in MODES:
                s = ZERO if x[0] != y[0] and mode != "down" else MINUS_ZERO if x[0] or y[0] else ZERO
                self.assertEqual(fast_two(TINY, x, y, mode=mode)[0], s)
                self.assertEqual(six_two(TINY, x, y, mode=mode), slow_six(TINY, x, y, mode))
        self.assertEqual(two_product(TINY, ZERO, MINUS_ZERO), (MINUS_ZERO, ZERO))
        self.assertEqual(two_product(TINY, ZERO, MINUS_ZERO, mode="down"), (MINUS_ZERO, MINUS_ZERO))

    def test_equal_sizes_are_taken(self):
        self.assertEqual(fast_two(TINY, ONE, minus(ONE)), (ZERO, ZERO))
        self.assertEqual(fast_two(TINY, MINUS_ZERO, ZERO), (ZERO, ZERO))
        assert_refused(self, NotAsked, fast_two, TINY, ZERO, ONE)

    def test_wrong_arguments(self):
        for call in (fast_two, six_two, two_product):
            for wrong in UNFIT:
                assert_refused(self, BadNumber, call, TINY, wrong, ONE)
                assert_refused(self, BadNumber, call, TINY, TWELVE, wrong)
                assert_refused(self, BadNumber, call, TINY, ONE, wrong, mode="x")
            assert_refused(self, BadMode, call, TINY, ZERO, ONE, mode="x")
            assert_refused(self, BadFormat, call, (1, 0, 0), None, None, mode="x")


class TestLists(unittest.TestCase):
    def test_sum_pass(self):
        numbers = finite_numbers(TINY)[::3] + [MINUS_ZERO, TWELVE]
        for xs in product(numbers, repeat=3):
            for mode in MODES:
                self.assertEqual(sum_pass(TINY, list(xs), mode=mode), slow_pass(TINY, xs, mode))

    def test_short_lists_are_new(self):
        for xs in ([], [MINUS_ZERO], [ONE]):
            for call in (sum_pass, distill):
                told = call(TINY, xs)
                self.assertEqual(told, xs)
                self.assertIsNot(told, xs)

    def test_passed_lists_stay(self):
        xs = [ONE, TWELVE, THREE, ONE]
        kept = list(xs)
        sum_pass(TINY, xs)
        distill(TINY, xs)
        self.assertEqual(xs, kept)

    def test_distill(self):
        numbers = finite_numbers(TINY)[::4] + [MINUS_ZERO, TWELVE]
        for xs in product(numbers, repeat=3):
            for mode in MODES:
                told = list(xs)
                for _ in range(3):
                    told, before = slow_pass(TINY, told, mode), told
                    if told == before:
                        break
                self.assertEqual(distill(TINY, list(xs), mode=mode), told)

    def test_a_changed_sign_of_zero_counts(self):
        form = (2, 0, 2)
        for xs in ([MINUS_ZERO, ONE], [ONE, MINUS_ZERO], [MINUS_ZERO] * 3, [ZERO, MINUS_ZERO, minus(ONE)]):
            for mode in MODES:
                told = xs
                for _ in xs:
                    told = slow_pass(form, told, mode)
                self.assertEqual(distill(form, xs, mode=mode), told)

    def test_distilled_lists_keep_the_sum(self):
        form = (5, -3, 6)
        xs = [(0, 31, 4), (0, 1, -3), (1, 31, 4), (0, 21, -2), (1, 1, -1), (0, 17, 2), (1, 19, 0)]
        for mode in ("even", "away"):
            told = distill(form, xs, mode=mode)
            self.assertEqual(sum(map(value_of, told)), sum(map(value_of, xs)))
            self.assertEqual(told, sum_pass(form, told, mode=mode))

    def test_infinite_results_go_on(self):
        self.assertEqual(sum_pass(TINY, [TWELVE, TWELVE, ONE]), slow_pass(TINY, [TWELVE, TWELVE, ONE], "even"))
        self.assertEqual(sum_pass(TINY, [TWELVE, TWELVE]), [NAN, INF])
        self.assertEqual(distill(TINY, [TWELVE, TWELVE, TWELVE]), [NAN, NAN, NAN])

    def test_lengths(self):
        self.assertEqual(sum_pass(TINY, [ZERO] * 200), [ZERO] * 200)
        self.assertEqual(distill(TINY, [ZERO] * 40), [ZERO] * 40)
        assert_refused(self, BadNumber, sum_pass, TINY, [ZERO] * 201)
        assert_refused(self, BadNumber, distill, TINY, [ZERO] * 41)
        assert_refused(self, BadNumber, distill, TINY, [ZERO] * 41, mode="x")

    def test_wrong_arguments(self):
        for call in (sum_pass, distill):
            for wrong in UNFIT:
                assert_refused(self, BadNumber, call, TINY, [wrong])
                assert_refused(self, BadNumber, call, TINY, [ONE, ONE, wrong], mode="x")
            for wrong in (None, True, (), (ONE,), ONE, "x", {}):
                assert_refused(self, BadNumber, call, TINY, wrong, mode="x")
            assert_refused(self, BadMode, call, TINY, [], mode="x")
            assert_refused(self, BadFormat, call, None, None, mode="x")


class TestRestOf(unittest.TestCase):
    def check(self, op, form, x, y, mode):
        operands = (x,) if op == "root" else (x, y)
        answer = deed(op, form, *operands, mode=mode)
        told = rest_of(op, form, x, y, mode=mode)
        if answer[0][1] < 0:
            self.assertEqual(told, (answer, None, False))
            return
        value = REST[op](value_of(x), None if y is None else value_of(y), value_of(answer[0]))
        self.assertEqual(told, (answer, exact_from(Fraction(value)), slow_fits(form, value)), (op, form, x, y, mode))

    def test_all_pairs(self):
        for form in FORMS:
            numbers = finite_numbers(form)
            for x in numbers:
                for mode in MODES:
                    self.check("root", form, x, None, mode)
                    for y in numbers:
                        for op in ("add", "sub", "mul", "div"):
                            self.check(op, form, x, y, mode)

    def test_great_formats(self):
        for form in [(140, -600, 600), (53, -600, 600), (140, 600, 600)]:
            p, lo, hi = form
            full = (1 << p) - 1
            for x, y in product([(0, full, hi), (1, full, lo), (0, 1, lo), (0, 3, hi - 1 if lo < hi else hi)], repeat=2):
                for op in ("add", "sub", "mul", "div"):
                    answer, exact, inside = rest_of(op, form, x, y, mode="odd")
                    self.assertEqual(answer, deed(op, form, x, y, mode="odd"))
                    value = REST[op](value_of(x), value_of(y), value_of(answer[0]))
                    self.assertEqual(exact, exact_from(Fraction(value)))
                    m, q = abs(value.numerator), 1 - value.denominator.bit_length()
                    while m and m % 2 == 0:
                        m, q = m // 2, q + 1
                    self.assertIs(inside, value == 0 or (m.bit_length() <= 600 and fits(form, (0, m, q))))

    def test_special_results(self):
        self.assertEqual(rest_of("div", TINY, ONE, ZERO), ((INF, ("divzero",)), None, False))
        self.assertEqual(rest_of("div", TINY, ZERO, MINUS_ZERO), ((NAN, ("invalid",)), None, False))
        self.assertEqual(rest_of("root", TINY, minus(ONE)), ((NAN, ("invalid",)), None, False))
        self.assertEqual(rest_of("mul", TINY, TWELVE, TWELVE), ((INF, ("overflow", "inexact")), None, False))
        # An overflow that ends at top is finite.
        self.assertEqual(rest_of("add", TINY, TWELVE, TWELVE, mode="zero"), ((TWELVE, ("overflow", "inexact")), (12, 1, 1), True))
        self.assertEqual(rest_of("mul", TINY, TWELVE, TWELVE, mode="odd"), ((TWELVE, ("overflow", "inexact")), (132, 1, 1), False))
        self.assertEqual(rest_of("root", TINY, MINUS_ZERO), ((MINUS_ZERO, ()), (0, 1, 1), True))

    def test_operands(self):
        for wrong in UNFIT:
            for op in ("add", "sub", "mul", "div"):
                assert_refused(self, BadNumber, rest_of, op, TINY, wrong, ONE)
                assert_refused(self, BadNumber, rest_of, op, TINY, ONE, wrong, mode="x")
            assert_refused(self, BadNumber, rest_of, "root", TINY, wrong)
        for op in ("add", "sub", "mul", "div"):
            assert_refused(self, BadNumber, rest_of, op, TINY, ONE)
        for wrong in (ONE, ZERO, False, 0, (), "None"):
            assert_refused(self, BadNumber, rest_of, "root", TINY, ONE, wrong)
        self.assertEqual(rest_of("root", TINY, ONE, y=None), rest_of("root", TINY, ONE))

    def test_order_of_checks(self):
        for op in ("muladd", "convert", "minus", "size", "x", None, True, ["add"], ("add",)):
            assert_refused(self, BadOp, rest_of, op, None, None, None, mode=None)
        assert_refused(self, BadFormat, rest_of, "add", None, None, None, mode=None)
        assert_refused(self, BadMode, rest_of, "root", TINY, ONE, mode=None)


class TestSplitQuestion(unittest.TestCase):
    def slow_holds(self, op, form, mode):
        numbers = finite_numbers(form)
        for x, y in product(numbers, repeat=2):
            if op == "div" and y[1] == 0:
                continue
            value = {"add": lambda a, b: a + b, "mul": lambda a, b: a * b, "div": lambda a, b: a / b}[op](value_of(x), value_of(y))
            s, flags = slow_round(form, exact_from(Fraction(value)), mode, x[0] ^ y[0])
            if "overflow" not in flags and not slow_fits(form, REST[op](value_of(x), value_of(y), value_of(s))):
                return False
        return True

    def asked(self, op, form, mode):
        return op != "div" or (mode in ("even", "away", "zero") and form[2] + form[0] >= 1)

    def test_against_all_pairs(self):
        forms = [(2, lo, hi) for lo in (-3, -1, 0, 1) for hi in range(lo, lo + 3)] + [(2, -3, 0), (2, 0, 3), (3, -1, 0), (2, -5, -5)]
        for form in forms:
            for op in ("add", "mul", "div"):
                for mode in MODES:
                    if self.asked(op, form, mode):
                        told = split_question(op, form, mode=mode)
                        self.assertIs(told == ("holds",), self.slow_holds(op, form, mode), (op, form, mode))

    def check(self, op, form, mode, holds):
        told = split_question(op, form, mode=mode)
        self.assertEqual(told[0], "holds" if holds else "fails")
        if holds:
            self.assertEqual(told, ("holds",))
            return
        answer, exact, inside = rest_of(op, form, told[1], told[2], mode=mode)
        self.assertNotIn("overflow", answer[1])
        self.assertIsNotNone(exact)
        self.assertIs(inside, False, (op, form, mode))

    def test_bounds_and_witnesses(self):
        for p in (2, 3, 24, 140):
            for lo in (-600, -1, 0, 1, 300):
                for wide in (0, p, p + 1, 260):
                    form = (p, lo, lo + wide)
                    for mode in MODES:
                        self.check("add", form, mode, mode in ("even", "away") or wide <= p)
                        self.check("mul", form, mode, lo >= 0)
                        if self.asked("div", form, mode):
                            self.check("div", form, mode, lo >= 0)

    def test_told_witnesses(self):
        form = (2, -1, 2)
        self.assertEqual(split_question("add", form, mode="zero"), ("fails", (0, 3, 2), (1, 1, -1)))
        self.assertEqual(split_question("add", form, mode="down"), ("fails", (0, 3, 2), (1, 1, -1)))
        self.assertEqual(split_question("add", form, mode="up"), ("fails", (0, 1, 3), (0, 1, -1)))
        self.assertEqual(split_question("add", form, mode="odd"), ("fails", (0, 1, 3), (0, 1, -1)))
        self.assertEqual(split_question("mul", form), ("fails", (0, 1, -1), (0, 1, -1)))
        self.assertEqual(split_question("div", form), ("fails", (0, 1, 0), (0, 3, -1)))

    def test_not_asked(self):
        for form in (TINY, (2, -600, -599), (24, -30, 4)):
            for mode in ("up", "down", "odd"):
                assert_refused(self, NotAsked, split_question, "div", form, mode=mode)
        for mode in ("even", "away", "zero"):
            assert_refused(self, NotAsked, split_question, "div", (2, -4, -2), mode=mode)
            self.assertEqual(split_question("div", (2, -4, -1), mode=mode)[0], "fails")
        self.assertEqual(two(-1), Fraction(1, 2))

    def test_wrong_arguments(self):
        for op in ("sub", "root", "muladd", "convert", "", None, True, ["add"]):
            assert_refused(self, BadOp, split_question, op, None, mode=None)
        assert_refused(self, BadFormat, split_question, "div", None, mode=None)
        assert_refused(self, BadMode, split_question, "div", (2, -4, -2), mode="x")
