import unittest
from fractions import Fraction
from itertools import product

from everyrounding.errors import BadFormat, BadMode, BadNumber, NotAsked, TooMany
from everyrounding.longsum import LongSum, dot, sum_of
from everyrounding.values import minus
from tests.oracle import (HUGE_M, INF, MINUS_INF, MINUS_ZERO, MODES, NAN, SMALL, SPECIALS, TINY, ZERO, assert_refused, exact_from,
                          finite_numbers, slow_round, two, value_of)

ONE, TWO, BIG, LOW = (0, 1, 0), (0, 1, 1), (0, HUGE_M, 2000), (0, HUGE_M, -2000)
INVALID = (NAN, ("invalid",))


def made(xs, pairs=()):
    """A long sum of numbers and of products."""
    total = LongSum()
    for x in xs:
        total.put(x)
    for x, y in pairs:
        total.put_product(x, y)
    return total


def told(total):
    """All that can be asked of a long sum."""
    return (total.value(), total.many, [total.answer(TINY, mode=mode) for mode in MODES])


def slow_answer(form, xs, mode):
    """The answer of [21] for single numbers and for products, each a tuple of its factors."""
    if any(NAN in part for part in xs):
        return (NAN, ())
    infinite = [part for part in xs if INF in part or MINUS_INF in part]
    signs = {sum(x[0] for x in part) % 2 for part in infinite}
    if len(signs) == 2 or any(x[1] == 0 for part in infinite for x in part):
        return INVALID
    if signs:
        return ((signs.pop(), -1, 0), ())
    total = Fraction(0)
    for part in xs:
        value = Fraction(1)
        for x in part:
            value *= value_of(x)
        total += value
    return slow_round(form, exact_from(total), mode, 1 if mode == "down" else 0)


def grown(many):
    """A long sum of so many ones, made by doubling."""
    total = LongSum()
    for digit in f"{many:b}":
        total.merge(total)
        if digit == "1":
            total.put(ONE)
    return total


class TestAnswers(unittest.TestCase):
    def test_empty(self):
        total = LongSum()
        self.assertEqual((total.value(), total.many), ((0, 1, 1), 0))
        for mode in MODES:
            self.assertEqual(total.answer(TINY, mode=mode), (MINUS_ZERO if mode == "down" else ZERO, ()))

    def test_numbers(self):
        for xs in product(finite_numbers(TINY)[::2] + [INF, NAN], repeat=3):
            total = made(xs)
            self.assertEqual(total.many, 3)
            for mode in MODES:
                self.assertEqual(total.answer(TINY, mode=mode), slow_answer(TINY, [(x,) for x in xs], mode), (xs, mode))

    def test_products(self):
        numbers = list(SPECIALS) + [ONE, (1, 3, 1), (0, 5, -3)]
        for pair in product(numbers, repeat=2):
            for x in numbers:
                total = made([x], [pair])
                for mode in MODES:
                    self.assertEqual(total.answer(SMALL, mode=mode), slow_answer(SMALL, [(x,), pair], mode), (x, pair, mode))

    def test_products_are_not_rounded(self):
        total = made([], [((0, (1 << 300) + 1, 0), (0, (1 << 300) + 1, 0))])
        total.put_product((1, 1, 300), (0, 1, 300))
        total.put_product((1, 1, 0), (0, 1, 301))
        self.assertEqual(total.value(), (1, 1, 1))
        self.assertEqual(made([], [(BIG, BIG), (LOW, LOW)]).value(),
                         exact_from((HUGE_M * two(2000)) ** 2 + (HUGE_M * two(-2000)) ** 2))
        self.assertEqual(made([], [((0, 1, -2000), (1, 1, -2000))]).value(), (-1, 1 << 4000, 1))

    def test_far_powers_together(self):
        xs = [(0, 1, 2000), (0, 1, -2000), (1, 1, 2000)]
        total = made(xs)
        self.assertEqual(total.value(), (1, 1 << 2000, 1))
        self.assertEqual(total.answer(TINY, mode="up"), (ONE, ("underflow", "inexact")))
        total.put((1, 1, -2000))
        self.assertEqual(total.value(), (0, 1, 1))

    def test_value_in_lowest_terms(self):
        self.assertEqual(made([(0, 3, -1), (0, 3, -1)]).value(), (3, 1, 1))
        self.assertEqual(made([(0, 3, -2), (1, 1, -1)]).value(), (1, 4, 1))

    def test_zero_totals(self):
        for xs in [[ZERO], [MINUS_ZERO], [MINUS_ZERO] * 3, [ONE, (1, 1, 0)], [ZERO, MINUS_ZERO]]:
            for mode in MODES:
                self.assertEqual(made(xs).answer(TINY, mode=mode), (MINUS_ZERO if mode == "down" else ZERO, ()))
            self.assertEqual(made(xs).value(), (0, 1, 1))

    def test_specials(self):
        for xs, pairs, answer in [
                ([NAN], [], (NAN, ())), ([NAN, INF, MINUS_INF], [], (NAN, ())), ([NAN], [(ZERO, INF)], (NAN, ())),
                ([], [(NAN, ZERO)], (NAN, ())), ([], [(INF, NAN)], (NAN, ())), ([INF, MINUS_INF], [], INVALID),
                ([], [(INF, ONE), (INF, (1, 1, 0))], INVALID), ([INF], [(ZERO, MINUS_INF)], INVALID), ([ONE], [(INF, MINUS_ZERO)], INVALID),
                ([INF, ONE], [], (INF, ())), ([], [(MINUS_INF, INF)], (MINUS_INF, ())), ([], [(MINUS_INF, MINUS_INF)], (INF, ())),
                ([MINUS_INF], [(INF, (1, 1, 0))], (MINUS_INF, ())), ([INF, INF, (1, 1, 5)], [(ZERO, ZERO)], (INF, ()))]:
            total = made(xs, pairs)
            self.assertIsNone(total.value())
            for mode in MODES:
                self.assertEqual(total.answer(TINY, mode=mode), answer)

    def test_overflow_and_underflow(self):
        self.assertEqual(made([BIG, BIG]).answer(TINY), (INF, ("overflow", "inexact")))
        self.assertEqual(made([BIG, BIG]).answer(TINY, mode="zero"), ((0, 3, 2), ("overflow", "inexact")))
        self.assertEqual(made([(0, 1, -1)]).answer(TINY), (ZERO, ("underflow", "inexact")))
        self.assertEqual(made([(0, 1, -1), (0, 1, -1)]).answer(TINY), (ONE, ()))


class TestSteps(unittest.TestCase):
    def test_methods_return_none(self):
        total = LongSum()
        self.assertIsNone(total.put(ONE))
        self.assertIsNone(total.put_product(ONE, TWO))
        self.assertIsNone(total.take(ONE))
        self.assertIsNone(total.merge(LongSum()))
        self.assertEqual((total.value(), total.many), ((2, 1, 1), 3))

    def test_take(self):
        for x in list(SPECIALS) + [ONE, (1, 3, -7)]:
            total, other = made([TWO, INF]), made([TWO, INF])
            total.take(x)
            other.put(minus(x))
            self.assertEqual(told(total), told(other))
        total = made([INF])
        total.take(INF)
        self.assertEqual(total.answer(TINY), INVALID)
        total = made([])
        total.take(INF)
        self.assertEqual(total.answer(TINY), (MINUS_INF, ()))

    def test_answer_changes_nothing(self):
        total = made([ONE, (0, 1, -9)])
        before = told(total)
        total.answer(TINY, mode="up")
        total.value()
        self.assertEqual(told(total), before)

    def test_merge(self):
        total, other = made([ONE, TWO]), made([TWO, NAN])
        before = told(other)
        total.merge(other)
        self.assertEqual((total.many, total.answer(TINY)), (4, (NAN, ())))
        self.assertEqual(told(other), before)
        total, other = made([ONE, INF]), made([MINUS_INF])
        total.merge(other)
        self.assertEqual(total.answer(TINY), INVALID)
        self.assertEqual(other.answer(TINY), (MINUS_INF, ()))

    def test_merge_with_itself(self):
        total = made([ONE, TWO])
        total.merge(total)
        self.assertEqual((total.value(), total.many), ((6, 1, 1), 4))
        total = made([INF])
        total.merge(total)
        self.assertEqual((total.answer(TINY), total.many), ((INF, ()), 2))

    def test_twin(self):
        total = made([ONE, (0, 1, -5)], [(ONE, TWO)])
        other = total.twin()
        self.assertEqual(told(other), told(total))
        other.put(INF)
        total.put(TWO)
        self.assertEqual((total.value(), total.many), ((161, 32, 1), 4))
        self.assertEqual((other.value(), other.many), (None, 4))

    def test_plus(self):
        for xs, ys in product([[], [ONE], [TWO, (1, 7, -3)], [INF], [MINUS_INF, ONE], [NAN], [MINUS_ZERO]], repeat=2):
            a, b = made(xs), made(ys)
            before = (told(a), told(b))
            self.assertEqual(told(a + b), told(made(xs + ys)))
            self.assertEqual((told(a), told(b)), before)
        a = made([ONE], [(ZERO, INF)])
        self.assertEqual((a + LongSum()).answer(TINY), INVALID)
        self.assertEqual(told(a + a), told(made([ONE, ONE], [(ZERO, INF)] * 2)))

    def test_plus_makes_a_new_sum(self):
        a, b = made([ONE]), LongSum()
        both = a + b
        both.put(TWO)
        self.assertEqual((a.many, b.many, both.many), (1, 0, 2))

    def test_negative(self):
        for xs in [[], [ONE], [ONE, (1, 9, 5)], [INF], [MINUS_INF, ONE], [INF, MINUS_INF], [NAN, ONE], [MINUS_ZERO]]:
            total = made(xs)
            before = told(total)
            self.assertEqual(told(-total), told(made([minus(x) for x in xs])))
            self.assertEqual(told(total), before)
        self.assertEqual((-made([], [(INF, ZERO)])).answer(TINY), INVALID)
        self.assertEqual((-made([ONE, INF])).answer(TINY), (MINUS_INF, ()))


class TestBound(unittest.TestCase):
    def test_the_last_part(self):
        total = grown(99999)
        self.assertEqual(total.many, 99999)
        total.put_product(ONE, TWO)
        self.assertEqual((total.many, total.value()), (100000, (100001, 1, 1)))
        before = told(total)
        for step in (lambda: total.put(ONE), lambda: total.put(NAN), lambda: total.put_product(INF, ZERO), lambda: total.take(INF),
                     lambda: total.merge(made([ONE])), lambda: total.merge(total), lambda: total + made([ONE]), lambda: made([ONE]) + total):
            error = assert_refused(self, TooMany, step)
            self.assertEqual(error.limit, 100000)
            self.assertEqual(told(total), before)
        total.merge(LongSum())
        self.assertEqual(told(total + LongSum()), before)
        self.assertEqual((-total).many, 100000)
        self.assertEqual(total.twin().many, 100000)

    def test_merge_up_to_the_bound(self):
        total, other = grown(60000), grown(40000)
        self.assertEqual((total + other).many, 100000)
        total.merge(other)
        self.assertEqual(total.many, 100000)
        other = grown(40001)
        assert_refused(self, TooMany, lambda: grown(60000).merge(other))
        self.assertEqual((other.many, other.value()), (40001, (40001, 1, 1)))

    def test_wrong_numbers_go_before(self):
        total = grown(100000)
        for wrong in (None, (0, 2, 0), True, (0, True, 0)):
            assert_refused(self, BadNumber, total.put, wrong)
            assert_refused(self, BadNumber, total.take, wrong)
            assert_refused(self, BadNumber, total.put_product, wrong, ONE)
            assert_refused(self, BadNumber, total.put_product, ONE, wrong)

    def test_refused_steps_change_nothing(self):
        total = made([ONE, (1, 3, -4)])
        before = told(total)
        for wrong in (None, 1, True, "1p0", (0, 2, 0), [0, 1, 0], (0, True, 0), (False, 1, 0)):
            for step in (lambda: total.put(wrong), lambda: total.take(wrong), lambda: total.put_product(wrong, ONE),
                         lambda: total.put_product(INF, wrong)):
                assert_refused(self, BadNumber, step)
                self.assertEqual(told(total), before)
        assert_refused(self, BadFormat, total.answer, (1, 0, 0), mode="x")
        assert_refused(self, BadMode, total.answer, TINY, mode="x")
        for part in (NAN, INF):
            other = made([part])
            assert_refused(self, BadFormat, other.answer, None, mode="x")
            assert_refused(self, BadMode, other.answer, TINY, mode=None)

    def test_methods_stand_in_the_class_itself(self):
        for name in ("put", "put_product", "take", "merge", "value", "answer", "twin", "many", "__add__", "__neg__"):
            self.assertIn(name, vars(LongSum))


class TestLists(unittest.TestCase):
    def test_sum_of(self):
        for xs in [[], [MINUS_ZERO], [ONE], [ONE, TWO, (1, 1, -3)], [(0, 1, 2000), (1, 1, 2000), (0, 5, 0)], [INF, ONE], [INF, MINUS_INF], [NAN]]:
            kept = list(xs)
            for mode in MODES:
                self.assertEqual(sum_of(TINY, xs, mode=mode), slow_answer(TINY, [(x,) for x in xs], mode))
            self.assertEqual(xs, kept)
        self.assertEqual(sum_of(TINY, []), (ZERO, ()))
        self.assertEqual(sum_of(TINY, [], mode="down"), (MINUS_ZERO, ()))
        self.assertEqual(sum_of((8, 0, 2), [ONE] * 200), ((0, 25, 3), ()))

    def test_dot(self):
        lists = [[ONE, TWO], [(1, 3, -2), INF], [ZERO, MINUS_ZERO], [NAN, ONE], [(0, 5, 700), (1, 5, 700)]]
        for xs, ys in product(lists, repeat=2):
            for mode in MODES:
                self.assertEqual(dot(SMALL, xs, ys, mode=mode), slow_answer(SMALL, list(zip(xs, ys)), mode))
        self.assertEqual(dot(TINY, [], []), (ZERO, ()))
        self.assertEqual(dot(TINY, [], [], mode="down"), (MINUS_ZERO, ()))
        self.assertEqual(dot((8, 0, 2), [ONE] * 200, [ONE] * 200), ((0, 25, 3), ()))

    def test_unlike_lengths(self):
        for xs, ys in [([], [ONE]), ([ONE], []), ([NAN, NAN], [NAN])]:
            assert_refused(self, NotAsked, dot, TINY, xs, ys)
            assert_refused(self, BadMode, dot, TINY, xs, ys, mode="x")
            assert_refused(self, BadNumber, dot, TINY, xs, ys + [None])

    def test_wrong_lists(self):
        for wrong in [None, True, (), (ONE,), ONE, "1p0", [None], [ONE, True], [(0, 2, 0)], [ONE, [0, 1, 0]], [(0, True, 0)], [ONE] * 201, [[]], {}]:
            assert_refused(self, BadNumber, sum_of, TINY, wrong)
            assert_refused(self, BadNumber, sum_of, TINY, wrong, mode="x")
            assert_refused(self, BadNumber, dot, TINY, wrong, [ONE], mode="x")
            assert_refused(self, BadNumber, dot, TINY, [], wrong, mode="x")
            assert_refused(self, BadFormat, dot, (1, 0, 0), wrong, wrong, mode="x")
