import unittest
from fractions import Fraction
from itertools import product

from everyrounding.errors import BadCount, BadFormat, BadMode, BadNumber, BadPlan, NotAsked, TooMany
from everyrounding.plans import all_plans, answers, check_plan, left_plan, order_question, run_plan
from everyrounding.rounding import join_flags
from everyrounding.seats import seat
from everyrounding.sums import add
from everyrounding.values import alike, number
from tests.oracle import (INF, MINUS_INF, MINUS_ZERO, MODES, NAN, TINY, ZERO, assert_refused, finite_numbers, tuple_of, two)

ONE, FOUR, TWELVE = (0, 1, 0), (0, 1, 2), (0, 3, 2)
PLANS_4 = [(0, (1, (2, 3))), (0, ((1, 2), 3)), (0, ((1, 3), 2)), ((0, 1), (2, 3)), ((0, 2), (1, 3)), ((0, (1, 2)), 3),
           (((0, 1), 2), 3), (((0, 2), 1), 3), ((0, 3), (1, 2)), ((0, (1, 3)), 2), (((0, 1), 3), 2), (((0, 3), 1), 2),
           ((0, (2, 3)), 1), (((0, 2), 3), 1), (((0, 3), 2), 1)]


def slow_run(form, plan, xs, mode):
    if type(plan) is int:
        return (xs[plan], ())
    (x, flags), (y, more) = [slow_run(form, part, xs, mode) for part in plan]
    z, last = add(form, x, y, mode=mode)
    return (z, join_flags(flags + more, last))


def slow_plans(places):
    """All plans by [22], the left sets as the binary digits of mask."""
    if len(places) == 1:
        return list(places)
    first, others = places[0], places[1:]
    found = []
    for mask in range(2 ** len(others) - 1):
        chosen = [other for i, other in enumerate(others) if mask & 2 ** i]
        rest = [other for other in others if other not in chosen]
        found += list(product(slow_plans([first] + chosen), slow_plans(rest)))
    return found


def nested(depth):
    """A tuple of tuples to this depth that names the places 0..depth."""
    plan = 0
    for place in range(1, depth + 1):
        plan = (plan, place)
    return plan


class TestCheckPlan(unittest.TestCase):
    def test_right_plans(self):
        for plan, N in [(0, 1), ((0, 1), 2), ((1, 0), 2), ((2, (1, 0)), 3), (((3, 1), (0, 2)), 4), (left_plan(64), 64), (nested(63), 64)]:
            self.assertIsNone(check_plan(plan, N))
        for N in (1, 2, 3, 4, 5):
            for plan in slow_plans(list(range(N))):
                self.assertIsNone(check_plan(plan, N))

    def test_wrong_plans(self):
        for plan, N in [(0, 2), (1, 1), (-1, 1), ((0, 0), 2), ((0, 2), 2), ((0, 1), 1), ((0, 1), 3), ((0, 1, 2), 3), ([0, 1], 2),
                        ((0, [1, 2]), 3), ((0, True), 2), ((False, 1), 2), (False, 1), (True, 2), (None, 1), ("0", 1), ((), 1), ((0,), 1),
                        (((0,), 1), 2), ((0, ()), 2), ((0, (1,)), 2), ((0, (1, 1)), 3), ((0, (0, 1)), 2), ((0, -1), 2), ((0, "1"), 2),
                        ((0, None), 2), ([], 1), ([0], 1), ((((0, 1), 2), 3), 3), (nested(64), 64), (nested(62), 64), (nested(70), 64)]:
            assert_refused(self, BadPlan, check_plan, plan, N)

    def test_shared_parts_are_no_trap(self):
        part = 0
        for _ in range(70):
            part = (part, part)
        assert_refused(self, BadPlan, check_plan, part, 64)
        part = ()
        for _ in range(70):
            part = (part, part)
        assert_refused(self, BadPlan, check_plan, part, 1)
        assert_refused(self, BadPlan, run_plan, TINY, part, [ONE, ONE])

    def test_counts(self):
        for N in (0, 65, -1, True, None, "2", (2,)):
            assert_refused(self, BadCount, check_plan, (0, 1), N)
            assert_refused(self, BadCount, check_plan, None, N)
            assert_refused(self, BadCount, left_plan, N)
            assert_refused(self, BadCount, all_plans, N)


class TestLists(unittest.TestCase):
    def test_left_plan(self):
        self.assertEqual([left_plan(N) for N in (1, 2, 3, 4)], [0, (0, 1), ((0, 1), 2), (((0, 1), 2), 3)])
        self.assertEqual(left_plan(64), nested(63))

    def test_all_plans(self):
        self.assertEqual(all_plans(1), [0])
        self.assertEqual(all_plans(2), [(0, 1)])
        self.assertEqual(all_plans(3), [(0, (1, 2)), ((0, 1), 2), ((0, 2), 1)])
        self.assertEqual(all_plans(4), PLANS_4)
        self.assertEqual(all_plans(5), slow_plans([0, 1, 2, 3, 4]))
        self.assertEqual([len(all_plans(N)) for N in (1, 2, 3, 4, 5)], [1, 1, 3, 15, 105])

    def test_too_many(self):
        for N in (6, 7, 64):
            self.assertEqual(assert_refused(self, TooMany, all_plans, N).limit, 5)

    def test_each_list_is_new(self):
        all_plans(3).append(None)
        self.assertEqual(len(all_plans(3)), 3)


class TestRunPlan(unittest.TestCase):
    def test_against_single_sums(self):
        numbers = finite_numbers(TINY)[::3] + [INF, MINUS_INF, NAN, (0, 5, 0), (1, 1, 9)]
        for xs in product(numbers, repeat=3):
            for plan in all_plans(3):
                for mode in MODES:
                    self.assertEqual(run_plan(TINY, plan, list(xs), mode=mode), slow_run(TINY, plan, xs, mode))

    def test_one_number_is_not_rounded(self):
        for x in [(0, 5, -7), (1, 1, 2000), MINUS_ZERO, NAN, MINUS_INF]:
            for mode in MODES:
                self.assertEqual(run_plan(TINY, 0, [x], mode=mode), (x, ()))

    def test_flags_are_joined(self):
        xs = [TWELVE, TWELVE, ONE, MINUS_INF]
        self.assertEqual(run_plan(TINY, (((0, 1), 2), 3), xs), (NAN, ("invalid", "overflow", "inexact")))
        self.assertEqual(run_plan(TINY, ((0, (1, 2)), 3), xs), (NAN, ("invalid", "overflow", "inexact")))
        self.assertEqual(run_plan(TINY, (0, 1), [(0, 1, -2), (0, 1, -2)]), (ZERO, ("underflow", "inexact")))

    def test_deep_plans(self):
        self.assertEqual(run_plan((7, 0, 2), nested(63), [ONE] * 64), ((0, 1, 6), ()))

    def test_zeros(self):
        self.assertEqual(run_plan(TINY, (0, 1), [MINUS_ZERO, MINUS_ZERO]), (MINUS_ZERO, ()))
        self.assertEqual(run_plan(TINY, (0, 1), [ONE, (1, 1, 0)], mode="down"), (MINUS_ZERO, ()))
        self.assertEqual(run_plan(TINY, (1, 0), [ONE, (1, 1, 0)]), (ZERO, ()))

    def test_passed_lists_stay(self):
        xs = [ONE, FOUR, TWELVE]
        run_plan(TINY, ((0, 2), 1), xs)
        answers(TINY, xs)
        self.assertEqual(xs, [ONE, FOUR, TWELVE])

    def test_order_of_checks(self):
        assert_refused(self, BadFormat, run_plan, None, None, None, mode=None)
        assert_refused(self, BadNumber, run_plan, TINY, None, [], mode=None)
        assert_refused(self, BadMode, run_plan, TINY, None, [ONE], mode=None)
        assert_refused(self, BadPlan, run_plan, TINY, None, [ONE])
        assert_refused(self, BadPlan, run_plan, TINY, (0, 1), [ONE])
        assert_refused(self, BadPlan, run_plan, TINY, (0, 1), [ONE, ONE, ONE])
        for wrong in [[], None, (ONE,), [None], [ONE] * 65, [(0, 2, 0)], True, [True], ONE]:
            assert_refused(self, BadNumber, run_plan, TINY, 0, wrong)
            assert_refused(self, BadNumber, answers, TINY, wrong)
            assert_refused(self, BadNumber, answers, TINY, wrong, mode="x")


class TestAnswers(unittest.TestCase):
    def test_against_all_plans(self):
        numbers = finite_numbers(TINY)[::3] + [INF, MINUS_INF, NAN, (0, 5, 0), MINUS_ZERO]
        for many in (2, 3):
            for xs in product(numbers, repeat=many):
                for mode in ("even", "down", "odd"):
                    found = {run_plan(TINY, plan, list(xs), mode=mode)[0] for plan in slow_plans(list(range(many)))}
                    found = {ZERO if x == MINUS_ZERO else x for x in found}
                    self.assertEqual(answers(TINY, list(xs), mode=mode), sorted(found, key=lambda x: seat(TINY, x)))

    def test_more_numbers(self):
        xs = [(0, 1, 2), (0, 1, 2), (0, 3, 0), (1, 1, 3), ONE]
        for mode in MODES:
            found = {run_plan(TINY, plan, xs, mode=mode)[0] for plan in slow_plans([0, 1, 2, 3, 4])}
            found = {ZERO if x == MINUS_ZERO else x for x in found}
            self.assertEqual(answers(TINY, xs, mode=mode), sorted(found, key=lambda x: seat(TINY, x)))
            self.assertGreater(len(found), 1)

    def test_one_number(self):
        self.assertEqual(answers(TINY, [MINUS_ZERO]), [ZERO])
        self.assertEqual(answers(TINY, [ZERO], mode="down"), [ZERO])
        self.assertEqual(answers(TINY, [(1, 5, -9)]), [(1, 5, -9)])
        self.assertEqual(answers(TINY, [NAN]), [NAN])

    def test_too_many(self):
        for many in (6, 7, 64):
            self.assertEqual(assert_refused(self, TooMany, answers, TINY, [NAN] * many).limit, 5)
            assert_refused(self, BadMode, answers, TINY, [NAN] * many, mode="x")
        assert_refused(self, BadFormat, answers, None, [], mode="x")


class TestOrderQuestion(unittest.TestCase):
    def all_alike(self, form, N, K, u, mode):
        plans = slow_plans(list(range(N)))
        for counts in product(range(-K, K + 1), repeat=N):
            xs = [tuple_of(Fraction(k) * two(u)) for k in counts]
            results = [run_plan(form, plan, xs, mode=mode)[0] for plan in plans]
            if not all(alike(results[0], result) for result in results):
                return False
        return True

    def test_against_all_lists(self):
        for form, u in [((2, 0, 2), 0), ((2, -1, 3), 1), ((2, 2, 3), 2)]:
            for N, K in [(3, 1), (3, 2), (3, 3), (3, 4), (4, 1), (4, 2), (5, 1)]:
                for mode in MODES if N < 5 else ("even", "odd"):
                    holds = order_question(form, N, K, u, mode=mode) == ("holds",)
                    self.assertIs(holds, (N - 1) * K <= 4)
                    self.assertIs(holds, self.all_alike(form, N, K, u, mode), (form, N, K, u, mode))

    def test_bound(self):
        for form in [(2, 0, 2), (3, 0, 1), (5, -3, -2), (24, -149, 104), (140, -600, 600), (140, 599, 600)]:
            p, lo, hi = form
            for N in (3, 4, 5, 9, 12, 40):
                for K in {1, 3, (1 << p) // (N - 1), (1 << p) // (N - 1) + 1, (1 << p) - 1, 1 << p}:
                    if K < 1:
                        continue
                    for u in {lo, hi - 1}:
                        for mode in MODES:
                            told = order_question(form, N, K, u, mode=mode)
                            if (N - 1) * K <= 1 << p:
                                self.assertEqual(told, ("holds",))
                            else:
                                self.check_witness(form, N, K, u, mode, told)

    def check_witness(self, form, N, K, u, mode, told):
        word, xs, plan, plan2 = told
        self.assertEqual((word, len(xs), plan), ("fails", N, left_plan(N)))
        rest = 1
        for place in range(2, N):
            rest = (rest, place)
        self.assertEqual(plan2, (rest, 0))
        total = (1 << form[0]) + 1
        counts = [-1] + [K] * (total // K) + [total % K] * (total % K > 0)
        counts += [0] * (N - len(counts))
        self.assertEqual(xs, [number(1 if k < 0 else 0, abs(k), u) for k in counts])
        first, second = [run_plan(form, each, xs, mode=mode)[0] for each in (plan, plan2)]
        self.assertFalse(alike(first, second), (form, N, K, u, mode))

    def test_told(self):
        self.assertEqual(order_question((2, 0, 2), 3, 4, 1), ("fails", [(1, 1, 1), (0, 1, 3), (0, 1, 1)], ((0, 1), 2), ((1, 2), 0)))
        self.assertEqual(order_question((2, 0, 2), 4, 3, 0), ("fails", [(1, 1, 0), (0, 3, 0), (0, 1, 1), ZERO], (((0, 1), 2), 3), (((1, 2), 3), 0)))

    def test_not_asked(self):
        form = (2, 0, 2)
        for N, K, u in [(2, 1, 0), (41, 1, 0), (-3, 1, 0), (3, 0, 0), (3, 5, 0), (3, -1, 0), (3, 1, -1), (3, 1, 2), (3, 1, 3), (0, 0, 0),
                        (1 << 8999, 1, 0), (3, (1 << 9000) - 1, 0), (3, 1, 1 - (1 << 9000))]:
            assert_refused(self, NotAsked, order_question, form, N, K, u)
            assert_refused(self, BadMode, order_question, form, N, K, u, mode="x")
        assert_refused(self, NotAsked, order_question, (2, 1, 1), 3, 1, 1)
        self.assertEqual(order_question(form, 3, 1, 1), ("holds",))
        for wrong in (1 << 9000, -(1 << 9000), True, None, "3", (3,)):
            assert_refused(self, BadCount, order_question, form, wrong, 0, 9, mode="x")
            assert_refused(self, BadCount, order_question, form, 2, wrong, 9, mode="x")
            assert_refused(self, BadCount, order_question, form, 2, 0, wrong, mode="x")
