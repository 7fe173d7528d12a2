import unittest
from fractions import Fraction
from itertools import product

from everyrounding.asks import KINDS, ask
from everyrounding.chains import run_chain
from everyrounding.doors import both_ways
from everyrounding.errors import BadFormat, NotAsked, TooMany
from everyrounding.families import member
from everyrounding.judges import judge
from everyrounding.plans import all_plans, left_plan, run_plan
from everyrounding.polys import Poly
from everyrounding.programs import run_program
from everyrounding.ranges import point_numbers
from everyrounding.rounding import rounded
from everyrounding.seats import Grid, at_rank
from everyrounding.splits import rest_of
from everyrounding.trips import trip
from everyrounding.values import alike
from tests.houses import house_grid
from tests.oracle import HUGE_M, INF, MINUS_INF, MINUS_ZERO, NAN, TINY, ZERO, assert_refused, exact_from, finite_numbers, refusal, value_of
from tests.test_asks import BOX, CHAIN, FAMILY, FINER, FOUR, LESS, LOW, ONE, QUESTIONS, SPANS, SUM, TWO, WIDE
from tests.test_programs import steps
from tests.test_spans import LINE

BARE = ("table", "house", "door", "sumdoor", "orders", "split", "difference")
HOLDING = [(question, answer) for question, answer in QUESTIONS if answer[0] == "holds"]
FAILING = [(question, answer) for question, answer in QUESTIONS if answer[0] == "fails"]
JUNK = [None, True, False, 0, 1, "holds", "fails", "", [], (), ["holds"], ("holds", None, None), ("Holds",), (True,), (None,),
            (("holds",),), ("hold",),
        ("fails",), ("holds", ("fails",)), ["fails", 1], ("x", 1), (0, 1), ("fails", None, None, None,
                    None), (ONE,), (Poly(1),), Poly(1), Grid(TINY)]
VALUES = [None, True, False, 0, 1, -1, 7, "S", "", "x", [], (), (1, 1, 1), (1, 2, 1), ONE, NAN, INF, [ONE], (ONE, TWO), LINE, (0,),
            (1, 1), (True, True),
          [[]], ([], []), Poly(1), [(1, 2, 3, 4, 5)], "CPP", 1 << 9000, (0, 1), ((0, 1), 2)]


class TestTold(unittest.TestCase):
    def test_the_told_answers(self):
        for question, answer in QUESTIONS:
            self.assertIs(judge(question, answer), True, question)
            self.assertEqual(ask(question), answer)

    def test_answers_to_the_other_question(self):
        for (question, answer), (other, told) in zip(HOLDING, FAILING):
            self.assertIs(judge(question, told), False, question)
            if question[0] != "spans":
                self.assertIs(judge(other, answer), False, other)

    def test_answers_of_a_wrong_kind(self):
        for question, answer in QUESTIONS:
            for wrong in JUNK:
                if wrong != answer:
                    self.assertIs(judge(question, wrong), False, (question, wrong))
            for wrong in [list(answer), answer + (None,), answer[:-1] + (None,) if len(answer) > 1 else ("fails",), answer + answer,
                        (answer,)]:
                if wrong != answer:
                    self.assertIs(judge(question, wrong), False, (question, wrong))
            for value in VALUES:
                for wrong in [("holds", value), ("fails", value), ("fails", value, value), ("fails", value, value, value), ("holds",
                            value, value)]:
                    if wrong != answer:
                        self.assertIn(judge(question, wrong), (True, False))
            self.assertIs(judge(question, ("holds",)), answer == ("holds",))

    def test_refused_questions(self):
        for wrong in [None, True, (), ("x",), ("table",), ["table", TINY, "even", WIDE, "even"]]:
            assert_refused(self, NotAsked, judge, wrong, None)
        assert_refused(self, BadFormat, judge, ("table", None, "even", WIDE, "even"), ("holds",))
        assert_refused(self, NotAsked, judge, ("difference", TINY, 1, 2), None)
        # The search is not run, so its limit does not matter.
        question = ("agree", SUM, LESS, BOX, 1)
        assert_refused(self, TooMany, ask, question)
        self.assertIs(judge(question, ("fails", (1, 1))), True)
        self.assertIs(judge(("agree", SUM, SUM, BOX, 1), ("holds", "CCPPCPP")), True)
        self.assertIs(judge(("within", SUM, BOX, ONE, FOUR, 1), ("holds", "CCPPCPP")), True)
        self.assertIs(judge(("within", SUM, BOX, ONE, TWO, 1), ("fails", (2, 2))), True)
        self.assertEqual(tuple(question[0] for question, _ in HOLDING), KINDS)


def unlike_on(chain, chain2, exact):
    return not alike(run_chain(chain, exact)[0], run_chain(chain2, exact)[0])


class TestWitnesses(unittest.TestCase):
    """Every right witness is taken, not only the told one, and no other."""

    def test_table(self):
        question = ("table", TINY, "even", WIDE, "even")
        for value in [Fraction(k, 16) for k in range(-280, 281) if k]:
            exact = exact_from(value)
            told = unlike_on(((WIDE, "even"), (TINY, "even")), CHAIN, exact)
            self.assertIs(judge(question, ("fails", exact)), told, exact)
            # In any terms, and as a root.
            self.assertIs(judge(question, ("fails", (exact[0] * 6, exact[1] * 6, 1))), told)
            if value > 0:
                self.assertIs(judge(question, ("fails", (exact[0] ** 2 * 3, exact[1] ** 2 * 3, 2))), told)
        for wrong in [(0, 1, 1), (0, 1, 2), (5, 0, 1), (5, 8, 3), (-5, 8, 2), (5, 8), [5, 8, 1], (True, 8, 1), (5, 8, True),
                    (5 << 12000, 8 << 12000, 1), None]:
            self.assertIs(judge(question, ("fails", wrong)), False)
        self.assertIs(judge(question, ("fails", (5 << 11000, 8 << 11000, 1))), True)

    def test_house(self):
        question = ("house", FINER, CHAIN)
        found = 0
        for value in house_grid(FINER, CHAIN):
            exact = exact_from(value)
            told = unlike_on(FINER, CHAIN, exact)
            found += told
            self.assertIs(judge(question, ("fails", exact)), told)
            self.assertIs(judge(question, ("fails", (-exact[0], exact[1], 1))), False)
            self.assertIs(judge(question, ("fails", (exact[0] ** 2, exact[1] ** 2, 2))), told)
        self.assertGreater(found, 5)
        # Beyond the house nothing is a witness, though the results are unlike there.
        far = ("house", ((TINY, "zero"),), ((TINY, "up"),))
        self.assertTrue(unlike_on(far[1], far[2], (20, 1, 1)))
        self.assertIs(judge(far, ("fails", (20, 1, 1))), False)
        self.assertIs(judge(far, ("fails", (16, 1, 1))), False)
        self.assertIs(judge(far, ("fails", (15, 1, 1))), True)
        self.assertIs(judge(far, ("fails", (250, 1, 2))), True)

    def test_through(self):
        family = FAMILY + ((0, 1, 3, 1, 60), (15, 1, 1, 0, 4))
        question = ("through", ((TINY, "zero"),), ((TINY, "up"),), family)
        for place, series in enumerate(family):
            for m in range(series[3], series[4] + 1):
                exact = member(series, m)
                inside = Fraction(exact[0], exact[1]) < 16
                told = inside and unlike_on(question[1], question[2], exact)
                self.assertIs(judge(question, ("fails", place, m)), told)
            for m in (series[3] - 1, series[4] + 1, True, None, (1,), "1"):
                self.assertIs(judge(question, ("fails", place, m)), False)
        for place in (-1, 3, True, False, None, "0", (0,)):
            self.assertIs(judge(question, ("fails", place, 1)), False)
        self.assertIs(judge(question, ("fails", 0, 1)), True)
        self.assertIs(judge(question, ("fails", 1, 0)), False)
        # The member of the last series is unlike, but its place is never counted from the end.
        self.assertIs(judge(question, ("fails", 2, 0)), True)
        self.assertIs(judge(question, ("fails", -1, 0)), False)
        self.assertIs(judge(question, ("fails", -3, 1)), False)

    def test_standin(self):
        series, series2 = (0, 1, 3, 1, 40), (0, 3, 8, 1, 40)
        for mode in ("even", "up", "odd"):
            question = ("standin", TINY, series, series2, mode)
            for m in range(0, 42):
                inside = 1 <= m <= 40
                told = inside and rounded(TINY, member(series, m), mode=mode)[0] != rounded(TINY, member(series2, m), mode=mode)[0]
                self.assertIs(judge(question, ("fails", m)), told)
            for m in (True, None, "4", (4,), [4]):
                self.assertIs(judge(question, ("fails", m)), False)

    def test_trip(self):
        question = ("trip", (4, 0, 3), 2, 3, 38, "even", "even")
        for i in range(0, 41):
            told = 3 <= i <= 38 and not trip((4, 0, 3), 2, at_rank((4, 0, 3), i))[2]
            self.assertIs(judge(question, ("fails", i)), told)
        self.assertIs(judge(("trip", (4, 0, 3), 2, 1, 39, "even", "even"), ("fails", 37)), True)
        for i in (True, None, "37", (37,)):
            self.assertIs(judge(question, ("fails", i)), False)
        lone = [i for i in range(1, 40) if not trip((4, 0, 3), 1, at_rank((4, 0, 3), i))[2]]
        for i, j in zip(lone, lone[2:]):
            for k in range(i - 3, j + 4):
                self.assertIs(judge(("trip", (4, 0, 3), 1, i, j, "even", "even"), ("fails", k)), i <= k <= j and k in lone)

    def test_door(self):
        for op in ("add", "mul", "div"):
            numbers = [(s, m, q) for s in (0, 1) for m in range(1, 16, 2) for q in (-6, -1, 0, 3)]
            for near in ("even", "away"):
                question = ("door", op, near, 4, 6)
                found = 0
                for x, y in product(numbers, numbers):
                    total = value_of(x) + value_of(y) if op == "add" else 1
                    told = total != 0 and not alike(*both_ways(op, (4, -600, 600), (6, -600, 600), x, y, mode=near))
                    found += told
                    self.assertIs(judge(question, ("fails", x, y)), told, (question, x, y))
                    self.assertIs(judge(question, ("fails", x, None)), False)
                self.assertGreater(found, 3)
        question = ("door", "root", "even", 4, 6)
        roots = [(0, m, q) for m in range(1, 16, 2) for q in (-7, 0, 1)]
        for x in roots:
            told = not alike(*both_ways("root", (4, -600, 600), (6, -600, 600), x))
            self.assertIs(judge(question, ("fails", x, None)), told)
            for wrong in [("fails", (1,) + x[1:], None), ("fails", x, x), ("fails", x), ("fails", x, ZERO), ("fails", x, 0)]:
                self.assertIs(judge(question, wrong), False)

    def test_bounds_of_doors(self):
        question = ("door", "mul", "even", 4, 6)
        _, x, y = ask(question)
        self.assertEqual((x, y), ((0, 13, 0), (0, 13, 0)))
        for a, b, told in [(0, 0, True), (-300, -100, True), (-407, 0, True), (-408, 0, False), (392, 0, True), (393, 0, False),
                    (2000, -2000, True),
                           (1999, -2000, True), (-2000, 2000, True), (2000, -1600, False), (-1000, 593, True), (-1000, 592, False)]:
            self.assertIs(judge(question, ("fails", (0, 13, a), (0, 13, b))), told, (a, b))
        # Too many digits, zeros, infinities and NaN are no witness.
        for wrong in [(0, 17, 0), ZERO, MINUS_ZERO, INF, NAN, (0, 14, 0), None, True, (False, 13, 0), (0, 13, True), [0, 13, 0]]:
            self.assertIs(judge(question, ("fails", wrong, y)), False)
            self.assertIs(judge(question, ("fails", x, wrong)), False)
        # 19 * 11 has digits that fail, but 19 has five of them.
        for m in range(17, 32, 2):
            self.assertIs(judge(question, ("fails", (0, m, 0), (0, 13, 0))), False)
        add = ("door", "add", "even", 4, 6)
        self.assertIs(judge(add, ("fails", (0, 9, 0), (1, 9, 0))), False)
        self.assertIs(judge(add, ("fails", (0, 9, 0), (1, 1, -2000))), False)
        # A door that holds has no witness.
        for x2, y2 in product([(0, m, 0) for m in range(1, 16, 2)], repeat=2):
            self.assertIs(judge(("door", "mul", "even", 4, 8), ("fails", x2, y2)), False)

    def test_sumdoor(self):
        form, inner = (2, 0, 3), (3, 0, 3)
        question = ("sumdoor", form, inner, "even")
        numbers = finite_numbers(form)
        found = 0
        for x, y in product(numbers, numbers):
            told = not alike(*both_ways("add", form, inner, x, y))
            found += told
            self.assertIs(judge(question, ("fails", x, y)), told)
        self.assertGreater(found, 3)
        narrow = ("sumdoor", (3, 0, 0), (2, 0, 3), "even")
        for x, y in [((0, 7, 0), ZERO), (ZERO, (0, 7, 0)), ((0, 7, 0), MINUS_ZERO), (MINUS_ZERO, (1, 5, 0))]:
            self.assertIs(judge(narrow, ("fails", x, y)), True)
        self.assertIs(judge(narrow, ("fails", ZERO, MINUS_ZERO)), False)
        for wrong in [INF, NAN, MINUS_INF, (0, 5, 0), (0, 1, 5), (0, 1, -1), None, True, (0, 3, True)]:
            self.assertIs(judge(question, ("fails", wrong, ONE)), False)
            self.assertIs(judge(question, ("fails", (0, 3, 3), wrong)), False)

    def test_orders(self):
        question = ("orders", TINY, 3, 3, 0, "even")
        ks = [number for k in range(-3, 4) for number in ([ZERO, MINUS_ZERO] if k == 0 else [(int(k < 0), *odd(abs(k)))])]
        plans = all_plans(3)
        found = 0
        for xs in product(ks, repeat=3):
            for plan, plan2 in [(plans[0], plans[1]), (plans[2], plans[0]), (plans[1], plans[2])]:
                told = not alike(run_plan(TINY, plan, list(xs))[0], run_plan(TINY, plan2, list(xs))[0])
                found += told
                self.assertIs(judge(question, ("fails", list(xs), plan, plan2)), told)
                self.assertIs(judge(question, ("fails", xs, plan, plan2)), False)
        self.assertGreater(found, 10)

    def test_bent_orders(self):
        question = ("orders", TINY, 5, 3, 1, "even")
        kind, xs, plan, plan2 = ask(question)
        self.assertIs(judge(question, (kind, xs, plan2, plan)), True)
        self.assertIs(judge(question, (kind, xs, plan, plan)), False)
        self.assertIs(judge(question, (kind, xs[:-1] + [MINUS_ZERO], plan, plan2)), True)
        for wrong in [xs[:-1], xs + [ZERO], [*xs[:-1], INF], [*xs[:-1], NAN], [*xs[:-1], (0, 1, 3)], [*xs[:-1], ONE], [*xs[:-1],
                    None], tuple(xs), None, [None] * 5,
                      [*xs[:-1], (0, 1, -2000)], [*xs[:-1], (0, 1, 2000)]]:
            self.assertIs(judge(question, (kind, wrong, plan, plan2)), False, wrong)
        for wrong in [None, 0, (0, 1), left_plan(4), left_plan(6), list(plan), (plan, plan), ((((0, 1), 2), 3), 3), ((((0, 1), 2),
                    True), 4), "plan", deep_plan(70)]:
            self.assertIs(judge(question, (kind, xs, wrong, plan2)), False)
            self.assertIs(judge(question, (kind, xs, plan, wrong)), False)
        # These numbers tell the plans apart, but they are no multiples in the range of the question.
        last = (0, (((1, 2), 3), 4))
        for question, xs in [(("orders", TINY, 5, 4, 0, "even"), [INF] + [(1, 1, 2)] * 4), (("orders", TINY, 5, 1, 0, "even"),
                    ask(("orders", TINY, 5, 3, 0, "even"))[1]),
                             (("orders", TINY, 5, 3, 1, "even"), ask(("orders", TINY, 5, 3, 0, "even"))[1]),
                             (("orders", TINY, 5, 3, 0, "even"), [(0, 1, 2), ONE, ONE, ZERO, ZERO])]:
            self.assertIs(judge(question, (kind, xs, left_plan(5), last)), False)
            first, second = run_plan(TINY, left_plan(5), xs)[0], run_plan(TINY, last, xs)[0]
            third = run_plan(TINY, ((((1, 2), 3), 4), 0), xs)[0]
            self.assertFalse(alike(first, second) and alike(first, third))
            self.assertIs(judge(question, (kind, xs, left_plan(5), ((((1, 2), 3), 4), 0))), False)
        wide = ("orders", (9, 0, 4), 40, 512, 0, "even")
        self.assertIs(judge(wide, ask(wide)), True)

    def test_split(self):
        for op in ("add", "mul", "div"):
            form = (2, -2, 1)
            for mode in ("even", "zero", "down") if op != "div" else ("even", "zero"):
                question = ("split", op, form, mode)
                for x, y in product(finite_numbers(form), finite_numbers(form)):
                    if op == "div" and y[1] == 0:
                        told = False
                    else:
                        answer, exact, fits = rest_of(op, form, x, y, mode=mode)
                        told = "overflow" not in answer[1] and exact is not None and not fits
                    self.assertIs(judge(question, ("fails", x, y)), told, (question, x, y))
                for wrong in [INF, NAN, (0, 5, 0), (0, 1, 3), (0, 1, -3), None, True]:
                    self.assertIs(judge(question, ("fails", wrong, ONE)), False)
                    self.assertIs(judge(question, ("fails", (0, 1, -2), wrong)), False)

    def test_difference(self):
        numbers = finite_numbers(TINY) + [INF, NAN, (0, 5, 0), (0, 1, 4), (0, 1, -1), None, True, (0, True, 0)]
        held = {abs(value_of(z)) for z in finite_numbers(TINY)}
        for n, d in [(3, 1), (8, 3), (300, 100), (7, 2), (17, 6), (100, 1), (799, 300)]:
            question, found = ("difference", TINY, n, d), 0
            for x, y in product(numbers, numbers):
                told = False
                if all(type(z) is tuple and type(z[1]) is int and z[0] == 0 and 0 < z[1] < 4 and 0 <= z[2] and z != (0, 1,
                            4) for z in (x, y)):
                    difference = value_of(x) - value_of(y)
                    told = 0 <= difference and value_of(x) <= Fraction(n, d) * value_of(y) and difference not in held
                found += told
                self.assertIs(judge(question, ("fails", x, y)), told, (x, y))
            self.assertEqual(found > 0, ask(question)[0] == "fails")
        self.assertEqual(ask(("difference", TINY, 8, 3))[0], "fails")

    def test_agree_and_within(self):
        box = ((TINY, -3, 4), (TINY, 5, 7))
        agree, within = ("agree", SUM, LESS, box, 5), ("within", SUM, box, ONE, (0, 3, 2), 5)
        for seats in product(range(-5, 7), range(3, 9)):
            inside = -3 <= seats[0] <= 4 and 5 <= seats[1] <= 7
            xs = point_numbers(box, seats) if inside else None
            told = inside and not alike(run_program(SUM, xs)[0][-1], run_program(LESS, xs)[0][-1])
            self.assertIs(judge(agree, ("fails", seats)), told)
            lies = inside and run_program(SUM, xs)[0][-1] in [x for x in finite_numbers(TINY) if x[0] == 0 and x != ZERO]
            self.assertIs(judge(within, ("fails", seats)), inside and not lies)
        for wrong in [None, (), (1,), (1, 5, 5), [1, 5], (1, True), (True, 5), (None, 5), "15", ((1,), 5)]:
            self.assertIs(judge(agree, ("fails", wrong)), False)
            self.assertIs(judge(within, ("fails", wrong)), False)
        self.assertIs(judge(agree, ("fails", 1, 5)), False)

    def test_spans(self):
        question = ("spans", SUM, SPANS, ONE, TWO)
        self.assertIs(judge(question, ("fails", (ONE, (0, 3, 0)))), True)
        for wrong in [(ONE, TWO), LINE, (TWO, (0, 3, 0)), [ONE, (0, 3, 0)], (ONE,), None, ((0, True, 0), (0, 3, 0)), ((False, 1, 0),
                    (0, 3, False)), ONE]:
            self.assertIs(judge(question, ("fails", wrong)), False)
        self.assertIs(judge(("spans", SUM, SPANS, ONE, FOUR), ("fails", (ONE, (0, 3, 0)))), False)
        # The span of the first step does not lie in the ends either, but it is not the last one.
        two = (2, (), SUM[2] + (("add", (2, 2), TINY, "even"),))
        for span, told in [((TWO, (0, 3, 1)), True), ((ONE, (0, 3, 0)), False)]:
            self.assertIs(judge(("spans", two, SPANS, TWO, TWO), ("fails", span)), told)


def odd(k):
    q = 0
    while k % 2 == 0:
        k, q = k // 2, q + 1
    return k, q


def deep_plan(depth):
    plan = 0
    for _ in range(depth):
        plan = (plan, 1)
    return plan


class TestPapers(unittest.TestCase):
    def test_papers_of_trees(self):
        for letters, told in [("X", True), ("CXX", True), ("CCPPX", True), ("S", False), ("CX", False), ("", False), ("P", False),
                    (["X"], False), (None, False)]:
            self.assertIs(judge(("agree", SUM, (2, (), (("add", (1, 0), TINY, "even"),)), BOX, 20), ("holds", letters)), told)
            self.assertIs(judge(("within", SUM, BOX, ONE, FOUR, 20), ("holds", letters)), letters == "S")
        self.assertIs(judge(("within", SUM, BOX, ONE, FOUR, 20), ("holds", "S")), True)
        self.assertIs(judge(("within", SUM, BOX, ONE, FOUR, 20), ("holds", "CSCPS")), True)
        self.assertIs(judge(("within", SUM, BOX, ONE, TWO, 20), ("holds", "S")), False)

    def test_papers_of_spans(self):
        program = (2, (), steps(("add", 0, 1), ("sub", 2, 1), form=TINY))
        told = ask(("spans", program, SPANS, ZERO, (0, 3, 0)))
        self.assertEqual(told, ("holds", [(ONE, (0, 3, 0)), (ZERO, (0, 3, 0))]))
        for claims, right in [(told[1], True), ([(ONE, FOUR), (ZERO, FOUR)], False), ([(ONE, (0, 3, 0)), (ZERO, FOUR)], False),
                              ([(ONE, (0, 3, 0))], False), (tuple(told[1]), False), ([(ONE, (0, 3, 0)), (LOW, (0, 3, 0))], False)]:
            self.assertIs(judge(("spans", program, SPANS, ZERO, (0, 3, 0)), ("holds", claims)), right, claims)
        wider = ("spans", program, SPANS, LOW, FOUR)
        for claims, right in [(told[1], True), ([(ONE, FOUR), (ZERO, FOUR)], True), ([(ZERO, FOUR), (LOW, FOUR)], True), ([LINE,
                    LINE], False), ([LINE, (LOW, FOUR)], False)]:
            self.assertIs(judge(wider, ("holds", claims)), right, claims)

    def test_bent_papers_of_rows(self):
        count = 0
        for question, answer in HOLDING:
            if question[0] not in ("through", "standin", "trip"):
                continue
            paper = answer[1]
            for bent in self.bent(paper):
                count += 1
                self.assertIs(judge(question, ("holds", bent)), False, question[0])
            self.assertIs(judge(question, ("holds", paper)), True)
        self.assertGreater(count, 50)

    def bent(self, value):
        """The value with one integer after another made one greater."""
        if type(value) is int:
            yield value + 1
        elif type(value) in (tuple, list):
            for at, part in enumerate(value):
                for other in self.bent(part):
                    yield type(value)(list(value[:at]) + [other] + list(value[at + 1:]))

    def test_claims_that_hold_without_a_paper(self):
        for question, answer in QUESTIONS:
            if question[0] in BARE:
                self.assertIs(judge(question, ("holds",)), answer == ("holds",))
                for paper in (None, [], (), True, "holds"):
                    self.assertIs(judge(question, ("holds", paper)), False)
            else:
                self.assertIs(judge(question, ("holds",)), False)
        self.assertIsNone(refusal(judge, QUESTIONS[0][0], (HUGE_M,)))
