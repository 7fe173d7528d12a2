import random
import unittest

from everyrounding.errors import BadCount, BadFormat, BadOp, BadProgram, BadSpan
from everyrounding.programs import run_program
from everyrounding.seats import at_seat, seat
from everyrounding.spandeeds import span_add, span_convert, span_div, span_minus, span_mul, span_muladd, span_root, span_size, span_sub
from everyrounding.spanpapers import pieces_hull, run_spans, spans_paper_holds, step_span
from everyrounding.spans import holds_exact, holds_span, hull, point_span
from everyrounding.values import exact_of
from tests.oracle import INF, MINUS_INF, MINUS_ZERO, SMALL, TINY, ZERO, assert_refused, finite_numbers
from tests.test_programs import some_program, steps
from tests.test_spans import LINE, NO_SPANS, SPANS

ONE, TWO, THREE, LOW = (0, 1, 0), (0, 1, 1), (0, 3, 0), (1, 1, 0)
POINT = (ONE, ONE)
DEEDS = {"add": span_add, "sub": span_sub, "mul": span_mul, "muladd": span_muladd, "minus": span_minus, "size": span_size,
            "convert": span_convert}
MANY = {"add": 2, "sub": 2, "mul": 2, "div": 2, "muladd": 3, "root": 1, "convert": 1, "minus": 1, "size": 1}


def told_step(op, form, spans):
    """The tightest step by the functions of [41]."""
    if op in DEEDS:
        return DEEDS[op](form, *spans)
    found = span_div(form, *spans) if op == "div" else span_root(form, *spans)
    if not found:
        return None
    return found[0] if len(found) == 1 else hull(*found)


def told_run(program, spans):
    """The spans of all steps by [44]."""
    known = list(spans) + [point_span(SMALL, c) for c in program[1]]
    found = []
    for op, places, form, _ in program[2]:
        span = None if None in found else told_step(op, form, [known[place] for place in places])
        known.append(span)
        found.append(span)
    return found


def some_spans(picker, many):
    return [picker.choice(SPANS) for _ in range(many)]


class TestSteps(unittest.TestCase):
    def test_each_operation(self):
        picker = random.Random(44)
        for op, many in MANY.items():
            for form in (TINY, SMALL, (3, 1, 2)):
                for _ in range(60):
                    spans = some_spans(picker, many)
                    kept = list(spans)
                    self.assertEqual(step_span(op, form, spans), told_step(op, form, spans), (op, form, spans))
                    self.assertEqual(spans, kept)

    def test_empty_steps_and_hulls(self):
        self.assertIsNone(step_span("div", TINY, [POINT, (ZERO, ZERO)]))
        self.assertIsNone(step_span("root", TINY, [(LOW, LOW)]))
        self.assertEqual(step_span("div", TINY, [(ONE, TWO), (LOW, ONE)]), LINE)
        self.assertEqual(step_span("div", TINY, [(ONE, TWO), (ZERO, ONE)]), (ONE, INF))
        self.assertEqual(step_span("div", TINY, [(ONE, TWO), (ONE, TWO)]), (ZERO, TWO))
        self.assertEqual(step_span("div", SMALL, [(ONE, TWO), (ONE, TWO)]), ((0, 1, -1), TWO))
        self.assertEqual(step_span("root", TINY, [(LOW, ONE)]), (ZERO, ONE))

    def test_wrong_arguments(self):
        for op in ("rest", "", None, True, ["add"], "least", "square"):
            assert_refused(self, BadOp, step_span, op, None, None)
        assert_refused(self, BadFormat, step_span, "add", None, None)
        for op, many in MANY.items():
            for wrong in range(5):
                if wrong != many:
                    assert_refused(self, BadSpan, step_span, op, TINY, [POINT] * wrong)
            for wrong in (None, True, (POINT,) * many, POINT, [POINT] * 65):
                assert_refused(self, BadSpan, step_span, op, TINY, wrong)
            for wrong in NO_SPANS:
                assert_refused(self, BadSpan, step_span, op, TINY, [POINT] * (many - 1) + [wrong])


class TestRunning(unittest.TestCase):
    def test_against_the_steps(self):
        picker = random.Random(45)
        empty = 0
        for _ in range(400):
            inputs = picker.randint(1, 4)
            program = some_program(picker, inputs, picker.randint(1, 12))
            spans = some_spans(picker, inputs)
            told = told_run(program, spans)
            empty += None in told
            self.assertEqual(run_spans(program, spans), told, (program, spans))
        self.assertGreater(empty, 20)

    def test_the_spans_hold_the_results(self):
        # Each step of these programs rounds inward of the outward rounding.
        picker = random.Random(46)
        numbers = [x for x in finite_numbers(TINY) if x != MINUS_ZERO]
        for _ in range(150):
            program = some_program(picker, 2, picker.randint(1, 5), ("add", "sub", "mul", "minus", "size", "convert"))
            ends = [sorted(picker.sample(range(len(numbers)), 2)) for _ in range(2)]
            spans = [(numbers[i], numbers[j]) for i, j in ends]
            told = run_spans(program, spans)
            for _ in range(5):
                xs = [numbers[picker.randint(i, j)] for i, j in ends]
                for x, span in zip(run_program(program, xs)[0], told):
                    if x[1] < 0:
                        break
                    self.assertTrue(holds_exact(span, exact_of(x)), (program, xs))

    def test_none_from_the_first_empty_step_on(self):
        told = steps(("add", 0, 1), ("div", 0, 2), ("add", 0, 0), ("mul", 0, 0), form=TINY)
        self.assertEqual(run_spans((1, (ONE, ZERO), told), [POINT]), [(TWO, TWO), None, None, None])
        self.assertEqual(run_spans((1, (ONE, MINUS_ZERO), told), [POINT]), [(TWO, TWO), None, None, None])
        self.assertEqual(run_spans((1, (ONE, ONE), told), [POINT]), [(TWO, TWO), POINT, (TWO, TWO), POINT])

    def test_constants_are_points(self):
        told = steps(("convert", 1), ("convert", 2), ("convert", 3), form=TINY)
        self.assertEqual(run_spans((1, (MINUS_ZERO, (0, 5, 0), (1, 5, 0)), told), [LINE]), [(ZERO, ZERO), ((0, 1, 2), (0, 3, 1)),
                    ((1, 3, 1), (1, 1, 2))])

    def test_wrong_arguments(self):
        program = (2, (), steps(("add", 0, 1), form=TINY))
        for call, more in [(run_spans, ()), (spans_paper_holds, (None,))]:
            assert_refused(self, BadProgram, call, None, None, *more)
            for wrong in [None, True, (), (POINT, POINT), [], [POINT], [POINT] * 3, [POINT, None], POINT, [POINT] * 65]:
                assert_refused(self, BadSpan, call, program, wrong, *more)
            for wrong in NO_SPANS:
                assert_refused(self, BadSpan, call, program, [POINT, wrong], *more)


class TestPapers(unittest.TestCase):
    def test_told_and_wider_papers(self):
        picker = random.Random(47)
        empty = 0
        for _ in range(200):
            inputs = picker.randint(1, 3)
            program = some_program(picker, inputs, picker.randint(1, 6))
            spans = some_spans(picker, inputs)
            told = run_spans(program, spans)
            if None in told:
                empty += 1
                self.assertIs(spans_paper_holds(program, spans, told), False)
                self.assertIs(spans_paper_holds(program, spans, [LINE] * len(told)), self.is_paper(program, spans, [LINE] * len(told)))
                continue
            self.assertIs(spans_paper_holds(program, spans, told), True)
            for at in range(len(told)):
                for claim in [LINE, picker.choice(SPANS), (told[at][0], told[at][0]), (told[at][1], told[at][1]), hull(told[at], POINT)]:
                    claims = told[:at] + [claim] + told[at + 1:]
                    self.assertIs(spans_paper_holds(program, spans, claims), self.is_paper(program, spans, claims), (program, spans,
                                claims))
        self.assertGreater(empty, 10)

    def is_paper(self, program, spans, claims):
        known = list(spans) + [(ZERO, ZERO) if c == MINUS_ZERO else (c, c) for c in program[1]]
        for (op, places, form, _), claim in zip(program[2], claims):
            try:
                self.assertIsNotNone(seat(form, claim[0]))
                self.assertIsNotNone(seat(form, claim[1]))
                span = told_step(op, form, [known[place] for place in places])
                if span is None or not holds_span(claim, span):
                    return False
            except ValueError:
                return False
            known.append(claim)
        return True

    def test_bent_papers(self):
        program, spans = (2, (), steps(("add", 0, 1), ("sub", 2, 0), form=TINY)), [(ONE, TWO), (ZERO, ONE)]
        told = run_spans(program, spans)
        self.assertEqual(told, [(ONE, THREE), (LOW, TWO)])
        self.assertIs(spans_paper_holds(program, spans, told), True)
        wrongs = [None, True, 0, "claims", (), tuple(told), [], told[:1], told + told[:1], [told[0], None], [told[0], list(told[1])],
                  # Of no format, too narrow, and right ones behind a wider claim that are too narrow now.
                  [((0, 1, -1), THREE), (LOW, TWO)], [(ONE, (0, 7, 0)), LINE], [(TWO, THREE), told[1]], [(ONE, TWO),
                              told[1]], [LINE, told[1]],
                  [told[0], (LOW, ONE)], [told[0], (ZERO, TWO)], [told[1], told[0]]]
        for wrong in wrongs + [[told[0], wrong] for wrong in NO_SPANS] + [[wrong, LINE] for wrong in NO_SPANS]:
            self.assertIs(spans_paper_holds(program, spans, wrong), False, wrong)
        for right in [[LINE, LINE], [told[0], LINE], [told[0], (MINUS_INF, TWO)], [(ZERO, THREE), ((1, 1, 1), TWO)]]:
            self.assertIs(spans_paper_holds(program, spans, right), True, right)

    def test_a_claim_can_make_a_later_step_empty(self):
        program = (1, (), steps(("sub", 0, 0), ("div", 0, 1), form=TINY))
        self.assertEqual(run_spans(program, [POINT]), [(ZERO, ZERO), None])
        self.assertIs(spans_paper_holds(program, [POINT], [(ZERO, ZERO), LINE]), False)
        self.assertIs(spans_paper_holds(program, [POINT], [(ZERO, ONE), (ONE, INF)]), True)


class TestPieces(unittest.TestCase):
    def slow_hull(self, program, form, spans, k):
        a, b = seat(form, spans[0][0]), seat(form, spans[0][1])
        cuts = []
        for i in range(k + 1):
            x = at_seat(form, a + ((b - a) * i // k))
            x = ZERO if x == MINUS_ZERO else x
            if x not in cuts:
                cuts.append(x)
        pieces = list(zip(cuts, cuts[1:])) or [(cuts[0], cuts[0])]
        told = [run_spans(program, [piece] + spans[1:])[-1] for piece in pieces]
        told = [span for span in told if span is not None]
        if not told:
            return None
        whole = told[0]
        for span in told:
            whole = hull(whole, span)
        return whole

    def test_against_the_pieces(self):
        picker = random.Random(48)
        empty = 0
        for _ in range(120):
            inputs = picker.randint(1, 3)
            program = some_program(picker, inputs, picker.randint(1, 4))
            spans = some_spans(picker, inputs)
            kept = list(spans)
            for k in (1, 2, 3, 5, 17, 64):
                told = pieces_hull(program, TINY, spans, k)
                self.assertEqual(told, self.slow_hull(program, TINY, spans, k), (program, spans, k))
                empty += told is None
            self.assertEqual(spans, kept)
        self.assertGreater(empty, 10)

    def test_told(self):
        square = (1, (), steps(("mul", 0, 0), form=(8, -10, 10)))
        form = (2, 0, 2)
        self.assertEqual(pieces_hull(square, form, [((1, 1, 1), TWO)], 1), ((1, 1, 2), (0, 1, 2)))
        self.assertEqual(pieces_hull(square, form, [((1, 1, 1), TWO)], 2), (ZERO, (0, 1, 2)))
        self.assertEqual(pieces_hull(square, form, [LINE], 2), (ZERO, INF))
        self.assertEqual(pieces_hull(square, form, [LINE], 1), LINE)
        self.assertEqual(pieces_hull(square, form, [POINT], 64), POINT)
        self.assertEqual(pieces_hull(square, form, [(ZERO, ZERO)], 3), (ZERO, ZERO))
        # The pieces below zero have no root, the one from -1 to 1 has some.
        root = (1, (), steps(("root", 0), form=TINY))
        self.assertEqual(pieces_hull(root, form, [((1, 1, 1), (0, 1, 2))], 64), (ZERO, TWO))
        self.assertIsNone(pieces_hull(root, form, [((1, 1, 1), LOW)], 5))
        self.assertEqual(pieces_hull(root, form, [((1, 1, 1), ZERO)], 5), (ZERO, ZERO))

    def test_wrong_arguments(self):
        program = (2, (), steps(("add", 0, 1), form=TINY))
        assert_refused(self, BadProgram, pieces_hull, None, None, None, None)
        assert_refused(self, BadFormat, pieces_hull, program, None, None, None)
        wrongs = [None, [], [POINT], [POINT] * 3, (POINT, POINT), [POINT, None], [((0, 5, 0), (0, 3, 1)), POINT], [(ONE, (0, 5, 0)), POINT],
                  [((1, 1, -1), ONE), POINT], [(ONE, (0, 1, 4)), POINT]]
        for wrong in wrongs:
            for k in (1, 0, None):
                assert_refused(self, BadSpan, pieces_hull, program, TINY, wrong, k)
        for k in (0, 65, -1, True, None, "1"):
            assert_refused(self, BadCount, pieces_hull, program, TINY, [POINT, ((0, 5, 0), INF)], k)
        self.assertEqual(pieces_hull(program, TINY, [POINT, ((0, 5, 0), INF)], 64), ((0, 3, 1), INF))
