import unittest
from fractions import Fraction
from itertools import product

from everyrounding import spandeeds
from everyrounding.errors import BadFormat, BadSpan
from everyrounding.spandeeds import span_add, span_convert, span_div, span_greatest, span_least, span_minus, span_mul, span_muladd
from everyrounding.spandeeds import span_root, span_size, span_square, span_sub, span_sum, span_text
from everyrounding.spans import hull, meet
from tests.oracle import INF, MINUS_INF, MINUS_ZERO, SMALL, TINY, ZERO, assert_at, assert_refused, exact_from, slow_round, tuple_of, value_of
from tests.test_spans import NO_SPANS

LINE = (MINUS_INF, INF)
ONE, TWO, LOW = (0, 1, 0), (0, 1, 1), (1, 1, 0)
# An infinite end stands for sizes beyond every format here, and what lies next to zero for the least ones.
FAR = Fraction(1 << 60)
NEAR = 1 / FAR
FORMS = [TINY, SMALL, (3, 1, 2), (2, -3, -2)]
VALUES = [-FAR, Fraction(-100), Fraction(-7, 2), Fraction(-1), Fraction(-1, 16), Fraction(0), Fraction(1, 8), Fraction(1), Fraction(5, 2),
          Fraction(9), FAR]


def end_of(value):
    if abs(value) == FAR:
        return MINUS_INF if value < 0 else INF
    return tuple_of(value)


def all_spans(values):
    found = [(a, b) for at, a in enumerate(values) for b in values[at:]]
    return [(end_of(a), end_of(b)) for a, b in found if not (a == b and abs(a) == FAR)]


SPANS = all_spans(VALUES)
FEWER = all_spans(sorted(VALUES[::2] + [Fraction(0), Fraction(20)]))


def bound(x):
    return (-FAR if x[0] else FAR) if x[1] < 0 else value_of(x)


def members(span):
    """Members of a span: its ends, what lies between them, and what lies next to zero."""
    low, high = bound(span[0]), bound(span[1])
    told = VALUES + [NEAR, -NEAR, (low + high) / 2, (3 * low + high) / 4, low, high]
    return sorted({value for value in told if low <= value <= high})


def outward(form, low, high):
    """The least span of the form from one fraction to another, by the slow rounding."""
    ends = [slow_round(form, exact_from(low), "down")[0], slow_round(form, exact_from(high), "up")[0]]
    return tuple(ZERO if x == MINUS_ZERO else x for x in ends)


def slow_span(form, results):
    return outward(form, min(results), max(results))


class TestAgainstMembers(unittest.TestCase):
    def check_pairs(self, call, deed, spans):
        parts = {span: members(span) for span in spans}
        for at, (span, span2) in enumerate(product(spans, spans)):
            form = FORMS[at % len(FORMS)]
            results = [deed(x, y) for x in parts[span] for y in parts[span2]]
            self.assertEqual(call(form, span, span2), slow_span(form, results), (call.__name__, form, span, span2))

    def test_sums(self):
        self.check_pairs(span_add, lambda x, y: x + y, FEWER)
        self.check_pairs(span_sub, lambda x, y: x - y, FEWER)

    def test_products(self):
        self.check_pairs(span_mul, lambda x, y: x * y, FEWER)

    def test_least_and_greatest(self):
        self.check_pairs(span_least, min, FEWER)
        self.check_pairs(span_greatest, max, FEWER)

    def test_muladd(self):
        spans = FEWER[::3]
        parts = {span: members(span) for span in FEWER}
        for at, (span, span2, span3) in enumerate(product(spans, spans, FEWER[1::2])):
            form = FORMS[at % len(FORMS)]
            products = [x * y for x in parts[span] for y in parts[span2]]
            ends = parts[span3]
            results = [min(products) + ends[0], max(products) + ends[-1]]
            self.assertEqual(span_muladd(form, span, span2, span3), slow_span(form, results), (form, span, span2, span3))

    def test_one_span(self):
        for form in FORMS:
            for span in SPANS:
                inside = members(span)
                self.assertEqual(span_minus(form, span), slow_span(form, [-x for x in inside]))
                self.assertEqual(span_size(form, span), slow_span(form, [abs(x) for x in inside]))
                self.assertEqual(span_square(form, span), slow_span(form, [x * x for x in inside]))
                self.assertEqual(span_convert(form, span), slow_span(form, inside))

    def test_root(self):
        for form in FORMS:
            for span in SPANS:
                inside = [x for x in members(span) if x >= 0]
                if not inside:
                    self.assertEqual(span_root(form, span), [])
                    continue
                low, high = min(inside), max(inside)
                ends = [slow_round(form, (low.numerator, low.denominator, 2), "down")[0], slow_round(form, (high.numerator,
                            high.denominator, 2), "up")[0]]
                # The root of what stands for infinity is still beyond these formats.
                self.assertEqual(span_root(form, span), [tuple(ends)], (form, span))

    def test_div(self):
        spans = FEWER + [((0, 1, 3), (0, 1, 4)), ((1, 3, -5), (0, 3, 2))]
        for at, (span, span2) in enumerate(product(spans, spans)):
            form = FORMS[at % len(FORMS)]
            inside = members(span)
            if bound(span2[0]) > 0 or bound(span2[1]) < 0:
                # An infinite end by an infinite one is left out.
                results = [x / y for x in inside for y in members(span2) if not (abs(x) == FAR and abs(y) == FAR)]
                told = [slow_span(form, results)]
            else:
                told = self.around_zero(form, inside, members(span2))
            self.assertEqual(span_div(form, span, span2), told, (form, span, span2))

    def around_zero(self, form, xs, ys):
        parts = [[y for y in ys if y < 0], [y for y in ys if y > 0]]
        found = sorted([slow_span(form, [x / y for x in xs for y in part]) for part in parts if part],
                    key=lambda span: (bound(span[0]), bound(span[1])))
        if len(found) == 2 and meet(*found) is not None:
            return [hull(*found)]
        return found

    def test_sum_of_spans(self):
        for at in range(len(FEWER) - 5):
            for count in (1, 2, 5):
                spans = FEWER[at:at + count]
                low, high = sum(bound(span[0]) for span in spans), sum(bound(span[1]) for span in spans)
                form = FORMS[at % len(FORMS)]
                self.assertEqual(span_sum(form, spans), outward(form, low, high))
        self.assertEqual(span_sum(TINY, []), (ZERO, ZERO))
        self.assertEqual(span_sum(TINY, [(ONE, ONE)] * 64), ((0, 3, 2), INF))
        self.assertEqual(span_sum((8, 0, 2), [(ONE, ONE)] * 64), ((0, 1, 6), (0, 1, 6)))
        self.assertEqual(span_sum(TINY, [LINE, (ONE, ONE)]), LINE)
        self.assertEqual(span_sum(TINY, [(ONE, INF), (LOW, ONE)]), (ZERO, INF))
        tiny, huge = (0, 1, -2000), (0, 1, 2000)
        self.assertEqual(span_sum(TINY, [(huge, huge), (tiny, tiny), ((1, 1, 2000), (1, 1, 2000))]), (ZERO, ONE))


class TestTold(unittest.TestCase):
    def test_div_examples(self):
        self.assertEqual(span_div(TINY, (ONE, TWO), (LOW, ONE)), [(MINUS_INF, LOW), (ONE, INF)])
        self.assertEqual(span_div(TINY, (LOW, ONE), (LOW, ONE)), [LINE])
        self.assertEqual(span_div(TINY, (ONE, TWO), (ZERO, ZERO)), [])
        self.assertEqual(span_div(TINY, (ZERO, ZERO), (ZERO, ZERO)), [])
        self.assertEqual(span_div(TINY, (ZERO, ZERO), (LOW, ONE)), [(ZERO, ZERO)])
        self.assertEqual(span_div(TINY, (ONE, TWO), (ZERO, ONE)), [(ONE, INF)])
        self.assertEqual(span_div(TINY, (ONE, TWO), (LOW, ZERO)), [(MINUS_INF, LOW)])
        self.assertEqual(span_div(TINY, ((1, 1, 1), LOW), (LOW, ONE)), [(MINUS_INF, LOW), (ONE, INF)])
        # Both spans are rounded to zero on one side and share it.
        self.assertEqual(span_div(TINY, (ONE, TWO), ((1, 1, 4), (0, 1, 4))), [LINE])
        self.assertEqual(span_div((3, -4, 2), (ONE, TWO), ((1, 1, 4), (0, 1, 4))), [(MINUS_INF, (1, 1, -4)), ((0, 1, -4), INF)])
        self.assertEqual(span_div(TINY, (ONE, TWO), LINE), [LINE])
        self.assertEqual(span_div(TINY, (ONE, TWO), (ONE, INF)), [(ZERO, TWO)])
        self.assertEqual(span_div(TINY, LINE, (ONE, INF)), [LINE])
        self.assertEqual(span_div(TINY, (ONE, INF), (ONE, INF)), [(ZERO, INF)])
        self.assertEqual(span_div(TINY, (ONE, INF), (MINUS_INF, LOW)), [(MINUS_INF, ZERO)])

    def test_zero_times_infinity(self):
        self.assertEqual(span_mul(TINY, (ZERO, ZERO), LINE), (ZERO, ZERO))
        self.assertEqual(span_mul(TINY, (ZERO, ONE), (ONE, INF)), (ZERO, INF))
        self.assertEqual(span_mul(TINY, (LOW, ZERO), (ONE, INF)), (MINUS_INF, ZERO))
        self.assertEqual(span_muladd(TINY, (ZERO, ZERO), LINE, (ONE, TWO)), (ONE, TWO))
        self.assertEqual(span_muladd(TINY, (ONE, INF), (ONE, INF), (MINUS_INF, ONE)), LINE)

    def test_beyond_top(self):
        top, huge = (0, 3, 2), (0, 1, 2000)
        self.assertEqual(span_convert(TINY, (huge, huge)), (top, INF))
        self.assertEqual(span_minus(TINY, (huge, huge)), (MINUS_INF, (1, 3, 2)))
        self.assertEqual(span_mul(TINY, (huge, huge), (huge, huge)), (top, INF))
        self.assertEqual(span_square(TINY, ((1, 1, 2000), (1, 1, 2000))), (top, INF))
        self.assertEqual(span_convert(TINY, ((0, 13, 0), (0, 13, 0))), (top, INF))
        self.assertEqual(span_convert(TINY, ((0, 1, -2000), (0, 1, -2000))), (ZERO, ONE))
        self.assertEqual(span_convert(TINY, ((1, 1, -2000), (1, 1, -2000))), (LOW, ZERO))
        self.assertEqual(span_root(TINY, (huge, INF)), [(top, INF)])
        self.assertEqual(span_root((2, 0, 600), ((0, 1, 600), (0, 1, 601))), [((0, 1, 300), (0, 3, 299))])

    def test_begin_at_zero(self):
        self.assertEqual(span_size(TINY, (LOW, TWO)), (ZERO, TWO))
        self.assertEqual(span_size(TINY, ((1, 1, 1), ONE)), (ZERO, TWO))
        self.assertEqual(span_square(TINY, ((1, 1, 1), ONE)), (ZERO, (0, 1, 2)))
        self.assertEqual(span_size(TINY, LINE), (ZERO, INF))
        self.assertEqual(span_size(TINY, (MINUS_INF, LOW)), (ONE, INF))
        self.assertEqual(span_root(TINY, (LOW, (0, 1, 2))), [(ZERO, TWO)])
        self.assertEqual(span_root(TINY, (LOW, ZERO)), [(ZERO, ZERO)])
        self.assertEqual(span_root(TINY, ((1, 1, 1), LOW)), [])
        self.assertEqual(span_root(TINY, LINE), [(ZERO, INF)])


class TestSpanText(unittest.TestCase):
    def test_texts(self):
        for text, value in [("1", Fraction(1)), ("0.1", Fraction(1, 10)), ("-2.5", Fraction(-5, 2)), ("13e0", Fraction(13)),
                    ("-1e9", Fraction(-10 ** 9)),
                            ("+.3e1", Fraction(3)), ("1e-9", Fraction(1, 10 ** 9))]:
            for form in FORMS:
                self.assertEqual(span_text(form, text), outward(form, value, value), text)
        for text in ("0", "-0", "-0e5", "0.000", "+0e-1500"):
            self.assertEqual(span_text(TINY, text), (ZERO, ZERO))
        self.assertEqual(span_text(TINY, "1e1500"), ((0, 3, 2), INF))
        self.assertEqual(span_text(TINY, "-1e-1500"), (LOW, ZERO))

    def test_refusals(self):
        for text in ("inf", "+inf", "-inf", "nan"):
            assert_at(self, 0, span_text, TINY, text)
        for text, at in [("+in", 3), ("", 0), ("x", 0), ("1e", 2), ("1 ", 1), ("infx", 3), ("nano", 3), ("1e9999", 2), ("1e-1501",
                    3), ("+nan", 1),
                         ("1" * 701, 700), (None, 0), (True, 0), (1, 0), (["1"], 0)]:
            assert_at(self, at, span_text, TINY, text)
        assert_refused(self, BadFormat, span_text, None, None)


class TestRefusals(unittest.TestCase):
    CALLS = {"span_add": 2, "span_sub": 2, "span_mul": 2, "span_div": 2, "span_least": 2, "span_greatest": 2, "span_muladd": 3,
                "span_minus": 1,
             "span_size": 1, "span_square": 1, "span_convert": 1, "span_root": 1}

    def test_wrong_spans(self):
        for name, many in self.CALLS.items():
            call = getattr(spandeeds, name)
            assert_refused(self, BadFormat, call, None, *[None] * many)
            for wrong in NO_SPANS:
                for at in range(many):
                    spans = [LINE] * at + [wrong] + [None] * (many - at - 1)
                    assert_refused(self, BadSpan, call, TINY, *spans)

    def test_span_sum(self):
        assert_refused(self, BadFormat, span_sum, None, None)
        for wrong in [None, True, (), ((ONE, TWO),), (ONE, TWO), [None], [(ONE, TWO), None], [(ONE, TWO)] * 65, "spans", [[ONE, TWO]]]:
            assert_refused(self, BadSpan, span_sum, TINY, wrong)
        for wrong in NO_SPANS:
            assert_refused(self, BadSpan, span_sum, TINY, [(ONE, ONE), wrong])

    def test_lists_are_new(self):
        spans = [(ONE, TWO)]
        span_sum(TINY, spans)
        self.assertEqual(spans, [(ONE, TWO)])
        for call, args in [(span_div, ((ONE, TWO), (LOW, ONE))), (span_root, ((ONE, TWO),))]:
            first = call(TINY, *args)
            told = list(first)
            first.append(None)
            self.assertEqual(call(TINY, *args), told)
