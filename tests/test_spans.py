import unittest
from fractions import Fraction

from everyrounding.errors import BadExact, BadFormat, BadNumber, BadSpan
from everyrounding.seats import at_seat, seat
from everyrounding.spans import check_span, halves, holds_exact, holds_span, hull, meet, point_span, span_of, whole_line, width
from everyrounding.values import fits
from tests.oracle import INF, MINUS_INF, MINUS_ZERO, NAN, SMALL, TINY, ZERO, all_numbers, assert_refused, exact_from, finite_numbers
from tests.oracle import slow_round, value_of

ONE, TWO, LOW = (0, 1, 0), (0, 1, 1), (1, 1, 0)
LINE = (MINUS_INF, INF)
NO_SPANS = [None, True, 0, "span", (), (ONE,), [ONE, TWO], (ONE, ONE, TWO), (TWO, ONE), (ONE, None), (None, ONE), ((0, 2, 0), (0, 2, 0)),
            (MINUS_ZERO, ONE), (LOW, MINUS_ZERO), (MINUS_ZERO, MINUS_ZERO), (ZERO, MINUS_ZERO), (NAN, NAN), (ONE, NAN), (NAN, ONE),
            (INF, INF), (MINUS_INF, MINUS_INF), (INF, MINUS_INF), (INF, ONE), (ONE, MINUS_INF), (ONE, LOW), (TWO, ZERO),
            ((False, 1, 0), ONE), (ONE, (0, True, 0)), (ONE, (0, 1, False)), ((False, 0, 0), ZERO), (ZERO, (0, 0, False)), ([0, 1, 0], TWO),
            ((1, -1, False), ONE), (ONE, (0, -1, False)), ((0, 1, 2001), INF), (1, 2), ("1", "2")]


def all_spans(form):
    """All spans of a small format."""
    ends = [MINUS_INF] + [x for x in finite_numbers(form) if x != MINUS_ZERO] + [INF]
    return [(low, high) for at, low in enumerate(ends) for high in ends[at:] if low != INF and high != MINUS_INF]


SPANS = all_spans(TINY)
LEAST_SPANS = all_spans((2, 0, 0))


def bound(x, infinite=10 ** 9):
    """The value of an end, an infinity as a value far off."""
    return (-1 if x[0] else 1) * infinite if x[1] < 0 else value_of(x)


class TestShape(unittest.TestCase):
    def test_check_span(self):
        for span in SPANS + [(ZERO, ZERO), LINE, ((0, 1, -2000), (0, 1, 2000)), (ONE, ONE), (LOW, ZERO), (ZERO, INF)]:
            self.assertIsNone(check_span(span))
        for wrong in NO_SPANS:
            assert_refused(self, BadSpan, check_span, wrong)

    def test_span_of(self):
        for form in (TINY, (2, -1, 0)):
            numbers = all_numbers(form)
            for x in numbers:
                for y in numbers:
                    low, high = ZERO if x == MINUS_ZERO else x, ZERO if y == MINUS_ZERO else y
                    right = NAN not in (x, y) and x != INF and y != MINUS_INF and bound(x) <= bound(y)
                    if right:
                        self.assertEqual(span_of(form, x, y), (low, high))
                    else:
                        assert_refused(self, BadSpan, span_of, form, x, y)
        for wrong in [(0, 5, 0), (0, 1, 4), (0, 1, -1), None, True, (0, 2, 0)]:
            assert_refused(self, BadNumber, span_of, TINY, wrong, None)
            assert_refused(self, BadNumber, span_of, TINY, ONE, wrong)
            assert_refused(self, BadNumber, span_of, TINY, NAN, wrong)
        assert_refused(self, BadFormat, span_of, None, None, None)

    def test_point_span(self):
        for x in finite_numbers(SMALL):
            end = ZERO if x == MINUS_ZERO else x
            self.assertEqual(point_span(SMALL, x), (end, end))
        for wrong in [INF, MINUS_INF, NAN, (0, 9, 0), (0, 1, 9), None, True]:
            assert_refused(self, BadNumber, point_span, SMALL, wrong)
        assert_refused(self, BadFormat, point_span, None, None)

    def test_whole_line(self):
        self.assertEqual(whole_line(), LINE)
        self.assertIsNone(check_span(whole_line()))


class TestHolding(unittest.TestCase):
    def test_fractions(self):
        values = [Fraction(k, 4) for k in range(-70, 71)]
        for span in SPANS[::3]:
            low, high = bound(span[0]), bound(span[1])
            for value in values:
                self.assertIs(holds_exact(span, exact_from(value)), low <= value <= high, (span, value))
        self.assertIs(holds_exact((ONE, TWO), (3, 2, 1)), True)
        self.assertIs(holds_exact((ONE, TWO), (300, 150, 1)), True)
        self.assertIs(holds_exact((ONE, TWO), (301, 150, 1)), False)
        self.assertIs(holds_exact((ONE, TWO), (-3, 2, 1)), False)

    def test_roots(self):
        for span in SPANS[::3]:
            low, high = bound(span[0]), bound(span[1])
            for square in range(0, 40):
                inside = (low <= 0 or low * low <= Fraction(square, 3)) and high >= 0 and Fraction(square, 3) <= high * high
                self.assertIs(holds_exact(span, (square, 3, 2)), inside, (span, square))
        self.assertIs(holds_exact((ONE, TWO), (4, 1, 2)), True)
        self.assertIs(holds_exact((ONE, TWO), (1, 1, 2)), True)
        self.assertIs(holds_exact((ONE, TWO), ((4 << 3000) + 1, 1 << 3000, 2)), False)
        self.assertIs(holds_exact((LOW, ZERO), (0, 1, 2)), True)

    def test_infinite_ends(self):
        huge = (1 << 11999, 1, 1)
        for span, value, told in [(LINE, huge, True), (LINE, (-1, 1 << 11999, 1), True), ((ONE, INF), huge, True), ((MINUS_INF,
                    ONE), huge, False),
                                  ((MINUS_INF, ONE), (-(1 << 11999), 1, 1), True), (LINE, (1 << 11999, 1, 2), True)]:
            self.assertIs(holds_exact(span, value), told)

    def test_spans_in_spans(self):
        for span in LEAST_SPANS:
            for span2 in LEAST_SPANS:
                inside = bound(span[0]) <= bound(span2[0]) and bound(span2[1]) <= bound(span[1])
                self.assertIs(holds_span(span, span2), inside)
                ends = (min(span[0], span2[0], key=bound), max(span[1], span2[1], key=bound))
                self.assertEqual(hull(span, span2), ends)
                self.assertEqual(hull(span2, span), ends)
                low, high = max(span[0], span2[0], key=bound), min(span[1], span2[1], key=bound)
                common = (low, high) if bound(low) <= bound(high) else None
                self.assertEqual(meet(span, span2), common)
                self.assertEqual(meet(span2, span), common)
        self.assertEqual(meet((LOW, ONE), (ONE, TWO)), (ONE, ONE))
        self.assertEqual(hull((LOW, LOW), (TWO, TWO)), (LOW, TWO))

    def test_wrong_arguments(self):
        for wrong in NO_SPANS:
            for call in (holds_span, hull, meet):
                assert_refused(self, BadSpan, call, wrong, None)
                assert_refused(self, BadSpan, call, LINE, wrong)
            assert_refused(self, BadSpan, holds_exact, wrong, None)
            assert_refused(self, BadSpan, width, TINY, wrong)
            assert_refused(self, BadSpan, halves, TINY, wrong)
        for wrong in (None, True, (1, 0, 1), (-1, 1, 2), ONE[:2], [1, 1, 1], (1, 1, True)):
            assert_refused(self, BadExact, holds_exact, LINE, wrong)


class TestWidth(unittest.TestCase):
    def test_against_rounding_up(self):
        for span in SPANS:
            for form in (TINY, (3, -1, 0), (4, 2, 3), (2, -3, -3)):
                if MINUS_INF in span or INF in span:
                    told = INF
                elif span[0] == span[1]:
                    told = ZERO
                else:
                    told = slow_round(form, exact_from(value_of(span[1]) - value_of(span[0])), "up")[0]
                self.assertEqual(width(form, span), told, (form, span))
        self.assertEqual(width((2, 0, 600), ((1, 1, 2000), (1, 1, 2000))), ZERO)
        self.assertEqual(width((2, 0, 600), (ZERO, (0, 1, -2000))), ONE)
        self.assertEqual(width((2, 0, 600), ((1, 1, -2000), (0, 1, 2000))), INF)
        assert_refused(self, BadFormat, width, None, None)


class TestHalves(unittest.TestCase):
    def test_all_spans(self):
        for form in (TINY, (2, 0, 0), (3, -2, -1)):
            for span in all_spans(form):
                middle = at_seat(form, (seat(form, span[0]) + seat(form, span[1])) // 2)
                if middle == MINUS_ZERO:
                    middle = ZERO
                if middle == MINUS_INF:
                    middle = all_numbers(form)[1]
                told = halves(form, span)
                self.assertEqual(told, [(span[0], middle), (middle, span[1])])
                self.assertIs(type(told), list)
                for half in told:
                    self.assertIsNone(check_span(half))

    def test_told(self):
        self.assertEqual(halves(TINY, LINE), [(MINUS_INF, ZERO), (ZERO, INF)])
        top = (0, 3, 2)
        self.assertEqual(halves(TINY, (MINUS_INF, (1, 3, 2))), [(MINUS_INF, (1, 3, 2)), ((1, 3, 2), (1, 3, 2))])
        self.assertEqual(halves(TINY, (top, INF)), [(top, top), (top, INF)])
        self.assertEqual(halves(TINY, (ONE, ONE)), [(ONE, ONE), (ONE, ONE)])
        self.assertEqual(halves(TINY, (LOW, ZERO)), [(LOW, ZERO), (ZERO, ZERO)])
        self.assertEqual(halves(TINY, (LOW, ONE)), [(LOW, ZERO), (ZERO, ONE)])

    def test_no_span_of_the_format(self):
        for span in [((0, 5, 0), (0, 3, 2)), (ONE, (0, 1, 4)), ((1, 1, -1), ONE), ((1, 1, -1), (0, 1, -1))]:
            self.assertFalse(fits(TINY, span[0]) and fits(TINY, span[1]))
            assert_refused(self, BadSpan, halves, TINY, span)
        assert_refused(self, BadFormat, halves, None, None)
