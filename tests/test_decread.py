import re
import unittest
from fractions import Fraction

from everyrounding.decread import read, read_decimal
from everyrounding.errors import BadFormat, BadMode, BadText
from everyrounding.seats import next_down, next_up
from everyrounding.shortest import figures_of, reads_back
from tests.oracle import (INF, MINUS_INF, MINUS_ZERO, MODES, NAN, SMALL, TINY, ZERO, assert_at, assert_refused, exact_from,
                          finite_numbers, positives, slow_round, two, value_of)

SHAPE = re.compile(r"([+-]?)(?:([0-9]*)(\.?)([0-9]*))(?:e([+-]?[0-9]+))?")
WORDS = {"inf": INF, "+inf": INF, "-inf": MINUS_INF, "nan": NAN}
RIGHT = ["0", "-0", "+0", "7", "1.", ".5", "-.5", "+1.25", "1e5", "1e+05", "-12.50e-003", "0.e0", "00e-0", ".0e1", "120",
         "1e1500", "1e-1500", "0e01500", "-1.e+001500", "9" * 700, "0" * 699 + "1", "1e" + "0" * 697 + "7",
         "." + "3" * 699, "+" + "1" * 340 + "." + "2" * 350 + "e-1500"]


def has_shape(text):
    """True for a text of the shape of [19], whatever its power."""
    found = SHAPE.fullmatch(text)
    return text in WORDS or (found is not None and found.group(2) + found.group(4) != "")


def told_at(text):
    """The place that [4] and [19] demand, None for a decimal text."""
    if len(text) > 700:
        return 700
    if has_shape(text):
        if text in WORDS or "e" not in text or -1500 <= int(text[text.index("e") + 1:]) <= 1500:
            return None
        first = text.index("e") + 1
        return first + 1 if text[first] in "+-" else first
    ends = ("", "0", "inf", "nf", "f", "nan", "an", "n")
    return max(k for k in range(len(text) + 1) if any(has_shape(text[:k] + end) for end in ends))


def slow_value(text):
    """Sign and size of a decimal text with digits."""
    sign, head, _, tail, power = SHAPE.fullmatch(text).groups()
    size = Fraction(int(head + tail), 10 ** len(tail)) * Fraction(10) ** int(power or "0")
    return (1 if sign == "-" else 0, size)


def bent(text):
    """Texts that come from this one by one character left out, doubled, put in or replaced."""
    for at in range(len(text) + 1):
        yield text[:at] + text[at + 1:]
        yield text[:at] + text[at:at + 1] * 2 + text[at + 1:]
        for sign in "+-.e0159infa xEN_":
            yield text[:at] + sign + text[at:]
            yield text[:at] + sign + text[at + 1:]


def values_beside(form):
    """Sizes at all numbers and halves of a format, just beside them, at over and beyond."""
    sizes = [Fraction(0)] + positives(form) + [two(form[2] + form[0]), 3 * two(form[2] + form[0])]
    points = sizes + [(low + high) / 2 for low, high in zip(sizes, sizes[1:])]
    eps = Fraction(1, 10 ** 30)
    return sorted({point + step for point in points for step in (-eps, 0, eps) if point + step >= 0})


def as_decimal(size, s=0):
    """A size whose denominator divides a power of ten, written with a point."""
    places = 40
    digits = str(size * 10 ** places).rjust(places + 1, "0")
    return ("-" if s else "") + digits[:-places] + "." + digits[-places:]


class TestShape(unittest.TestCase):
    def check(self, text):
        at = told_at(text)
        if at is None:
            self.assertEqual(len(read_decimal(text)), 3)
            return
        assert_at(self, at, read_decimal, text)
        assert_at(self, at, read, TINY, text)
        assert_at(self, at, figures_of, text)
        assert_at(self, at, reads_back, TINY, text, ZERO)

    def test_right_texts(self):
        for text in RIGHT + list(WORDS):
            self.assertIsNone(told_at(text))
            self.check(text)

    def test_bent_texts(self):
        for text in list(WORDS) + [text for text in RIGHT if len(text) < 20]:
            for other in bent(text):
                self.check(other)

    def test_all_short_texts(self):
        signs = "+-.e0i"
        texts = [""]
        for _ in range(5):
            texts = [text + sign for text in texts for sign in signs]
            for text in texts:
                self.check(text)

    def test_places_that_the_document_names(self):
        for text, at in [("1e+0001501", 3), ("1e9999x", 6), (".", 1), ("1e", 2), ("+nan", 1), ("1E5", 1), ("1 ", 1), (" 1", 0),
                         ("", 0), ("+", 1), ("-.", 2), ("1.2.", 3), ("+in", 3), ("inf ", 3), ("infx", 3), ("-nan", 1), ("nana", 3),
                         ("i", 1), ("1e+", 3), ("1e5.", 3), ("e5", 0), (".e5", 1), ("1..", 2), ("--1", 1), ("1-", 1), ("x", 0)]:
            assert_at(self, at, read_decimal, text)

    def test_powers(self):
        for text, at in [("1e1501", 2), ("1e-1501", 3), ("0e1501", 2), ("-0.0e-01501", 6), ("0e+99999", 3), ("1e15000", 2),
                         ("1e1501x", 6), ("1e" + "9" * 698, 2), ("0e-" + "9" * 600, 3)]:
            assert_at(self, at, read_decimal, text)
            assert_at(self, at, read, SMALL, text)
        self.assertEqual(read_decimal("1e1500"), (0, 10 ** 1500, 1))
        self.assertEqual(read_decimal("-1e-1500"), (1, 1, 10 ** 1500))
        self.assertEqual(read_decimal("0e1500"), (0, 0, 1))
        self.assertEqual(read_decimal("0e-01500"), (0, 0, 1))

    def test_length(self):
        self.assertEqual(read_decimal("0" * 699 + "3"), (0, 3, 1))
        for text in ["1" * 701, "x" * 701, "0" * 700 + "e", "1e" + "9" * 699, "?" * 5000]:
            assert_at(self, 700, read_decimal, text)
            assert_at(self, 700, figures_of, text)
        assert_at(self, 699, read_decimal, "1" * 699 + "x")
        assert_at(self, 700, read_decimal, "1" * 699 + "e")

    def test_no_texts(self):
        for wrong in (None, True, False, 0, 15, ["1"], ("1",), [], ()):
            assert_at(self, 0, read_decimal, wrong)
            assert_at(self, 0, read, TINY, wrong)


class TestReadDecimal(unittest.TestCase):
    def test_words(self):
        for text, x in WORDS.items():
            self.assertEqual(read_decimal(text), x)

    def test_lowest_terms_and_sign(self):
        for text, told in [("0.50", (0, 1, 2)), ("-0.50e1", (1, 5, 1)), ("120", (0, 120, 1)), ("-0", (1, 0, 1)), ("+0.00e7", (0, 0, 1)),
                           ("-.0e-9", (1, 0, 1)), ("2.5e-1", (0, 1, 4)), ("0.75", (0, 3, 4)), ("1.", (0, 1, 1)), ("1e+05", (0, 100000, 1)),
                           (".5", (0, 1, 2)), ("-3e-2", (1, 3, 100))]:
            self.assertEqual(read_decimal(text), told)

    def test_against_fractions(self):
        for text in RIGHT:
            s, size = slow_value(text)
            self.assertEqual(read_decimal(text), (s, size.numerator, size.denominator))


class TestRead(unittest.TestCase):
    def test_all_modes_beside_all_steps(self):
        for form in (TINY, SMALL):
            for size in values_beside(form):
                for s in (0, 1):
                    text = as_decimal(size, s)
                    exact = exact_from(-size if s else size)
                    for mode in MODES:
                        self.assertEqual(read(form, text, mode=mode), slow_round(form, exact, mode, s), (form, text, mode))

    def test_zeros_keep_their_sign_in_every_mode(self):
        for mode in MODES:
            for text, x in [("0", ZERO), ("-0", MINUS_ZERO), ("-0.00e-1500", MINUS_ZERO), ("+.0e1500", ZERO)]:
                self.assertEqual(read(TINY, text, mode=mode), (x, ()))

    def test_specials_have_no_flags(self):
        for mode in MODES:
            for text, x in WORDS.items():
                self.assertEqual(read(TINY, text, mode=mode), (x, ()))

    def test_default_mode(self):
        self.assertEqual(read(TINY, "2.5"), ((0, 1, 1), ("inexact",)))
        self.assertEqual(read(TINY, "3.5"), ((0, 1, 2), ("inexact",)))

    def test_great_and_small_texts(self):
        form = (140, -600, 600)
        self.assertEqual(read(form, "1e1500"), (INF, ("overflow", "inexact")))
        self.assertEqual(read(form, "-1e1500", mode="zero"), ((1, (1 << 140) - 1, 600), ("overflow", "inexact")))
        self.assertEqual(read(form, "1e-1500"), (ZERO, ("underflow", "inexact")))
        self.assertEqual(read(form, "1e-1500", mode="odd"), ((0, 1, -600), ("underflow", "inexact")))
        for x in [(0, (1 << 140) - 1, 600), (0, 1, -600), (1, 3, -599)]:
            value = value_of(x)
            for mode in MODES:
                self.assertEqual(read(form, self.exact_digits(value), mode=mode), (x, ()))

    def exact_digits(self, value):
        """The value with all its digits, or as a quotient of ten's power that a text can hold."""
        q = 0
        size = abs(value)
        while size.denominator > 1:
            size, q = size * 10, q - 1
        return ("-" if value < 0 else "") + f"{size.numerator}e{q}"

    def test_neighbours_of_a_great_number(self):
        form = (53, -600, 600)
        x = (0, 6004799503160661, -54)
        for mode, told in [("even", x), ("up", next_up(form, x)), ("down", x), ("odd", x), ("zero", x), ("away", x)]:
            self.assertEqual(read(form, "0.333333333333333333", mode=mode), (told, ("inexact",)), mode)
        self.assertEqual(read(form, "0.3333333333333333", mode="down")[0], next_down(form, x))

    def test_wrong_arguments(self):
        assert_refused(self, BadFormat, read, (1, 0, 0), "x", mode="x")
        assert_refused(self, BadText, read, TINY, "1e1501", mode="x")
        assert_refused(self, BadMode, read, TINY, "1", mode="x")
        assert_refused(self, BadMode, read, TINY, "inf", mode=None)
        for x in finite_numbers(TINY):
            assert_refused(self, BadText, read, TINY, x)
