"""Long sums [21]: exact totals of many numbers and products, rounded once."""

from everyrounding.errors import NotAsked, TooMany
from everyrounding.formats import check_format
from everyrounding.rounding import check_mode, round_exact
from everyrounding.sums import INVALID, zero_sign
from everyrounding.values import NAN, check_number, check_numbers, dyadic, is_infinite, is_nan, is_zero
from everyrounding.values import opposite, signed_part

MOST_PARTS = 100000
MOST_NUMBERS = 200

# No part and no product of two parts has a digit below 2^-4000.
LOW_POWER = 4000

# The specials of a sum: a NaN, a product of a zero and an infinity, a plus infinity, a minus infinity.
NO_SPECIALS = (False, False, False, False)
ONE_NAN = (True, False, False, False)
ONE_INVALID = (False, True, False, False)
ONE_PLUS = (False, False, True, False)
ONE_MINUS = (False, False, False, True)


def both_specials(specials, more):
    """The specials that are in one of the two or in both."""
    return tuple([one or other for one, other in zip(specials, more)])


def infinite_special(s):
    """The specials of an infinity of sign s."""
    return ONE_MINUS if s == 1 else ONE_PLUS


def part_special(x):
    """The specials of one number."""
    if is_nan(x):
        return ONE_NAN
    return infinite_special(x[0]) if is_infinite(x) else NO_SPECIALS


def product_special(x, y):
    """The specials of a product."""
    if is_nan(x) or is_nan(y):
        return ONE_NAN
    if not is_infinite(x) and not is_infinite(y):
        return NO_SPECIALS
    return ONE_INVALID if is_zero(x) or is_zero(y) else infinite_special(x[0] ^ y[0])


def check_many(many):
    """Refuse more parts than a sum may have."""
    if many > MOST_PARTS:
        raise TooMany(MOST_PARTS)


def total_answer(form, units, specials, mode):
    """The answer of a sum with this total, in units of its least digit, and these specials."""
    lost, invalid, plus, below = specials
    if lost:
        return (NAN, ())
    if invalid or (plus and below):
        return INVALID
    if plus or below:
        return ((1 if below else 0, -1, 0), ())
    return round_exact(form, dyadic(units, -LOW_POWER), mode, zero_sign(0, 0, False, mode))


class LongSum:
    """The exact sum of the parts that were put in."""

    def __init__(self):
        self._units = 0
        self._specials = NO_SPECIALS
        self._many = 0

    def _put_part(self, m, q, specials):
        """Put in the part m * 2^q, or the specials that stand for it."""
        check_many(self._many + 1)
        self._many += 1
        if specials == NO_SPECIALS:
            self._units += m << (q + LOW_POWER)
        else:
            self._specials = both_specials(self._specials, specials)

    def put(self, x):
        """Put in a number."""
        check_number(x)
        self._put_part(signed_part(x), x[2], part_special(x))

    def put_product(self, x, y):
        """Put in the exact product of two numbers."""
        check_number(x)
        check_number(y)
        self._put_part(signed_part(x) * signed_part(y), x[2] + y[2], product_special(x, y))

    def take(self, x):
        """Put in the number with the other sign."""
        check_number(x)
        self.put(opposite(x))

    def merge(self, other_sum):
        """Put in all parts of another long sum, or of this one once more."""
        check_many(self._many + other_sum._many)
        self._many += other_sum._many
        self._units += other_sum._units
        self._specials = both_specials(self._specials, other_sum._specials)

    def value(self):
        """The exact total, None if there was a special."""
        if self._specials != NO_SPECIALS:
            return None
        return dyadic(self._units, -LOW_POWER)

    def answer(self, form, *, mode="even"):
        """The answer for the total rounded once."""
        check_format(form)
        check_mode(mode)
        return total_answer(form, self._units, self._specials, mode)

    def twin(self):
        """A new long sum with the same parts."""
        other = LongSum()
        other._units = self._units
        other._specials = self._specials
        other._many = self._many
        return other

    def __add__(self, other):
        if not isinstance(other, LongSum):
            return NotImplemented
        many = self._many + other._many
        check_many(many)
        both = LongSum()
        both._units = self._units + other._units
        both._specials = both_specials(self._specials, other._specials)
        both._many = many
        return both

    def __neg__(self):
        lost, invalid, plus, below = self._specials
        other = LongSum()
        other._units = -self._units
        other._specials = (lost, invalid, below, plus)
        other._many = self._many
        return other

    @property
    def many(self):
        """How many parts were put in."""
        return self._many


def sum_of(form, xs, *, mode="even"):
    """The answer for the exact sum of the numbers of a list, rounded once."""
    check_format(form)
    check_numbers(xs, MOST_NUMBERS)
    check_mode(mode)
    total = LongSum()
    for x in xs:
        total.put(x)
    return total.answer(form, mode=mode)


def dot(form, xs, ys, *, mode="even"):
    """The answer for the exact sum of the products of two lists, rounded once."""
    check_format(form)
    check_numbers(xs, MOST_NUMBERS)
    check_numbers(ys, MOST_NUMBERS)
    check_mode(mode)
    if len(xs) != len(ys):
        raise NotAsked()
    total = LongSum()
    for x, y in zip(xs, ys):
        total.put_product(x, y)
    return total.answer(form, mode=mode)
