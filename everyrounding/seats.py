"""Ranks and seats [7], [8]: the order of a format's numbers, their codes and neighbours, and short grids of them."""

from everyrounding.checks import check_count, check_text
from everyrounding.errors import BadCount, BadNumber, BadText, TooMany
from everyrounding.formats import check_format, count_of, unit_at
from everyrounding.values import NAN, check_fits, check_number, fits_form, is_infinite, is_nan
from everyrounding.values import is_number, is_zero, opposite, signed

GRID_LIMIT = 4096


def rank_of_units(form, count, unit):
    """The rank of count * 2^unit, a size of the format written with the unit of its power."""
    p, lo, _ = form
    return ((unit - lo) << (p - 1)) + count


def units_of_rank(form, i):
    """The integer m and the unit's power q with v_i = m * 2^q, for a rank up to that of over."""
    p, lo, _ = form
    half = 1 << (p - 1)
    if i < half:
        return (i, lo)
    return (half + i % half, lo + i // half - 1)


def ranks_below(form, m, q):
    """The rank of the greatest size of the format, zero included, that is at most m * 2^q, for m above zero."""
    power = m.bit_length() + q - 1
    if power >= form[2] + form[0]:
        return count_of(form)
    unit = unit_at(form, power)
    count = m << (q - unit) if q >= unit else m >> (unit - q)
    return rank_of_units(form, count, unit)


def check_ordered(form, x):
    """Refuse what is no number of the format, and NaN."""
    check_fits(form, x)
    if is_nan(x):
        raise BadNumber()


def rank_of(form, x):
    """The rank of the size of a number of the format other than NaN."""
    if is_zero(x):
        return 0
    if is_infinite(x):
        return count_of(form) + 1
    return ranks_below(form, x[1], x[2])


def seat_of(form, x):
    """The seat of a number of the format."""
    if is_nan(x):
        return count_of(form) + 2
    i = rank_of(form, x)
    return i if x[0] == 0 else -1 - i


def number_of_rank(form, i):
    """The number of rank i and sign 0; the rank of over gives infinity."""
    if i == count_of(form) + 1:
        return (0, -1, 0)
    m, q = units_of_rank(form, i)
    return signed(0, m, q)


def number_of_seat(form, k):
    """The number of seat k."""
    if k == count_of(form) + 2:
        return NAN
    if k >= 0:
        return number_of_rank(form, k)
    return opposite(number_of_rank(form, -1 - k))


def rank(form, x):
    """The rank of the size of x."""
    check_format(form)
    check_ordered(form, x)
    return rank_of(form, x)


def at_rank(form, i):
    """The number of rank i with sign 0."""
    check_format(form)
    check_count(i, 0, count_of(form) + 1)
    return number_of_rank(form, i)


def seat(form, x):
    """The seat of x."""
    check_format(form)
    check_fits(form, x)
    return seat_of(form, x)


def at_seat(form, k):
    """The number of seat k."""
    check_format(form)
    last = count_of(form) + 2
    check_count(k, -last, last)
    return number_of_seat(form, k)


def code_length(form):
    """How many binary digits the codes of a format have."""
    p, lo, hi = form
    return (hi - lo + 2).bit_length() + p


def bits(form, x):
    """The code of x: its sign, and its rank in binary; NaN has the rank behind that of infinity."""
    check_format(form)
    check_fits(form, x)
    i = count_of(form) + 2 if is_nan(x) else rank_of(form, x)
    code = f"{i:b}"
    return str(x[0]) + code.zfill(code_length(form) - 1)


def check_code_shape(form, text):
    """Refuse what is no text of as many binary digits as the codes of the format have."""
    check_text(text)
    for at, sign in enumerate(text):
        if sign != "0" and sign != "1":
            raise BadText(at)
    length = code_length(form)
    if len(text) != length:
        raise BadText(min(len(text), length))


def from_bits(form, text):
    """The number with this code."""
    check_format(form)
    check_code_shape(form, text)
    i = int(text[1:], 2)
    last = count_of(form) + 2
    if i > last or (i == last and text[0] == "1"):
        raise BadText(0)
    if i == last:
        return NAN
    x = number_of_rank(form, i)
    return x if text[0] == "0" else opposite(x)


def above_size(form, m, q):
    """The rank of the least size of the format that is greater than m * 2^q."""
    return ranks_below(form, m, q) + 1


def below_size(form, m, q):
    """The rank of the greatest size of the format, zero included, that is less than m * 2^q."""
    i = ranks_below(form, m, q)
    return i - 1 if number_of_rank(form, i) == (0, m, q) else i


def number_above(form, x):
    """The first number of the format above x, which is not NaN; both zeros are one place."""
    if is_zero(x):
        return number_of_rank(form, 1)
    if is_infinite(x):
        return x if x[0] == 0 else opposite(number_of_rank(form, count_of(form)))
    if x[0] == 0:
        return number_of_rank(form, above_size(form, x[1], x[2]))
    return opposite(number_of_rank(form, below_size(form, x[1], x[2])))


def check_neighboured(x):
    """Refuse what is no number, and NaN."""
    check_number(x)
    if is_nan(x):
        raise BadNumber()


def next_up(form, x):
    """The first number of the format above x."""
    check_format(form)
    check_neighboured(x)
    return number_above(form, x)


def next_down(form, x):
    """The first number of the format below x."""
    check_format(form)
    check_neighboured(x)
    return opposite(number_above(form, opposite(x)))


def between(form, x, y):
    """How many seats lie strictly between those of x and y."""
    check_format(form)
    check_ordered(form, x)
    check_ordered(form, y)
    return max(seat_of(form, y) - seat_of(form, x) - 1, 0)


class Grid:
    """The numbers of a range of seats of a format, in their order."""

    def __init__(self, form, *, low_seat=None, high_seat=None):
        check_format(form)
        last = count_of(form) + 1
        low = -last if low_seat is None else low_seat
        check_count(low, -last - 1, last)
        high = last - 1 if high_seat is None else high_seat
        check_count(high, -last - 1, last)
        if low > high:
            raise BadCount()
        if high - low >= GRID_LIMIT:
            raise TooMany(GRID_LIMIT)
        self._form = form
        self._low = low
        self._high = high
        self._numbers = [number_of_seat(form, k) for k in range(low, high + 1)]

    def __iter__(self):
        return iter(self._numbers)

    def __len__(self):
        return len(self._numbers)

    def __contains__(self, x):
        if not is_number(x) or not fits_form(self._form, x):
            return False
        return self._low <= seat_of(self._form, x) <= self._high

    @property
    def form(self):
        """The format."""
        return self._form

    @property
    def low_seat(self):
        """The seat of the first number."""
        return self._low

    @property
    def high_seat(self):
        """The seat of the last number."""
        return self._high
