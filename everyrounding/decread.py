"""Decimal texts [19]: their shape and their exact values, and reading them into a format."""

from everyrounding.checks import check_text, common_length, digits_end
from everyrounding.errors import BadText
from everyrounding.formats import check_format
from everyrounding.places import lowest
from everyrounding.rounding import check_mode, round_exact

POWER_LIMIT = 1500

# The decimal texts without digits.
DECIMAL_WORDS = {"inf": (0, -1, 0), "+inf": (0, -1, 0), "-inf": (1, -1, 0), "nan": (0, -2, 0)}


def ten_to(k):
    """10^k, for k at least zero."""
    result = 1
    base = 10
    while k > 0:
        if k % 2 == 1:
            result = result * base
        base = base * base
        k = k // 2
    return result


def sign_end(text, at):
    """The place behind the sign that may stand at this place of the text."""
    sign = text[at:at + 1]
    return at + 1 if sign == "+" or sign == "-" else at


def figures_end(text, at):
    """How far the text from `at` on begins digits with at most one point, and whether a digit is among them."""
    middle = digits_end(text, at)
    if text[middle:middle + 1] != ".":
        return (middle, middle > at)
    end = digits_end(text, middle + 1)
    return (end, end > at + 1)


def decimal_shape(text):
    """How far the text begins a decimal text with digits; if it is a whole one, also the end of its digits with
    their point, and the place of the power's first digit (None without a power); otherwise None for both."""
    middle, full = figures_end(text, sign_end(text, 0))
    if full and middle == len(text):
        return (middle, middle, None)
    if not full or text[middle] != "e":
        return (middle, None, None)
    first = sign_end(text, middle + 1)
    end = digits_end(text, first)
    if end == first or end < len(text):
        return (end, None, None)
    return (end, middle, first)


def decimal_parts(text):
    """The sign, the digits and the power of ten of a decimal text, None for a word; refuse every other text."""
    check_text(text)
    if text in DECIMAL_WORDS:
        return None
    end, middle, first = decimal_shape(text)
    if middle is None:
        begun = [common_length(text, word) for word in DECIMAL_WORDS]
        raise BadText(max(end, max(begun)))
    power = 0 if first is None else int(text[middle + 1:])
    if power < -POWER_LIMIT or power > POWER_LIMIT:
        raise BadText(first)
    head, _, tail = text[sign_end(text, 0):middle].partition(".")
    return (1 if text[0] == "-" else 0, head + tail, power - len(tail))


def decimal_value(text):
    """What read_decimal gives."""
    parts = decimal_parts(text)
    if parts is None:
        return DECIMAL_WORDS[text]
    s, figures, power = parts
    n, d, _ = lowest(int(figures) * ten_to(max(power, 0)), ten_to(max(-power, 0)), 1)
    return (s, n, d)


def read_value(form, value, mode):
    """The answer for what read_decimal gives, rounded into the format."""
    s, n, d = value
    if n < 0:
        return (value, ())
    return round_exact(form, (-n if s == 1 else n, d, 1), mode, s)


def read_decimal(text):
    """Sign, numerator and denominator of a decimal text, or the number for one of the words."""
    return decimal_value(text)


def read(form, text, *, mode="even"):
    """The answer for the value of a decimal text rounded into the format."""
    check_format(form)
    value = decimal_value(text)
    check_mode(mode)
    return read_value(form, value, mode)
