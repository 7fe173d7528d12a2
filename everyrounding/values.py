"""Numbers [6]: the tuples (s, m, q), independent of any format."""

from everyrounding.checks import are_integers, check_text, common_length, digits_end
from everyrounding.errors import BadNumber, BadText
from everyrounding.formats import check_format

NAN = (0, -2, 0)

# The texts of the numbers that have no power.
WORDS = {"0": (0, 0, 0), "-0": (1, 0, 0), "inf": (0, -1, 0), "-inf": (1, -1, 0), "nan": (0, -2, 0)}


def in_bounds(m, q):
    """True if the odd m and the power q keep the bounds of a finite number."""
    return m.bit_length() <= 600 and -2000 <= q <= 2000


def is_number(value):
    """True for a number."""
    if not are_integers(value, 3):
        return False
    s, m, q = value
    if s != 0 and s != 1:
        return False
    if m > 0:
        return m & 1 == 1 and in_bounds(m, q)
    return q == 0 and (m >= -1 or value == NAN)


def check_number(x):
    """Refuse what is no number."""
    if not is_number(x):
        raise BadNumber()


def is_finite(x):
    """True for a finite number, which is never zero."""
    return x[1] > 0


def is_zero(x):
    """True for a zero of either sign."""
    return x[1] == 0


def is_infinite(x):
    """True for an infinity of either sign."""
    return x[1] == -1


def is_nan(x):
    """True for NaN."""
    return x[1] == -2


def check_valued(x):
    """Refuse what is neither a zero nor a finite number."""
    check_number(x)
    if x[1] < 0:
        raise BadNumber()


def check_finite(x):
    """Refuse what is no finite number."""
    check_number(x)
    if x[1] < 1:
        raise BadNumber()


def check_numbers(xs, most):
    """Refuse what is no list of at most so many numbers."""
    if type(xs) is not list or len(xs) > most:
        raise BadNumber()
    for x in xs:
        check_number(x)


def odd_parts(m, q):
    """The odd integer and the power with the value m * 2^q, for m other than zero; m keeps its sign."""
    shift = (m & -m).bit_length() - 1
    return (m >> shift, q + shift)


def signed(s, m, q):
    """The number of sign s and size m * 2^q, m at least zero; its bounds are not looked at."""
    if m == 0:
        return (s, 0, 0)
    odd, power = odd_parts(m, q)
    return (s, odd, power)


def signed_part(x):
    """The m of a zero or finite number with the number's sign."""
    return -x[1] if x[0] == 1 else x[1]


def dyadic(m, q):
    """The exact number m * 2^q in lowest terms, for m of either sign or zero."""
    if m == 0:
        return (0, 1, 1)
    odd, power = odd_parts(m, q)
    if power >= 0:
        return (odd << power, 1, 1)
    return (odd, 1 << -power, 1)


def compare_integers(a, b):
    """-1, 0 or 1 as a is less than, equal to or greater than b."""
    if a == b:
        return 0
    return -1 if a < b else 1


def compare_sizes(m, q, m2, q2):
    """-1, 0 or 1 as m * 2^q is less than, equal to or greater than m2 * 2^q2, both at least zero."""
    if m == 0 or m2 == 0:
        return compare_integers(m, m2)
    power = m.bit_length() + q
    power2 = m2.bit_length() + q2
    if power != power2:
        return compare_integers(power, power2)
    unit = min(q, q2)
    return compare_integers(m << (q - unit), m2 << (q2 - unit))


def holds_value(form, m, q):
    """True if m * 2^q with an odd m is a number of the format, or minus one."""
    p, lo, hi = form
    m = abs(m)
    return q >= lo and m.bit_length() + max(q - hi, 0) <= p


def opposite(x):
    """The number with the other sign; NaN for NaN."""
    if is_nan(x):
        return x
    return (1 - x[0], x[1], x[2])


def are_alike(x, y):
    """True if two numbers are equal or both zeros."""
    return x == y or (is_zero(x) and is_zero(y))


def exact_value(x):
    """The exact number of a zero or finite number."""
    return dyadic(signed_part(x), x[2])


def holds_or_zero(form, m, q):
    """True if m * 2^q, m of either sign, is zero or a number of the format, or minus one."""
    if m == 0:
        return True
    odd, power = odd_parts(m, q)
    return holds_value(form, odd, power)


def fits_form(form, x):
    """True if the number is one of the format."""
    return not is_finite(x) or holds_value(form, x[1], x[2])


def check_fits(form, x):
    """Refuse what is no number or does not fit the format."""
    check_number(x)
    if not fits_form(form, x):
        raise BadNumber()


def number(s, m, q):
    """The number (-1)^s * m * 2^q; m may be even or zero."""
    if not are_integers((s, m, q), 3):
        raise BadNumber()
    if m < 0 or s < 0 or s > 1:
        raise BadNumber()
    x = signed(s, m, q)
    check_number(x)
    return x


def zero(s=0):
    """The zero of sign s."""
    return number(s, 0, 0)


def infinity(s=0):
    """The infinity of sign s."""
    sign = zero(s)[0]
    return (sign, -1, 0)


def nan():
    """NaN."""
    return NAN


def kind_of(x):
    """What the number is: zero, finite, infinite or nan."""
    check_number(x)
    if is_finite(x):
        return "finite"
    if is_zero(x):
        return "zero"
    return "infinite" if is_infinite(x) else "nan"


def minus(x):
    """The number with the other sign; NaN for NaN."""
    check_number(x)
    return opposite(x)


def size(x):
    """The number with sign 0."""
    check_number(x)
    return (0, x[1], x[2])


def alike(x, y):
    """True if the two are equal or both zeros."""
    check_number(x)
    check_number(y)
    return are_alike(x, y)


def exact_of(x):
    """The exact number of a zero or finite number."""
    check_valued(x)
    return exact_value(x)


def fits(form, x):
    """True if the number is one of the format."""
    check_format(form)
    check_number(x)
    return fits_form(form, x)


def digits(x):
    """How many binary digits a finite number has."""
    check_finite(x)
    return x[1].bit_length()


def top_power(x):
    """The power of the first digit of a finite number."""
    check_finite(x)
    return x[1].bit_length() + x[2] - 1


def show(x):
    """The number as a text such as -13p-4, or one of the words."""
    check_number(x)
    s, m, q = x
    if m > 0:
        sign = "-" if s == 1 else ""
        return f"{sign}{m}p{q}"
    texts = [word for word in WORDS if WORDS[word] == x]
    return texts[0]


def number_shape(text):
    """How far the text begins a number with a power, and the place of the p, or None if the text is no whole one."""
    start = 1 if text[:1] == "-" else 0
    middle = digits_end(text, start)
    if middle == start or text[middle:middle + 1] != "p":
        return (middle, None)
    second = middle + 2 if text[middle + 1:middle + 2] == "-" else middle + 1
    end = digits_end(text, second)
    if end == second or end < len(text):
        return (end, None)
    return (end, middle)


def read_number(text):
    """The number that the text shows; its m may be even and have leading zeros."""
    check_text(text)
    if text in WORDS:
        return WORDS[text]
    end, middle = number_shape(text)
    if middle is None:
        begun = [common_length(text, word) for word in WORDS]
        raise BadText(max(end, max(begun)))
    digit_part = text[:middle]
    if digit_part[0] == "-":
        return number(1, int(digit_part[1:]), int(text[middle + 1:]))
    return number(0, int(digit_part), int(text[middle + 1:]))
