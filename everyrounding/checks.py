"""Checks of plain arguments and of the shapes of texts, for all modules."""

from everyrounding.errors import BadCount, BadText

TEXT_LIMIT = 700
COUNT_BITS = 9000


def is_integer(value):
    """True for an integer; True and False are none."""
    return type(value) is int


def are_integers(value, many):
    """True for a tuple of so many integers."""
    return type(value) is tuple and len(value) == many and all([is_integer(part) for part in value])


def check_count(value, low, high):
    """Refuse what is no integer low..high; a bound of None is no bound."""
    if not is_integer(value):
        raise BadCount()
    if low is not None and value < low:
        raise BadCount()
    if high is not None and value > high:
        raise BadCount()


def check_any_count(value):
    """Refuse what is no integer of size below 2^9000."""
    if not is_integer(value) or value.bit_length() > COUNT_BITS:
        raise BadCount()


def check_text(text):
    """Refuse what is no text or a text that is too long, whatever its shape."""
    if type(text) is not str:
        raise BadText(0)
    if len(text) > TEXT_LIMIT:
        raise BadText(TEXT_LIMIT)


def is_digit(sign):
    """True for a text that is one decimal digit."""
    return len(sign) == 1 and "0" <= sign <= "9"


def digits_end(text, at):
    """The place behind the digits that stand in the text from `at` on."""
    while is_digit(text[at:at + 1]):
        at += 1
    return at


def integer_end(text, at):
    """How far the text from `at` on begins an integer without leading zeros, and whether this is a whole one."""
    if text[at:at + 1] == "0":
        return (at + 1, True)
    first = at + 1 if text[at:at + 1] == "-" else at
    if text[first:first + 1] == "0":
        return (first, False)
    end = digits_end(text, first)
    return (end, end > first)


def common_length(text, word):
    """The number of characters with which both texts begin."""
    at = 0
    while at < len(text) and at < len(word) and text[at] == word[at]:
        at += 1
    return at
