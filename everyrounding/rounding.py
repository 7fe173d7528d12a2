"""The modes, and rounding an exact number into a format with flags [10], [11], [12]."""

from everyrounding.checks import check_count
from everyrounding.errors import BadMode
from everyrounding.formats import check_format, unit_at
from everyrounding.places import check_exact, place_of, power_of
from everyrounding.values import signed

MODES = ("even", "away", "zero", "up", "down", "odd")
FLAGS = ("invalid", "divzero", "overflow", "underflow", "inexact")


def is_mode(value):
    """True for one of the six modes."""
    return type(value) is str and value in MODES


def check_mode(mode):
    """Refuse what is none of the six modes."""
    if not is_mode(mode):
        raise BadMode()


def check_five(five):
    """Refuse what is none of the six modes without odd."""
    check_mode(five)
    if five == "odd":
        raise BadMode()


def check_near(near):
    """Refuse what is neither of the two modes that round to the nearest."""
    check_mode(near)
    if near != "even" and near != "away":
        raise BadMode()


def mirrored(mode):
    """The mode that rounds minus z as this one rounds z."""
    if mode == "up":
        return "down"
    return "up" if mode == "down" else mode


def steps_up(mode, s, k, where):
    """True if the mode takes k+1 for a size of sign s at this place."""
    if where == 0 or mode == "zero":
        return False
    if mode == "up":
        return s == 0
    if mode == "down":
        return s == 1
    if mode == "odd":
        return k % 2 == 0
    if where == 2:
        return mode == "away" or k % 2 == 1
    return where == 3


def choice(mode, s, k, where):
    """The multiple of the unit that the mode chooses: k or k+1."""
    return k + 1 if steps_up(mode, s, k, where) else k


def joined(flags, more):
    """The flags that are in one of the tuples or in both, in their order."""
    return tuple([flag for flag in FLAGS if flag in flags or flag in more])


def exact_sign(exact):
    """The sign, 0 or 1, of an exact number other than zero."""
    return 1 if exact[0] < 0 else 0


def overflowed(form, mode, s):
    """What a size of sign s becomes that the mode rounds to over or beyond."""
    p, _, hi = form
    inward = "up" if s == 1 else "down"
    if mode == "zero" or mode == "odd" or mode == inward:
        return (s, (1 << p) - 1, hi)
    return (s, -1, 0)


def is_tiny(form, power):
    """True if sizes from 2^power to below twice that lie below the line of the format."""
    return power < form[1] + form[0] - 1


def round_exact(form, exact, mode, s):
    """The answer for an exact number; s is the sign of the result for an exact zero."""
    if exact[0] == 0:
        return ((s, 0, 0), ())
    sign = exact_sign(exact)
    power = power_of(exact)
    unit = unit_at(form, power)
    k, where = place_of(exact, unit)
    count = choice(mode, sign, k, where)
    if count.bit_length() + unit > form[2] + form[0]:
        return (overflowed(form, mode, sign), ("overflow", "inexact"))
    x = signed(sign, count, unit)
    if where == 0:
        return (x, ())
    return (x, ("underflow", "inexact") if is_tiny(form, power) else ("inexact",))


def mirror(mode):
    """The mode that rounds minus z as this one rounds z."""
    check_mode(mode)
    return mirrored(mode)


def choose(mode, s, k, where):
    """The multiple of the unit that the mode chooses: k or k+1."""
    check_mode(mode)
    check_count(s, 0, 1)
    check_count(k, 0, None)
    check_count(where, 0, 3)
    return choice(mode, s, k, where)


def join_flags(flags, more):
    """The flags of both tuples, each once and in their order."""
    return joined(flags, more)


def rounded(form, exact, *, mode="even", s=0):
    """The exact number rounded into the format, with the flags that this raises."""
    check_format(form)
    check_exact(exact)
    check_mode(mode)
    check_count(s, 0, 1)
    return round_exact(form, exact, mode, s)


def early_tiny(form, exact):
    """True if the exact number itself is not zero and below the line."""
    check_format(form)
    check_exact(exact)
    return exact[0] != 0 and is_tiny(form, power_of(exact))


def late_tiny(form, exact, *, mode="even"):
    """True if the exact number is not zero and, rounded with unbounded powers, below the line."""
    check_format(form)
    check_exact(exact)
    check_mode(mode)
    if exact[0] == 0:
        return False
    # No format's line and unit apply here: the digits alone bind.
    unit = power_of(exact) - form[0] + 1
    k, where = place_of(exact, unit)
    count = choice(mode, exact_sign(exact), k, where)
    return is_tiny(form, count.bit_length() + unit - 1)
