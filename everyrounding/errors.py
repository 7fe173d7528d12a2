"""The errors of the program: one class for each kind of refusal."""


class Refused(ValueError):
    """The program refuses a call; each of its errors is a direct subclass."""


class BadCount(Refused):
    """An integer is none or lies outside of its range."""


class BadFormat(Refused):
    """A format is wrong."""


class BadNumber(Refused):
    """A number is wrong."""


class BadExact(Refused):
    """An exact number is wrong."""


class BadMode(Refused):
    """A mode is wrong."""


class BadOp(Refused):
    """An operation name is wrong."""


class BadText(Refused):
    """A text is wrong; only its first `at` characters begin a right one."""

    def __init__(self, at):
        self.at = at


class BadCut(Refused):
    """A cut is wrong."""


class BadPlan(Refused):
    """A plan is wrong."""


class BadChain(Refused):
    """A chain is wrong."""


class BadFamily(Refused):
    """A series or a family is wrong."""


class BadSpan(Refused):
    """A span is wrong."""


class BadProgram(Refused):
    """A program is wrong in its step `at`, or as a whole if that is -1."""

    def __init__(self, at):
        self.at = at


class BadBox(Refused):
    """A box is wrong."""


class NotAsked(Refused):
    """The question is not one that the program decides."""


class TooMany(Refused):
    """There would be more than `limit` of something."""

    def __init__(self, limit):
        self.limit = limit
