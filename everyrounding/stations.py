"""Operations by name [17], and stations, which collect flags [18]."""

from everyrounding.errors import BadNumber, BadOp
from everyrounding.formats import check_format
from everyrounding.products import div_answer, mul_answer, root_answer
from everyrounding.rests import convert_answer
from everyrounding.rounding import check_mode, joined
from everyrounding.sums import muladd_answer, sum_answer
from everyrounding.values import check_number, opposite

# How many operands each operation has.
OPERANDS = {
    "add": 2,
    "sub": 2,
    "mul": 2,
    "div": 2,
    "muladd": 3,
    "root": 1,
    "convert": 1,
    "minus": 1,
    "size": 1,
}


def check_op(op):
    """Refuse what is no operation name."""
    if type(op) is not str or op not in OPERANDS:
        raise BadOp()


def check_operands(op, xs):
    """Refuse a tuple that does not hold the operands of the operation."""
    for x in xs:
        check_number(x)
    if len(xs) != OPERANDS[op]:
        raise BadNumber()


def one_answer(op, form, x, mode):
    """The answer of an operation with one operand."""
    if op == "root":
        return root_answer(form, x, mode)
    if op == "minus":
        return convert_answer(form, opposite(x), mode)
    if op == "size":
        return convert_answer(form, (0, x[1], x[2]), mode)
    return convert_answer(form, x, mode)


def two_answer(op, form, x, y, mode):
    """The answer of an operation with two operands."""
    if op == "add":
        return sum_answer(form, x, y, mode)
    if op == "sub":
        return sum_answer(form, x, opposite(y), mode)
    if op == "mul":
        return mul_answer(form, x, y, mode)
    return div_answer(form, x, y, mode)


def op_answer(op, form, xs, mode):
    """The answer of an operation on its operands."""
    if len(xs) == 1:
        return one_answer(op, form, xs[0], mode)
    if len(xs) == 2:
        return two_answer(op, form, xs[0], xs[1], mode)
    return muladd_answer(form, xs[0], xs[1], xs[2], mode)


def operands(op):
    """How many operands the operation has."""
    check_op(op)
    return OPERANDS[op]


def deed(op, form, *xs, mode="even"):
    """The answer of the named operation on the operands."""
    check_op(op)
    check_format(form)
    check_operands(op, xs)
    check_mode(mode)
    return op_answer(op, form, xs, mode)


class Station:
    """A format and a mode, with the flags that the operations done here raised."""

    def __init__(self, form, *, mode="even"):
        check_format(form)
        check_mode(mode)
        self._form = form
        self._mode = mode
        self._flags = ()
        self._many = 0

    def _step(self, mode, op, xs):
        """Do one operation by the mode, count it and join its flags."""
        check_op(op)
        check_operands(op, xs)
        x, flags = op_answer(op, self._form, xs, mode)
        self._flags = joined(self._flags, flags)
        self._many += 1
        return x

    def do(self, op, *xs):
        """The number that the operation gives by the station's mode."""
        return self._step(self._mode, op, xs)

    def under(self, mode, op, *xs):
        """The number that the operation gives by another mode, for this once."""
        check_mode(mode)
        return self._step(mode, op, xs)

    def forget(self):
        """Empty the flags."""
        self._flags = ()

    def twin(self):
        """A new station in the same state."""
        other = Station(self._form, mode=self._mode)
        other._flags = self._flags
        other._many = self._many
        return other

    @property
    def form(self):
        """The format."""
        return self._form

    @property
    def mode(self):
        """The mode."""
        return self._mode

    @mode.setter
    def mode(self, value):
        check_mode(value)
        self._mode = value

    @property
    def flags(self):
        """The flags raised since the start or the last emptying."""
        return self._flags

    @property
    def many(self):
        """How many operations were done."""
        return self._many
