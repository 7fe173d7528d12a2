"""Programs [42]: up to twelve operations one behind the other, run in their formats, exactly, or as polynomials."""

from math import isqrt

from everyrounding.checks import is_integer
from everyrounding.errors import BadNumber, BadProgram
from everyrounding.formats import is_format
from everyrounding.places import is_exact, lowest
from everyrounding.polys import MOST_TERMS, Poly, are_bounded, constant_terms, gathered, multiplied_terms
from everyrounding.polys import negated_terms, summed_terms, variable_terms
from everyrounding.rounding import is_mode, joined
from everyrounding.stations import OPERANDS, op_answer
from everyrounding.values import check_numbers, exact_value, is_number

MOST_INPUTS = 4
MOST_CONSTANTS = 8
MOST_STEPS = 12
MOST_NUMBERS = 200


def is_constant(value):
    """True for a zero or finite number."""
    return is_number(value) and value[1] >= 0


def has_parts(value):
    """True for a tuple of inputs, constants and steps, none of which is wrong as a whole."""
    if type(value) is not tuple or len(value) != 3:
        return False
    inputs, constants, steps = value
    if not is_integer(inputs) or inputs < 1 or inputs > MOST_INPUTS:
        return False
    if type(constants) is not tuple or len(constants) > MOST_CONSTANTS:
        return False
    if not all([is_constant(constant) for constant in constants]):
        return False
    return type(steps) is tuple and 1 <= len(steps) <= MOST_STEPS


def are_places(value, many, known):
    """True for a tuple of so many places below the count of what is known."""
    if type(value) is not tuple or len(value) != many:
        return False
    return all([is_integer(place) and 0 <= place < known for place in value])


def is_program_step(value, known):
    """True for a step that names only what is known."""
    if type(value) is not tuple or len(value) != 4:
        return False
    op, args, form, mode = value
    if type(op) is not str or op not in OPERANDS:
        return False
    return are_places(args, OPERANDS[op], known) and is_format(form) and is_mode(mode)


def first_known(program):
    """The place of the first step: the count of inputs and constants."""
    return program[0] + len(program[1])


def check_program(program):
    """Refuse what is no program, with the place of its first wrong step."""
    if not has_parts(program):
        raise BadProgram(-1)
    first = first_known(program)
    for at, step in enumerate(program[2]):
        if not is_program_step(step, first + at):
            raise BadProgram(at)


def check_inputs(program, xs):
    """Refuse a wrong program, then what is no list of a number for each input."""
    check_program(program)
    check_numbers(xs, MOST_NUMBERS)
    if len(xs) != program[0]:
        raise BadNumber()


def run_on(program, xs):
    """The numbers of all steps and the joined flags."""
    _, constants, steps = program
    known = list(xs) + list(constants)
    flags = ()
    for op, args, form, mode in steps:
        x, more = op_answer(op, form, [known[place] for place in args], mode)
        known.append(x)
        flags = joined(flags, more)
    return (known[first_known(program):], flags)


def last_number(program, xs):
    """The number of the last step."""
    return run_on(program, xs)[0][-1]


def exact_root(n, d):
    """The root of a fraction in lowest terms, None if there is none that is a fraction."""
    if n < 0:
        return None
    over = isqrt(n)
    under = isqrt(d)
    return (over, under) if over * over == n and under * under == d else None


def exact_one(op, n, d):
    """The exact result of an operation with one operand n/d, None if there is none."""
    if op == "root":
        return exact_root(n, d)
    if op == "minus":
        return (-n, d)
    return (abs(n), d) if op == "size" else (n, d)


def exact_two(op, n, d, n2, d2):
    """The exact result of an operation with the operands n/d and n2/d2, None if there is none."""
    if op == "add":
        return (n * d2 + n2 * d, d * d2)
    if op == "sub":
        return (n * d2 - n2 * d, d * d2)
    if op == "mul":
        return (n * n2, d * d2)
    if n2 == 0:
        return None
    return (-n * d2, -d * n2) if n2 < 0 else (n * d2, d * n2)


def exact_step(op, values):
    """The exact value of a step, None if it has none; values are the exact numbers or None of its arguments."""
    if None in values:
        return None
    n, d, _ = values[0]
    if len(values) == 1:
        parts = exact_one(op, n, d)
    elif len(values) == 2:
        parts = exact_two(op, n, d, values[1][0], values[1][1])
    else:
        n, d = exact_two("mul", n, d, values[1][0], values[1][1])
        parts = exact_two("add", n, d, values[2][0], values[2][1])
    if parts is None:
        return None
    value = lowest(parts[0], parts[1], 1)
    return value if is_exact(value) else None


def step_terms(op, parts):
    """The terms of a step's polynomial from those of its arguments; the operation is not div, root or size."""
    if op == "minus":
        return negated_terms(parts[0])
    if op == "add":
        return summed_terms(parts[0], parts[1])
    if op == "sub":
        return summed_terms(parts[0], negated_terms(parts[1]))
    if op == "mul":
        return multiplied_terms(parts[0], parts[1])
    if op == "muladd":
        return summed_terms(multiplied_terms(parts[0], parts[1]), parts[2])
    return parts[0]


def polynomial_of(program):
    """The polynomial of the last step, None if a step has none."""
    inputs, constants, steps = program
    known = [variable_terms(inputs, at) for at in range(inputs)]
    for constant in constants:
        n, d, _ = exact_value(constant)
        known.append(gathered(constant_terms(inputs, n, d)))
    for op, args, _, _ in steps:
        if op == "div" or op == "root" or op == "size":
            return None
        terms = step_terms(op, [known[place] for place in args])
        if len(terms) > MOST_TERMS or not are_bounded(terms):
            return None
        known.append(terms)
    return Poly(inputs, known[-1])


def run_program(program, xs):
    """The numbers of all steps, and the joined flags."""
    check_inputs(program, xs)
    return run_on(program, xs)


def exact_program(program, xs):
    """The exact values of all steps without any rounding, None for a step that has none."""
    check_inputs(program, xs)
    if not all([is_constant(x) for x in xs]):
        raise BadNumber()
    known = [exact_value(x) for x in list(xs) + list(program[1])]
    for op, args, _, _ in program[2]:
        known.append(exact_step(op, [known[place] for place in args]))
    return known[first_known(program):]


def polynomial(program):
    """The polynomial in the inputs that the last step exactly is, None if one of the steps is none."""
    check_program(program)
    return polynomial_of(program)
