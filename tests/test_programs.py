import random
import unittest
from fractions import Fraction
from math import isqrt

from everyrounding.errors import BadNumber, BadProgram
from everyrounding.polys import Poly
from everyrounding.programs import check_program, exact_program, polynomial, run_program
from everyrounding.rounding import join_flags
from everyrounding.stations import deed
from everyrounding.values import exact_of
from tests.oracle import HUGE_M, INF, MINUS_INF, MINUS_ZERO, MODES, NAN, SMALL, TINY, ZERO, assert_refused, exact_from, finite_numbers, refusal
from tests.oracle import value_of

ONE, THREE = (0, 1, 0), (0, 3, 0)
OPS = {"add": 2, "sub": 2, "mul": 2, "div": 2, "muladd": 3, "root": 1, "convert": 1, "minus": 1, "size": 1}
ADD = ("add", (0, 0), TINY, "even")
PLAIN = (1, (), (ADD,))


def steps(*told, form=(53, -600, 600), mode="even"):
    """Steps written as an operation and places."""
    return tuple((op, places, form, mode) for op, *places in [(row[0], *row[1:]) for row in told] for places in [tuple(places)])


def some_program(picker, inputs, many, ops=tuple(OPS), forms=(TINY, SMALL, (4, -3, 2))):
    constants = tuple(picker.choice(finite_numbers(SMALL)) for _ in range(picker.randint(0, 3)))
    told = []
    for at in range(many):
        op = picker.choice(ops)
        known = inputs + len(constants) + at
        told.append((op, tuple(picker.randrange(known) for _ in range(OPS[op])), picker.choice(forms), picker.choice(MODES)))
    return (inputs, constants, tuple(told))


def assert_wrong(case, at, program):
    told = refusal(check_program, program)
    case.assertEqual((type(told), getattr(told, "at", None)), (BadProgram, at), program)


class TestCheck(unittest.TestCase):
    def test_right_programs(self):
        for inputs in range(1, 5):
            for constants in [(), (ONE,) * 8, (ZERO, MINUS_ZERO), ((0, HUGE_M, 2000), (1, 1, -2000))]:
                for many in (1, 12):
                    self.assertIsNone(check_program((inputs, constants, (ADD,) * many)))
        self.assertIsNone(check_program((1, (), (ADD, ("mul", (0, 1), TINY, "odd"), ("root", (2,), SMALL, "up")))))
        picker = random.Random(1)
        for _ in range(100):
            self.assertIsNone(check_program(some_program(picker, picker.randint(1, 4), picker.randint(1, 12))))

    def test_wrong_as_a_whole(self):
        for wrong in [None, True, 0, "program", (), [1, (), (ADD,)], (1, ()), (1, (), (ADD,), ()), (ADD,), ADD]:
            assert_wrong(self, -1, wrong)
        for inputs in (0, 5, -1, True, None, "1", (1,), [1]):
            assert_wrong(self, -1, (inputs, (), (ADD,)))
        for constants in [None, True, [], [ONE], (ONE,) * 9, (INF,), (MINUS_INF,), (NAN,), (None,), ((0, 2, 0),), ((0, True, 0),),
                    ONE, "x", (ONE, INF)]:
            assert_wrong(self, -1, (1, constants, (ADD,)))
        for told in [None, True, (), [], [ADD], (ADD,) * 13, "steps", 1]:
            assert_wrong(self, -1, (1, (), told))
        # The whole goes before a wrong step.
        assert_wrong(self, -1, (0, (), (None,)))
        assert_wrong(self, -1, (1, (INF,), (None,)))
        assert_wrong(self, -1, (1, (), (None,) * 13))

    def test_wrong_steps(self):
        wrongs = [None, True, 0, "step", (), list(ADD), ADD[:3], ADD + (1,)]
        wrongs += [(op,) + ADD[1:] for op in (None, True, "rest", "", "Add", ["add"], ("add",), 1, "root", "muladd", "size")]
        wrongs += [("add", places, TINY, "even") for places in (None, True, 0, (), (0,), (0, 0, 0), [0, 0], (0, -1), (-1, 0), (0,
                    True), (False, 0), (0, "0"), (0, None), "00")]
        wrongs += [("add", (0, 0), form, "even") for form in (None, True, (1, 0, 2), (2, 0), [2, 0, 2], "2:0:2", (2, True, 2), (2,
                    False, 2))]
        wrongs += [("add", (0, 0), TINY, mode) for mode in (None, True, "x", "", ["even"], 0, "Even")]
        for wrong in wrongs:
            for at in range(3):
                assert_wrong(self, at, (1, (), (ADD,) * at + (wrong,) + (ADD,) * 2))
                # The first wrong step decides.
                assert_wrong(self, at, (1, (), (ADD,) * at + (wrong, None)))

    def test_places(self):
        for inputs, constants in [(1, ()), (2, (ONE,)), (4, (ONE,) * 8)]:
            known = inputs + len(constants)
            for at in range(4):
                before = (("add", (0, 0), TINY, "even"),) * at
                last = known + at
                self.assertIsNone(check_program((inputs, constants, before + (("add", (last - 1, 0), TINY, "even"),))))
                # A step that names itself, and one that names a later one.
                assert_wrong(self, at, (inputs, constants, before + (("add", (last, 0), TINY, "even"),)))
                assert_wrong(self, at, (inputs, constants, before + (("add", (0, last + 1), TINY, "even"), ADD)))
                assert_wrong(self, at, (inputs, constants, before + (("add", (0, -1), TINY, "even"),)))


class TestRun(unittest.TestCase):
    def test_against_deeds(self):
        picker = random.Random(2)
        numbers = finite_numbers(SMALL) + [INF, MINUS_INF, NAN, (0, HUGE_M, 2000), (1, 1, -2000)]
        for _ in range(300):
            inputs = picker.randint(1, 4)
            program = some_program(picker, inputs, picker.randint(1, 12))
            xs = [picker.choice(numbers) for _ in range(inputs)]
            kept = list(xs)
            known, flags = xs + list(program[1]), ()
            for op, places, form, mode in program[2]:
                x, more = deed(op, form, *[known[place] for place in places], mode=mode)
                known.append(x)
                flags = join_flags(flags, more)
            self.assertEqual(run_program(program, xs), (known[inputs + len(program[1]):], flags))
            self.assertEqual(xs, kept)

    def test_joined_flags(self):
        told = steps(("div", 0, 1), ("root", 2), ("div", 0, 3), ("mul", 0, 0), ("div", 0, 4), form=TINY)
        program = (1, (ZERO, (1, 1, 0), THREE, (0, 1, -9)), told)
        numbers, flags = run_program(program, [(0, 3, 2)])
        self.assertEqual(flags, ("invalid", "divzero", "overflow", "inexact"))
        self.assertEqual(numbers, [INF, NAN, (0, 1, 2), INF, INF])
        self.assertEqual(run_program(PLAIN, [ONE]), ([(0, 1, 1)], ()))
        self.assertEqual(run_program((1, (), (("minus", (0,), TINY, "even"),)), [ZERO]), ([MINUS_ZERO], ()))

    def test_wrong_arguments(self):
        for call in (run_program, exact_program):
            assert_refused(self, BadProgram, call, None, None)
            for wrong in [None, True, (), (ONE,), [], [ONE, ONE], [None], [(0, 2, 0)], "x", [ONE] * 201, [[0, 1, 0]], [True]]:
                assert_refused(self, BadNumber, call, PLAIN, wrong)
        self.assertEqual(run_program(PLAIN, [INF]), ([INF], ()))
        for special in (INF, MINUS_INF, NAN):
            assert_refused(self, BadNumber, exact_program, PLAIN, [special])
            assert_refused(self, BadNumber, exact_program, (2, (), (ADD,)), [ONE, special])
            assert_refused(self, BadNumber, exact_program, (2, (), (ADD,)), [special])


def slow_exact(program, xs):
    """The exact values as fractions or None, by their definition."""
    known = [value_of(x) for x in xs] + [value_of(x) for x in program[1]]
    for op, places, _, _ in program[2]:
        args = [known[place] for place in places]
        known.append(None if None in args else exact_deed(op, args))
    return known[len(xs) + len(program[1]):]


def exact_deed(op, args):
    x = args[0]
    if op == "root":
        over, under = isqrt(abs(x.numerator)), isqrt(x.denominator)
        return Fraction(over, under) if x >= 0 and Fraction(over, under) ** 2 == x else None
    if op == "div":
        value = None if args[1] == 0 else x / args[1]
    else:
        value = {"add": lambda: x + args[1], "sub": lambda: x - args[1], "mul": lambda: x * args[1],
                    "muladd": lambda: x * args[1] + args[2],
                 "minus": lambda: -x, "size": lambda: abs(x), "convert": lambda: x}[op]()
    if value is not None and max(abs(value.numerator), value.denominator) >= 1 << 12000:
        return None
    return value


class TestExact(unittest.TestCase):
    def test_against_fractions(self):
        picker = random.Random(3)
        lost = 0
        for _ in range(400):
            inputs = picker.randint(1, 4)
            program = some_program(picker, inputs, picker.randint(1, 12))
            xs = [picker.choice(finite_numbers((4, -5, 5))) for _ in range(inputs)]
            told = [None if value is None else exact_from(value) for value in slow_exact(program, xs)]
            lost += None in told
            self.assertEqual(exact_program(program, xs), told, (program, xs))
        self.assertGreater(lost, 30)

    def test_none_and_the_steps_behind_it(self):
        program = (1, (ZERO,), steps(("div", 0, 1), ("add", 0, 0), ("add", 2, 0), ("minus", 0), ("size", 5), ("mul", 3, 4),
                    ("muladd", 2, 0, 0)))
        self.assertEqual(exact_program(program, [THREE]), [None, (6, 1, 1), None, (-3, 1, 1), (3, 1, 1), None, None])
        self.assertEqual(exact_program((1, (MINUS_ZERO,), steps(("div", 0, 1))), [ZERO]), [None])
        self.assertEqual(exact_program((1, (MINUS_ZERO,), steps(("div", 1, 0), ("minus", 1), ("root", 1))), [THREE]), [(0, 1, 1)] * 3)

    def test_roots(self):
        for x, told in [((0, 9, 0), (3, 1, 1)), ((0, 9, -2), (3, 2, 1)), ((0, 9, -4), (3, 4, 1)), ((0, 9, 1), None), ((0, 3, 0),
                    None), ((1, 9, 0), None),
                        (ZERO, (0, 1, 1)), (MINUS_ZERO, (0, 1, 1)), ((0, 1, 2000), (1 << 1000, 1, 1)), ((0, 1, 1999), None)]:
            self.assertEqual(exact_program((1, (), steps(("root", 0))), [x]), [told], x)

    def test_great_values(self):
        # 2^2000 to the 6th is 2^12000, which is one too many; a tenth is fine again.
        six = (1, (), steps(("mul", 0, 0), ("mul", 1, 1), ("mul", 2, 1), ("add", 2, 2)))
        high, low = (1 << 8000, 1, 1), (1, 1 << 8000, 1)
        self.assertEqual(exact_program(six, [(0, 1, 2000)]), [(1 << 4000, 1, 1), high, None, (1 << 8001, 1, 1)])
        self.assertEqual(exact_program(six, [(0, 1, -2000)]), [(1, 1 << 4000, 1), low, None, (1, 1 << 7999, 1)])
        self.assertEqual(exact_program(six, [(0, 1, 1999)])[2], (1 << 11994, 1, 1))
        # The product alone of muladd may reach 2^12000, the sum may not.
        program = (2, (), steps(("mul", 0, 0), ("mul", 2, 2), ("mul", 2, 0), ("muladd", 3, 4, 1), ("mul", 3, 4), ("minus", 3),
                    ("muladd", 3, 4, 1)))
        told = exact_program(program, [(0, 1, 2000), ONE])
        self.assertEqual(told[3:5], [None, None])
        whole = (1, ((0, 1, -1),), steps(("mul", 0, 0), ("mul", 2, 2), ("mul", 2, 0), ("mul", 4, 1), ("minus", 5), ("muladd", 3, 5,
                    6), ("mul", 3, 5), ("muladd", 6, 1, 5)))
        told = exact_program(whole, [(0, 1, 2000)])
        self.assertEqual(told[3], (1 << 5999, 1, 1))
        self.assertEqual(told[5:], [None, None, (1 << 5998, 1, 1)])
        # 2^8000 * 2^4000 - 2^12000 + 2^3999: the sum is within, the product is not.
        near = (1, (ONE,), steps(("mul", 0, 0), ("mul", 2, 2), ("sub", 3, 1), ("muladd", 3, 2, 0), ("muladd", 4, 2, 1)))
        self.assertEqual(exact_program(near, [(0, 1, 2000)])[3:], [None, ((1 << 12000) - (1 << 4000) + 1, 1, 1)])

    def test_forms_and_modes_are_not_used(self):
        told = (1, (THREE,), steps(("div", 0, 1), ("convert", 2), ("mul", 3, 1), form=(2, 5, 5), mode="up"))
        self.assertEqual(exact_program(told, [ONE]), [(1, 3, 1), (1, 3, 1), (1, 1, 1)])


class TestPolynomial(unittest.TestCase):
    OPS = ("add", "sub", "mul", "muladd", "minus", "convert")

    def test_values_are_the_exact_ones(self):
        picker = random.Random(4)
        for _ in range(200):
            inputs = picker.randint(1, 3)
            program = some_program(picker, inputs, picker.randint(1, 5), self.OPS)
            poly = polynomial(program)
            self.assertIs(type(poly), Poly)
            self.assertEqual(poly.variables, inputs)
            for _ in range(4):
                xs = [picker.choice(finite_numbers(SMALL)) for _ in range(inputs)]
                self.assertEqual(poly([exact_of(x) for x in xs]), exact_program(program, xs)[-1])

    def test_told(self):
        x, y = Poly.variable(2, 0), Poly.variable(2, 1)
        two, half = Poly.constant(2, 2, 1), Poly.constant(2, 1, 2)
        for told, poly in [([("add", 0, 1)], x + y), ([("sub", 0, 1)], x - y), ([("mul", 0, 1)], x * y), ([("muladd", 0, 1, 0)], x * y + x),
                           ([("minus", 0)], -x), ([("convert", 1)], y), ([("add", 0, 2)], x + two), ([("mul", 0, 3)], x * half),
                           ([("sub", 0, 0)], Poly(2)), ([("mul", 4, 0)], Poly(2)), ([("add", 4, 4)], Poly(2)), ([("mul", 0, 0),
                                       ("sub", 5, 1)], x * x - y),
                           ([("mul", 2, 3)], Poly.constant(2, 1, 1))]:
            self.assertEqual(polynomial((2, ((0, 1, 1), (0, 1, -1), MINUS_ZERO), steps(*told))), poly)

    def test_steps_that_are_no_polynomial(self):
        for op in ("div", "root", "size"):
            step = (op,) + (0,) * OPS[op]
            self.assertIsNone(polynomial((1, (), steps(step))))
            # Also where the last step does not use it.
            self.assertIsNone(polynomial((1, (), steps(step, ("add", 0, 0)))))
            self.assertIsNone(polynomial((1, (), steps(("add", 0, 0), step, ("add", 1, 1)))))

    def test_sixty_terms(self):
        # (x + y + z + 1)^k has 4, 10, 20, 35, 56, 84 terms.
        x, y, z, one = [Poly.variable(3, at) for at in range(3)] + [Poly.constant(3, 1, 1)]
        base = x + y + z + one
        start = [("add", 0, 1), ("add", 4, 2), ("add", 5, 3), ("mul", 6, 6), ("mul", 7, 7), ("mul", 8, 6)]
        program = (3, (ONE,), steps(*start))
        five = base * base * base * base * base
        self.assertEqual(len(five), 56)
        self.assertEqual(polynomial(program), five)
        self.assertIsNone(polynomial((3, (ONE,), steps(*start, ("mul", 9, 6)))))
        self.assertIsNone(polynomial((3, (ONE,), steps(*start, ("mul", 9, 6), ("minus", 0)))))
        # x^4 * (x + y + z + 1) * x has three terms that are new, x^4 * y^2 one more.
        more = [("mul", 0, 0), ("mul", 10, 10), ("mul", 11, 6), ("muladd", 12, 0, 9)]
        told = polynomial((3, (ONE,), steps(*start, *more)))
        self.assertEqual(len(told), 59)
        self.assertEqual(told, five + x * x * x * x * x * base)
        told = polynomial((3, (ONE,), steps(*start, *more, ("mul", 1, 1), ("muladd", 11, 14, 13))))
        self.assertEqual(len(told), 60)
        self.assertIsNone(polynomial((3, (ONE,), steps(*start, *more, ("muladd", 12, 1, 13)))))
        self.assertIsNone(polynomial((3, (ONE,), steps(*start, *more, ("muladd", 12, 1, 13), ("convert", 0)))))

    def test_a_product_of_many_terms_in_muladd(self):
        # With c = (x + y + z + 1)^4 of 35 terms: c * (w + 1) has 70 of them, c * (w + 1) - c has 35 again.
        told = [("add", 0, 1), ("add", 5, 2), ("add", 6, 4), ("mul", 7, 7), ("mul", 8, 8), ("add", 3, 4), ("minus", 9)]
        x, y, z, w, one = [Poly.variable(4, at) for at in range(4)] + [Poly.constant(4, 1, 1)]
        square = (x + y + z + one) * (x + y + z + one)
        found = polynomial((4, (ONE,), steps(*told, ("muladd", 9, 10, 11))))
        self.assertEqual(found, square * square * w)
        self.assertEqual(len(found), 35)
        self.assertIsNone(polynomial((4, (ONE,), steps(*told, ("mul", 9, 10)))))
        self.assertIsNone(polynomial((4, (ONE,), steps(*told, ("mul", 9, 10), ("add", 12, 11)))))
        self.assertIsNone(polynomial((4, (ONE,), steps(*told, ("muladd", 9, 10, 0)))))

    def test_powers(self):
        six = [("mul", 0, 0), ("mul", 1, 1), ("mul", 2, 2), ("mul", 3, 3), ("mul", 4, 4), ("mul", 5, 5)]
        told = polynomial((1, (), steps(*six)))
        self.assertEqual(list(told), [((64,), 1, 1)])
        self.assertIsNone(polynomial((1, (), steps(*six, ("mul", 6, 0)))))
        self.assertIsNone(polynomial((1, (), steps(*six, ("mul", 6, 0), ("convert", 0)))))
        # One variable alone is enough, also in a step that the last one does not use.
        two = [("mul", 0, 0), ("mul", 2, 2), ("mul", 3, 3), ("mul", 4, 4), ("mul", 5, 5), ("mul", 6, 6), ("mul", 7, 1)]
        self.assertEqual(list(polynomial((2, (), steps(*two)))), [((64, 1), 1, 1)])
        for last in (("mul", 8, 0), ("muladd", 8, 0, 1)):
            self.assertIsNone(polynomial((2, (), steps(*two, last))))
            self.assertIsNone(polynomial((2, (), steps(*two, last, ("convert", 0)))))
        # The product alone of muladd may have a greater power, if it vanishes in the sum.
        zero = (1, (ZERO,), steps(("mul", 0, 0), ("mul", 2, 2), ("mul", 3, 3), ("mul", 4, 4), ("mul", 5, 5), ("mul", 6, 6),
                    ("muladd", 7, 1, 0)))
        self.assertEqual(list(polynomial(zero)), [((1,), 1, 1)])
        self.assertIsNone(polynomial((1, (ZERO,), zero[2][:-1] + steps(("muladd", 7, 0, 1)))))

    def test_coefficients(self):
        great = (1, ((0, 1, 2000), (0, 1, -2000)), steps(("mul", 1, 1), ("mul", 3, 3), ("mul", 4, 3)))
        self.assertIsNone(polynomial(great))
        self.assertIsNone(polynomial((1, great[1], steps(("mul", 2, 2), ("mul", 3, 3), ("mul", 4, 3), ("convert", 0)))))
        self.assertEqual(list(polynomial((1, great[1], great[2][:2]))), [((0,), 1 << 8000, 1)])
        # 2^8000 * 2^4000 - 2^4000 + 1 is within, though the product is not.
        near = (1, ((0, 1, 2000), ONE), steps(("mul", 1, 1), ("mul", 3, 3), ("sub", 4, 2), ("muladd", 5, 3, 0)))
        self.assertEqual(list(polynomial(near)), [((0,), (1 << 12000) - (1 << 4000), 1), ((1,), 1, 1)])
        self.assertIsNone(polynomial((1, near[1], near[2][:3] + steps(("muladd", 4, 3, 0)))))

    def test_wrong_arguments(self):
        for wrong in (None, True, (), PLAIN[:2], (0, (), (ADD,))):
            assert_refused(self, BadProgram, polynomial, wrong)
