import random
import unittest
from itertools import product

from everyrounding.agree import agree, tree_holds, within, within_holds
from everyrounding.errors import BadBox, BadCount, BadNumber, BadProgram, NotAsked, TooMany
from everyrounding.formats import many
from everyrounding.order import total
from everyrounding.programs import polynomial, run_program
from everyrounding.ranges import grids, point_numbers, points, ranges
from everyrounding.seats import at_seat
from everyrounding.values import alike
from tests.oracle import INF, MINUS_INF, MINUS_ZERO, MODES, NAN, SMALL, TINY, ZERO, assert_refused, refusal
from tests.test_programs import some_program, steps
from tests.test_ranges import all_points, some_box

ONE, TWO, FOUR = (0, 1, 0), (0, 1, 1), (0, 1, 2)
SUM = (2, (), (("add", (0, 1), TINY, "even"),))
SWAPPED = (2, (), (("add", (1, 0), TINY, "even"),))
BOX = ((TINY, 1, 2), (TINY, 1, 2))
WIDE = (140, -600, 600)


def last(program, box, seats):
    return run_program(program, point_numbers(box, seats))[0][-1]


class Pair:
    """The claim of agreement by its definition."""

    def __init__(self, program, program2):
        self.programs = (program, program2)

    def holds(self, box, seats):
        return alike(*[last(program, box, seats) for program in self.programs])

    def letter(self, box):
        bounds = [ranges(program, box)[-1] for program in self.programs]
        if None not in bounds and all(alike(bounds[0][0], x) for x in bounds[0] + bounds[1]):
            return "S"
        polys = [polynomial(program) for program in self.programs]
        if None not in polys and polys[0] == polys[1] and not any(None in grids(program, box) for program in self.programs):
            return "X"
        return None


class Bounds:
    """The claim of being within by its definition."""

    def __init__(self, program, low, high):
        self.program, self.low, self.high = program, low, high

    def lies(self, x):
        return total(self.low, x) <= 0 and total(x, self.high) <= 0

    def holds(self, box, seats):
        return self.lies(last(self.program, box, seats))

    def letter(self, box):
        bounds = ranges(self.program, box)[-1]
        return "S" if bounds is not None and self.lies(bounds[0]) and self.lies(bounds[1]) else None


def parts_of(box):
    """The two halves of a box."""
    at = next(at for at, (_, a, b) in enumerate(box) if a < b)
    form, a, b = box[at]
    middle = (a + b) // 2
    return [box[:at] + (side,) + box[at + 1:] for side in ((form, a, middle), (form, middle + 1, b))]


def search(claim, box, letters):
    """The told letters, appended; the point that fails or None."""
    letter = claim.letter(box)
    seats = tuple(a for _, a, _ in box)
    if letter is None and points(box) == 1:
        letter = "P" if claim.holds(box, seats) else "?"
    letters.append(letter or "C")
    if letter == "?":
        return seats
    if letter is None:
        for part in parts_of(box):
            found = search(claim, part, letters)
            if found is not None:
                return found
    return None


def right_papers(claim, box, picker):
    """A right paper that cuts where it need not, or None where a box fails."""
    letter = claim.letter(box)
    if points(box) == 1:
        options = ([letter] if letter else []) + (["P"] if claim.holds(box, tuple(a for _, a, _ in box)) else [])
        return picker.choice(options) if options else None
    if letter and picker.random() < 0.5:
        return letter
    found = [right_papers(claim, part, picker) for part in parts_of(box)]
    return None if None in found else "C" + "".join(found)


class Checker(unittest.TestCase):
    def check(self, claim, call, judge, args, box, picker):
        """Compare with the definition, all points and all limits; the letters are judged, too. The told kind."""
        letters = []
        failing = search(claim, box, letters)
        unlike = [seats for seats in all_points(box) if not claim.holds(box, seats)]
        self.assertEqual(failing, unlike[0] if unlike else None)
        looked = len(letters)
        self.assertLessEqual(looked, 2 * points(box) - 1)
        told = ("holds", "".join(letters)) if failing is None else ("fails", failing)
        for limit in {looked, looked + 1, 400}:
            if limit <= 400:
                self.assertEqual(call(*args, limit), told)
        for limit in {1, looked - 1, looked // 2} - {0}:
            if limit < looked:
                error = assert_refused(self, TooMany, call, *args, limit)
                self.assertEqual(error.limit, limit)
        if failing is None:
            self.check_letters(claim, judge, args, box, told[1], picker)
        else:
            for letters in ("", "S", "X", "P", "C", "CPP", "".join(letters[:-1]) + "P", "".join(letters[:-1]) + "S"):
                self.assertIs(judge(*args, letters), False)
        return told[0]

    def check_letters(self, claim, judge, args, box, letters, picker):
        self.assertIs(judge(*args, letters), True)
        for _ in range(3):
            self.assertIs(judge(*args, right_papers(claim, box, picker)), True)
        for wrong in ["", letters + "S", letters + "P", letters[:-1], letters[1:], "C" + letters, letters.lower(), letters + " ",
                    letters + "\n", "?"]:
            if wrong != letters and not (wrong == "" and letters == ""):
                self.assertIs(judge(*args, wrong), False, (args, wrong))
        for at in range(len(letters)):
            for letter in "SXPC":
                bent = letters[:at] + letter + letters[at + 1:]
                self.assertIs(judge(*args, bent), self.is_paper(claim, box, bent), (args, bent))

    def is_paper(self, claim, box, letters):
        """True if the letters are right by the definition."""
        waiting = [box]
        for letter in letters:
            if not waiting:
                return False
            part = waiting.pop(0)
            if letter == "C":
                if points(part) == 1:
                    return False
                waiting = parts_of(part) + waiting
            elif letter == "P":
                if points(part) > 1 or not claim.holds(part, tuple(a for _, a, _ in part)):
                    return False
            elif not self.may_stand(claim, part, letter):
                return False
        return not waiting

    def may_stand(self, claim, part, letter):
        if claim.letter(part) == letter:
            return True
        # Where S holds, X may hold as well.
        if letter == "X" and isinstance(claim, Pair):
            polys = [polynomial(program) for program in claim.programs]
            return None not in polys and polys[0] == polys[1] and not any(None in grids(program, part) for program in claim.programs)
        return False


def changed(picker, program):
    """A program that often gives the same numbers: operands exchanged, another mode, or another format."""
    inputs, constants, told = program
    at = picker.randrange(len(told))
    op, places, form, mode = told[at]
    kind = picker.randrange(4)
    if kind == 0 and op in ("add", "mul"):
        places = places[::-1]
    elif kind == 1:
        mode = picker.choice(MODES)
    elif kind == 2:
        form = (min(form[0] + 1, 140), form[1] - 1, form[2])
    return (inputs, constants, told[:at] + ((op, places, form, mode),) + told[at + 1:])


class TestAgreement(Checker):
    def test_against_all_points(self):
        picker = random.Random(48)
        kinds = []
        while len(kinds) < 250:
            inputs = picker.randint(1, 3)
            program = some_program(picker, inputs, picker.randint(1, 4), forms=(TINY, SMALL, (9, -6, 4)))
            box = some_box(picker, inputs, 5)
            if points(box) <= 40:
                program2 = changed(picker, program)
                kinds.append(self.check(Pair(program, program2), agree, tree_holds, (program, program2, box), box, picker))
        self.assertGreater(min(kinds.count("holds"), kinds.count("fails")), 15)

    def test_each_letter(self):
        self.assertEqual(agree(SUM, SWAPPED, BOX, 20), ("holds", "X"))
        constant = (1, (ONE,), steps(("convert", 1), form=TINY))
        twice = (1, (TWO,), steps(("sub", 1, 1), ("muladd", 2, 0, 1), form=TINY))
        self.assertEqual(agree(constant, constant, ((TINY, -8, 7),), 1), ("holds", "S"))
        self.assertEqual(agree(twice, twice, ((TINY, -8, 7),), 1), ("holds", "S"))
        # 6 + 8 and 8 + 8 overflow, so the points alone can tell.
        self.assertEqual(agree(SUM, SWAPPED, ((TINY, 5, 6), (TINY, 6, 6)), 400), ("holds", "CPP"))
        double = (1, (), steps(("add", 0, 0), form=TINY))
        times = (1, (TWO,), steps(("mul", 0, 1), form=TINY))
        self.assertEqual(agree(double, times, ((TINY, -3, 7),), 400), ("holds", "CXCCCSSSCPP"))
        nan = (1, (ZERO,), steps(("div", 1, 1), ("add", 2, 0), form=TINY))
        self.assertEqual(agree(nan, nan, ((TINY, 1, 2),), 3), ("holds", "CPP"))
        self.assertIs(tree_holds(nan, nan, ((TINY, 1, 2),), "CPP"), True)
        for wrong in ("X", "S", "CXX", "CSS", "CPX"):
            self.assertIs(tree_holds(nan, nan, ((TINY, 1, 2),), wrong), False)

    def test_x_needs_polynomials(self):
        # size and root of a square have grids or not, but no polynomials, so not even a program and itself are X.
        sized = (1, (), steps(("size", 0), form=(9, -6, 4)))
        self.assertEqual(grids(sized, ((TINY, 1, 2),)), [(0, (2, 1, 1))])
        self.assertEqual(agree(sized, sized, ((TINY, 1, 2),), 9), ("holds", "CSS"))
        plain = (1, (), steps(("convert", 0), form=(9, -6, 4)))
        for pair in [(sized, plain), (plain, sized)]:
            self.assertEqual(agree(*pair, ((TINY, 1, 2),), 9), ("holds", "CSS"))
            self.assertIs(tree_holds(*pair, ((TINY, 1, 2),), "X"), False)
        self.assertEqual(agree(plain, plain, ((TINY, 1, 2),), 9), ("holds", "X"))
        self.assertIs(tree_holds(sized, sized, ((TINY, 1, 2),), "X"), False)
        # A step without a grid that the last one does not use, on one side alone.
        lost = (1, (), steps(("mul", 0, 0), form=TINY) + plain[2])
        self.assertEqual(agree(lost, plain, ((TINY, 5, 7),), 9), agree(plain, lost, ((TINY, 5, 7),), 9))
        self.assertNotIn("X", agree(lost, plain, ((TINY, 5, 7),), 9)[1])

    def test_zeros_are_alike(self):
        plain = (1, (), steps(("convert", 0), form=TINY))
        other = (1, (), steps(("minus", 0), form=TINY))
        self.assertEqual(agree(plain, other, ((TINY, -1, 0),), 1), ("holds", "S"))
        self.assertEqual(agree(plain, other, ((TINY, -1, 1),), 400), ("fails", (1,)))
        self.assertEqual(agree(plain, other, ((TINY, -2, 0),), 400), ("fails", (-2,)))

    def test_s_goes_before_x_and_may_be_left_out(self):
        box = ((TINY, 3, 3), (TINY, 1, 1))
        self.assertEqual(agree(SUM, SWAPPED, box, 1), ("holds", "S"))
        for letters in ("S", "X", "P"):
            self.assertIs(tree_holds(SUM, SWAPPED, box, letters), True)
        self.assertIs(tree_holds(SUM, SWAPPED, box, "C"), False)
        for letters in ("X", "CXX", "CCSSX", "CXCPP", "CCPPCSX"):
            self.assertIs(tree_holds(SUM, SWAPPED, BOX, letters), True)
        for letters in ("S", "P", "C", "CX", "CXXX", "CSX", "CCPPCSXS", "CXP", "x", "XX", ""):
            self.assertIs(tree_holds(SUM, SWAPPED, BOX, letters), False)

    def test_least_failing_point(self):
        less = (2, (), (("sub", (0, 1), TINY, "even"),))
        for box, seats in [(BOX, (1, 1)), (((TINY, 1, 2), (TINY, -2, 1)), (1, -2)), (((TINY, 1, 7), (TINY, -1, 3)), (1, 1)),
                    (((TINY, -8, 7), (TINY, 0, 2)), (-8, 2))]:
            self.assertEqual(agree(SUM, less, box, 400), ("fails", seats))

    def test_limits(self):
        # Looking at each box counts, also at the one that fails.
        less = (2, (), (("sub", (0, 1), TINY, "even"),))
        self.assertEqual(agree(SUM, less, BOX, 3), ("fails", (1, 1)))
        for limit in (1, 2):
            self.assertEqual(assert_refused(self, TooMany, agree, SUM, less, BOX, limit).limit, limit)
        # A step that is wild everywhere, so that each point is looked at by itself: 2N - 1 boxes.
        lost = (1, (ZERO,), steps(("mul", 0, 1), ("div", 2, 2), form=TINY))
        for count in (1, 2, 3, 5, 6):
            box = ((TINY, 1, count),)
            self.assertEqual(len(agree(lost, lost, box, 2 * count - 1)[1]), 2 * count - 1)
            if count > 1:
                assert_refused(self, TooMany, agree, lost, lost, box, 2 * count - 2)
        form = (53, -100, 100)
        lost = (1, (ZERO,), steps(("mul", 0, 1), ("div", 2, 2), form=form))
        self.assertEqual(len(agree(lost, lost, ((form, 1, 200),), 400)[1]), 399)
        assert_refused(self, TooMany, agree, lost, lost, ((form, 1, 200),), 398)
        assert_refused(self, TooMany, agree, lost, lost, ((form, 1, 201),), 400)
        assert_refused(self, TooMany, agree, lost, lost, ((form, 1, 1 << 40),), 400)

    def test_great_boxes(self):
        # (x + y) * (x - y) is x*x - y*y exactly, where both have room.
        inner = (24, -149, 104)
        box = ((inner, 126 << 23, (126 << 23) + (1 << 20) - 1),) * 2
        first = (2, (), steps(("add", 0, 1), ("sub", 0, 1), ("mul", 2, 3), form=WIDE))
        second = (2, (), steps(("mul", 0, 0), ("mul", 1, 1), ("sub", 2, 3), form=WIDE))
        self.assertEqual(agree(first, second, box, 1), ("holds", "X"))
        self.assertIs(tree_holds(first, second, box, "X"), True)
        third = (2, (), steps(("mul", 0, 0), ("mul", 1, 1), ("sub", 2, 3), form=inner))
        told = agree(first, third, box, 400)
        self.assertEqual(told[0], "fails")
        xs = point_numbers(box, told[1])
        self.assertFalse(alike(run_program(first, xs)[0][-1], run_program(third, xs)[0][-1]))


class TestWithin(Checker):
    def test_against_all_points(self):
        picker = random.Random(49)
        numbers = [at_seat(TINY, k) for k in range(-8, 8)] + [(0, 5, -1), (1, 9, -2), (0, 1, 300), (1, 1, 300)]
        kinds = []
        while len(kinds) < 300:
            inputs = picker.randint(1, 3)
            program = some_program(picker, inputs, picker.randint(1, 4))
            box = some_box(picker, inputs, 5)
            low, high = picker.choice(numbers), picker.choice(numbers)
            if points(box) <= 40 and total(low, high) <= 0:
                kinds.append(self.check(Bounds(program, low, high), within, within_holds, (program, box, low, high), box, picker))
        self.assertGreater(min(kinds.count("holds"), kinds.count("fails")), 40)

    def test_told(self):
        plain = (1, (), steps(("convert", 0), form=TINY))
        self.assertEqual(within(plain, ((TINY, 1, 4),), ONE, FOUR, 1), ("holds", "S"))
        self.assertEqual(within(plain, ((TINY, 0, 4),), ZERO, FOUR, 1), ("holds", "S"))
        # -0 lies below +0, and NaN and infinities within nothing.
        self.assertEqual(within(plain, ((TINY, -1, 4),), ZERO, FOUR, 9), ("fails", (-1,)))
        self.assertEqual(within(plain, ((TINY, -1, 4),), MINUS_ZERO, FOUR, 9), ("holds", "S"))
        self.assertEqual(within(plain, ((TINY, -1, 0),), MINUS_ZERO, MINUS_ZERO, 9), ("fails", (0,)))
        self.assertEqual(within(plain, ((TINY, -1, -1),), MINUS_ZERO, MINUS_ZERO, 9), ("holds", "S"))
        for told in [steps(("div", 1, 1), form=TINY), steps(("div", 2, 1), form=TINY)]:
            program = (1, (ZERO, ONE), told)
            self.assertEqual(within(program, ((TINY, 1, 1),), (1, 1, 2000), (0, 1, 2000), 1), ("fails", (1,)))
        self.assertEqual(within(plain, ((TINY, 1, 7),), ONE, FOUR, 400), ("fails", (5,)))
        self.assertEqual(within(plain, ((TINY, 3, 3),), (0, 3, 0), (0, 3, 0), 1), ("holds", "S"))

    def test_letters_without_x(self):
        plain = (1, (), steps(("convert", 0), form=TINY))
        args = (plain, ((TINY, 1, 2),), ONE, FOUR)
        for letters in ("S", "CSS", "CPP", "CPS", "CSP"):
            self.assertIs(within_holds(*args, letters), True)
        for letters in ("X", "CXX", "CSX", "P", "SS", "C", "CS", "CSSS", ""):
            self.assertIs(within_holds(*args, letters), False)


class TestRefusals(unittest.TestCase):
    def test_no_text(self):
        for wrong in (None, True, 0, ["X"], ("X",), ["S"], (), [], b"X"[0]):
            self.assertIs(tree_holds(SUM, SWAPPED, BOX, wrong), False)
            self.assertIs(within_holds(SUM, BOX, ONE, FOUR, wrong), False)
        self.assertIs(tree_holds(SUM, SWAPPED, BOX, "C" * 2000), False)
        self.assertIs(within_holds(SUM, BOX, ONE, FOUR, "C" * 2000), False)

    def test_agree(self):
        for call, last in [(agree, 5), (tree_holds, "X")]:
            assert_refused(self, BadProgram, call, None, None, None, None)
            self.assertEqual(refusal(call, SUM, (2, (), (None,)), None, None).at, 0)
            self.assertEqual(refusal(call, (2, (), SUM[2] + (None,)), (2, (), (None,)), None, None).at, 1)
            for box in (None, True, (), BOX[:1], BOX + BOX[:1], [BOX[0], BOX[1]], ((TINY, 2, 1), BOX[0])):
                assert_refused(self, BadBox, call, SUM, SWAPPED, box, None)
            one = (1, (), (("add", (0, 0), TINY, "even"),))
            assert_refused(self, NotAsked, call, SUM, one, BOX, last)
            assert_refused(self, NotAsked, call, one, SUM, BOX[:1], last)
            assert_refused(self, BadBox, call, SUM, one, BOX[:1], last)
            assert_refused(self, BadBox, call, one, SUM, BOX, last)
        for limit in (0, 401, -1, True, None, "1"):
            assert_refused(self, BadCount, agree, SUM, (1, (), (("add", (0, 0), TINY, "even"),)), BOX, limit)
        # NotAsked goes before a paper that is no text.
        assert_refused(self, NotAsked, tree_holds, SUM, (1, (), (("add", (0, 0), TINY, "even"),)), BOX, None)

    def test_within(self):
        for call, last in [(within, 5), (within_holds, "S")]:
            assert_refused(self, BadProgram, call, None, None, None, None, None)
            for box in (None, True, (), BOX[:1], BOX + BOX[:1]):
                assert_refused(self, BadBox, call, SUM, box, None, None, None)
            for wrong in (None, True, 1, (0, 2, 0), [0, 1, 0]):
                assert_refused(self, BadNumber, call, SUM, BOX, wrong, None, None)
                assert_refused(self, BadNumber, call, SUM, BOX, NAN, wrong, None)
            for low, high in [(INF, INF), (MINUS_INF, ONE), (ONE, INF), (NAN, NAN), (ONE, NAN), (NAN, ONE), (FOUR, ONE), (ZERO,
                        MINUS_ZERO), (ONE, MINUS_ZERO)]:
                assert_refused(self, NotAsked, call, SUM, BOX, low, high, last)
                if call is within:
                    assert_refused(self, BadCount, call, SUM, BOX, low, high, 401)
                else:
                    assert_refused(self, NotAsked, call, SUM, BOX, low, high, None)
        for limit in (0, 401, -1, True, None, "1"):
            assert_refused(self, BadCount, within, SUM, BOX, ONE, FOUR, limit)

    def test_limits_of_boxes(self):
        n = many(TINY)
        for limit in (1, 400):
            self.assertEqual(agree(SUM, SUM, ((TINY, n, n), (TINY, 1, 1)), limit)[0], "holds")
        self.assertEqual(len(list(product(range(2), range(2)))), points(BOX))
