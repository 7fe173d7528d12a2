import unittest

from everyrounding.errors import BadFormat, BadMode, BadNumber, BadOp, Refused
from everyrounding.products import div, mul, root
from everyrounding.rests import convert
from everyrounding.stations import Station, deed, operands
from everyrounding.sums import add, muladd, sub
from everyrounding.values import minus, size
from tests.oracle import INF, MINUS_INF, MINUS_ZERO, MODES, NAN, SPECIALS, ZERO, assert_refused

FORM = (2, 0, 2)
COUNTS = {"add": 2, "sub": 2, "mul": 2, "div": 2, "muladd": 3, "root": 1, "convert": 1, "minus": 1, "size": 1}
WRONG_OPS = ["", "Add", "fma", "neg", "rest", None, True, 0, ["add"], ("add",), ("add", "sub")]
NUMBERS = list(SPECIALS) + [(0, 1, 0), (1, 3, 1), (0, 3, 2), (0, 5, -3), (1, 1, -2000)]
OVERFLOW = ("overflow", "inexact")


def state(station):
    return (station.form, station.mode, station.flags, station.many)


class TestOperands(unittest.TestCase):
    def test_counts(self):
        for op, many in COUNTS.items():
            self.assertEqual(operands(op), many)
        for op in WRONG_OPS:
            assert_refused(self, BadOp, operands, op)
            assert_refused(self, BadOp, deed, op, FORM, ZERO, ZERO)


class TestDeed(unittest.TestCase):
    def test_one_operand(self):
        for x in NUMBERS:
            for mode in MODES:
                self.assertEqual(deed("root", FORM, x, mode=mode), root(FORM, x, mode=mode))
                self.assertEqual(deed("convert", FORM, x, mode=mode), convert(FORM, x, mode=mode))
                self.assertEqual(deed("minus", FORM, x, mode=mode), convert(FORM, minus(x), mode=mode))
                self.assertEqual(deed("size", FORM, x, mode=mode), convert(FORM, size(x), mode=mode))

    def test_more_operands(self):
        for x in NUMBERS:
            for y in NUMBERS:
                for mode in MODES:
                    for op, call in (("add", add), ("sub", sub), ("mul", mul), ("div", div)):
                        self.assertEqual(deed(op, FORM, x, y, mode=mode), call(FORM, x, y, mode=mode))
                    for z in ((0, 1, 1), (1, 1, -1), MINUS_ZERO, INF):
                        self.assertEqual(deed("muladd", FORM, x, y, z, mode=mode), muladd(FORM, x, y, z, mode=mode))

    def test_minus_and_size_round_the_changed_number(self):
        form = (2, 0, 2)
        five = (0, 5, 0)
        self.assertEqual(deed("minus", form, five, mode="down"), ((1, 3, 1), ("inexact",)))
        self.assertEqual(deed("minus", form, five, mode="up"), ((1, 1, 2), ("inexact",)))
        self.assertEqual(deed("size", form, minus(five), mode="up"), ((0, 3, 1), ("inexact",)))
        self.assertEqual(deed("minus", form, ZERO), (MINUS_ZERO, ()))
        self.assertEqual(deed("size", form, MINUS_INF), (INF, ()))
        self.assertEqual(deed("minus", form, NAN), (NAN, ()))
        self.assertEqual(deed("add", form, (0, 1, 2), (0, 1, 0)), ((0, 1, 2), ("inexact",)))

    def test_counts_of_operands(self):
        for op, many in COUNTS.items():
            for count in range(6):
                if count != many:
                    assert_refused(self, BadNumber, deed, op, FORM, *[NAN] * count)
                    assert_refused(self, BadNumber, deed, op, FORM, *[NAN] * count, mode="x")
            self.assertEqual(deed(op, FORM, *[NAN] * many), (NAN, ()))
            for at in range(many):
                for wrong in (None, (0, 2, 0), (0, True, 0), [0, 1, 0]):
                    xs = [NAN] * many
                    xs[at] = wrong
                    assert_refused(self, BadNumber, deed, op, FORM, *xs, mode=True)

    def test_order_of_checks(self):
        assert_refused(self, BadOp, deed, "x", None, None, mode=None)
        assert_refused(self, BadFormat, deed, "add", (2, False, 2), None, mode=None)
        assert_refused(self, BadFormat, deed, "add", (2, False, 2), ZERO, mode=None)
        assert_refused(self, BadNumber, deed, "add", FORM, ZERO, mode=None)
        assert_refused(self, BadMode, deed, "add", FORM, ZERO, ZERO, mode=None)


class TestStation(unittest.TestCase):
    def test_start(self):
        self.assertEqual(state(Station(FORM)), (FORM, "even", (), 0))
        self.assertEqual(state(Station(FORM, mode="odd")), (FORM, "odd", (), 0))
        assert_refused(self, BadFormat, Station, (2, False, 2), mode="x")
        assert_refused(self, BadMode, Station, FORM, mode="x")
        assert_refused(self, BadMode, Station, FORM, mode=None)

    def test_do_gives_the_number_and_joins_the_flags(self):
        station = Station(FORM)
        self.assertEqual(station.do("add", (0, 1, 0), (0, 1, 0)), (0, 1, 1))
        self.assertEqual(state(station), (FORM, "even", (), 1))
        self.assertEqual(station.do("add", (0, 1, 2), (0, 1, 0)), (0, 1, 2))
        self.assertEqual(state(station), (FORM, "even", ("inexact",), 2))
        self.assertEqual(station.do("div", (0, 1, 0), MINUS_ZERO), MINUS_INF)
        self.assertEqual(station.flags, ("divzero", "inexact"))
        self.assertEqual(station.do("root", (1, 1, 0)), NAN)
        self.assertEqual(station.flags, ("invalid", "divzero", "inexact"))
        self.assertEqual(station.do("mul", (0, 1, 3), (0, 1, 3)), INF)
        self.assertEqual(station.do("convert", (0, 1, -9)), ZERO)
        self.assertEqual(station.flags, ("invalid", "divzero", "overflow", "underflow", "inexact"))
        self.assertEqual(station.many, 6)

    def test_all_operations(self):
        for mode in MODES:
            for op, many in COUNTS.items():
                for x in NUMBERS:
                    station = Station(FORM, mode=mode)
                    told, flags = deed(op, FORM, *[x] * many, mode=mode)
                    self.assertEqual(station.do(op, *[x] * many), told)
                    self.assertEqual(state(station), (FORM, mode, flags, 1))
                    other = Station(FORM)
                    self.assertEqual(other.under(mode, op, *[x] * many), told)
                    self.assertEqual(state(other), (FORM, "even", flags, 1))

    def test_forget(self):
        station = Station(FORM, mode="up")
        station.do("convert", (0, 5, 0))
        self.assertIsNone(station.forget())
        self.assertEqual(state(station), (FORM, "up", (), 1))
        station.do("convert", (0, 9, 7))
        self.assertEqual(state(station), (FORM, "up", OVERFLOW, 2))

    def test_twin(self):
        station = Station(FORM, mode="down")
        station.do("convert", (0, 5, 0))
        other = station.twin()
        self.assertEqual(state(other), state(station))
        other.do("div", (0, 1, 0), ZERO)
        other.mode = "zero"
        self.assertEqual(state(station), (FORM, "down", ("inexact",), 1))
        station.forget()
        self.assertEqual(state(other), (FORM, "zero", ("divzero", "inexact"), 2))

    def test_mode_is_assigned(self):
        station = Station(FORM)
        for mode in MODES:
            station.mode = mode
            self.assertEqual(station.mode, mode)
            self.assertEqual(station.do("convert", (1, 5, 0)), convert(FORM, (1, 5, 0), mode=mode)[0])
        for mode in ("x", None, True, ["up"], ("up",)):
            with self.assertRaises(BadMode):
                station.mode = mode
            self.assertEqual(station.mode, "odd")
        self.assertEqual(station.many, 6)

    def test_under(self):
        station = Station(FORM, mode="down")
        self.assertEqual(station.under("up", "convert", (0, 5, 0)), (0, 3, 1))
        self.assertEqual(state(station), (FORM, "down", ("inexact",), 1))
        self.assertEqual(station.do("convert", (0, 5, 0)), (0, 1, 2))
        self.assertEqual(station.many, 2)

    def test_order_of_checks(self):
        station = Station(FORM)
        assert_refused(self, BadOp, station.do, "x", None)
        assert_refused(self, BadNumber, station.do, "add", ZERO)
        assert_refused(self, BadNumber, station.do, "add", ZERO, (0, True, 0))
        assert_refused(self, BadMode, station.under, "x", "x", None)
        assert_refused(self, BadOp, station.under, "up", "x", None)
        assert_refused(self, BadNumber, station.under, "up", "add", ZERO, None)
        assert_refused(self, BadNumber, station.under, "up", "root")
        self.assertEqual(state(station), (FORM, "even", (), 0))

    def test_a_refused_step_changes_nothing(self):
        station = Station(FORM, mode="up")
        station.do("convert", (0, 5, 0))
        before = state(station)
        for step in [("x", ZERO), ("add",), ("add", ZERO), ("add", ZERO, ZERO, ZERO), ("root", None), ("root", (0, 2, 0)),
                     (None,), (True, ZERO), ("div", (0, 1, 0), False)]:
            for refused in (lambda: station.do(*step), lambda: station.under("down", *step),
                            lambda: station.under("x", *step), lambda: station.under(None, *step)):
                with self.assertRaises(Refused):
                    refused()
                self.assertEqual(state(station), before)
        self.assertEqual(station.do("convert", (0, 5, 0)), (0, 3, 1))

    def test_two_stations_are_apart(self):
        first, second = Station(FORM), Station(FORM)
        first.do("convert", (0, 5, 0))
        self.assertEqual(state(second), (FORM, "even", (), 0))
