"""Points [2], [3] and [4] for every function: each wrong kind of argument, and which of several errors goes first."""

import copy
import inspect
import unittest
from itertools import combinations

from everyrounding import agree, asks, chains, cuts, decread, decwrite, doors, errors, families, floorsums, formats, gaps, judges, longsum
from everyrounding import order, places, plans, polys, products, programs, ranges, residues, rests, rounding, script, seats, shortest
from everyrounding import spandeeds, spanpapers, spans, splits, standins, stations, sums, table, through, trips, values
from everyrounding.errors import Refused, TooMany
from tests.oracle import assert_refused

FORM = (2, 0, 1)
SPAN = ((0, 1, 0), (0, 1, 1))
STEP = ("add", (0, 0), FORM, "even")
JUNK = [None, True, False, "x?", [], [1], (), (1,), ((0, 1, 0),), [(2, 0, 1)], (None, None, None), "\"", ("a", "b", "c")]
TRIPLES = [[1, 1, 1], (1, 1), (1, 1, 1, 1), (True, True, True), (False, False, False), ("1", 1, 1), (1, [1], 1)]
WRONG = {
    "form": JUNK + TRIPLES + [0, (1, 0, 1), (141, 0, 1), (2, -601, 1), (2, 0, 601), (2, 1, 0), (True, 0, 1),
                              (2, False, 1), (2, 0, True), "2:0:1"],
    "number": JUNK + TRIPLES + [0, 1, (0, 2, 0), (2, 1, 0), (-1, 1, 0), (0, 1, 2001), (0, 1, -2001), (0, 0, 1),
                                (0, -1, 1), (1, -2, 0), (0, -3, 0), (0, 1 << 600, 0), (0, (1 << 600) + 1, 0),
                                (False, 1, 0), (0, True, 0), (0, 1, False), (True, 0, 0), (0, False, 0), "1p0", "nan"],
    "mode": [None, True, 0, 1, "", "x", "Even", "nearest", ["even"], ("even",), ("even", "odd"), (1, 1, 1)],
    "exact": JUNK + [0, 1, [1, 1, 1], (1, 1), (1, 1, 1, 1), (True, 1, 1), (1, True, 1), (1, 1, True), (False, 1, 1),
                     (1, 0, 1), (1, -1, 1), (1, 1, 0), (1, 1, 3), (-1, 1, 2), (1 << 12000, 1, 1),
                     (1, 1 << 12000, 1), (-(1 << 12000), 1, 1), ("1", 1, 1)],
    "cut": [cut for cut in JUNK if cut is not None] + [0, [1, 0, 1], (1, 0), (1, 0, 0, 0), (True, 0, 0), (1, False, 0),
                                                       (1, 0, False), (1, 0, 2), (2, 0, 0), (-1, 0, 0), (0, 1, 0),
                                                       (1, 2001, 0), (1, -2001, 1), ((1 << 600) + 1, 0, 0), "NEVER"],
    "op": [None, True, 0, "", "x", "Add", "rest", ["add"], ("add",)],
    "text": [None, True, 0, ["2:0:1"], ("2:0:1",), "", "?", "?" * 701],
    "count": [None, True, False, "0", [0], (0,), (0, 1), []],
    "sign": [None, True, False, "0", [0], (0,), 2, -1],
    "five": [None, True, 0, "", "odd", "Even", ["even"], ("even",)],
    "numbers": [None, True, 0, "x", (), ((0, 1, 0),), (0, 1, 0), [1], [None], [(0, 1, 0), None], [[0, 1, 0]], [(0, 2, 0)],
                [(0, True, 0)], [(False, 1, 0)], [(0, 1, 0)] * 201, [[(0, 1, 0)]]],
    "chain": JUNK + [0, "even", [(FORM, "even")], (FORM, "even"), ((FORM, "even"),) * 7, ((FORM, "x"),), ((FORM, True),),
                     ([FORM, "even"],), ((FORM, "even", 1),), (("even", FORM),), (((1, 0, 1), "even"),),
                     (((True, 0, 1), "even"),), (((2, False, 1), "even"),), ((FORM, "even"), None)],
    "series": JUNK + [0, [1, 1, 1, 1, 2], (1, 1, 1, 1), (1, 1, 1, 1, 2, 3), (1, 0, 1, 1, 2), (1, 1, 0, 1, 2), (1, 1, 1, 2, 1),
                      (0, 1, 1, 0, 1), (-1, 1, 1, 1, 2), (True, 1, 1, 1, 2), (1, True, 1, 1, 2), (1, 1, True, 1, 2),
                      (1, 1, 1, True, 2), (1, 1, 1, 1, True), (1, 1, 1, False, 2), ("1", 1, 1, 1, 2),
                      (1 << 3000, 1, 1, 1, 2), (1, 1 << 3000, 1, 1, 2), (1, 1, 1 << 3000, 1, 2), (1, 1, 1, 1, 1 << 140)],
    "family": JUNK + [0, [(1, 1, 1, 1, 2)], (1, 1, 1, 1, 2), ((1, 1, 1, 1, 2),) * 65, ((1, 1, 1, 1, 2), None),
                      ((1, 1, 1, 2, 1),), ([1, 1, 1, 1, 2],), ((1, True, 1, 1, 2),), ((1, 1, 1, 1, True),)],
    "near": [None, True, 0, "", "odd", "zero", "up", "down", "Even", ["even"], ("even",)],
    "span": [value for value in JUNK if value != ((0, 1, 0),)] + [0, ((0, 1, 0),), [(0, 1, 0), (0, 1, 1)], ((0, 1, 1), (0, 1, 0)),
                ((1, 0, 0), (0, 1, 0)),
                    ((0, 1, 0), (1, 0, 0)), ((0, 1, 0), (0, -2, 0)), ((0, -1, 0), (0, -1, 0)), ((0, 2, 0), (0, 2, 0)), ((0, 1, 0),
                                (0, True, 0)),
                    ((False, 1, 0), (0, 1, 0)), ((0, 1, 0),) * 3],
    "spans": [None, True, 0, "x", (), (SPAN,), SPAN, [None], [SPAN, None], [SPAN] * 65, [((0, 1, 1), (0, 1, 0))], [[(0, 1, 0), (0, 1, 1)]],
              [((1, 0, 0), (0, 1, 0))], [SPAN, ((0, 1, 0), (0, True, 0))], [SPAN] * 4, []],
    "program": JUNK + [0, [1, (), ()], (0, (), (STEP,)), (5, (), (STEP,)), (1, [], (STEP,)), (1, (), [STEP]), (1, (), ()), (1, ((0,
                -1, 0),), (STEP,)),
                       (1, (), (STEP,) * 13), (True, (), (STEP,)), (1, (), (("add", (0, 1), FORM, "even"),)), (1, (), (("add", (0,
                                   -1), FORM, "even"),)),
                       (1, (), (("add", (0, False), FORM, "even"),)), (1, (), (("rest", (0, 0), FORM, "even"),)), (1, ((False, 0,
                                   0),), (STEP,)),
                       (1, (), (STEP, ("add", (0, 0), FORM, "x")))],
    "box": JUNK + [0, [(FORM, 1, 2)], (FORM, 1, 2), ((FORM, 2, 1),), ((FORM, 0, 6),), ((FORM, -7, 0),), ((FORM, True, 2),), ((FORM,
                0, True),),
                   ([FORM, 0, 1],), ((None, 0, 1),), ((FORM, 0, 1),) * 5, (((2, False, 1), 0, 1),), (((53, 0, 50), 1, (1 << 40) + 1),)],
    "seats": [None, True, 0, "1", (), (1,), (1, 1, 1), [1, 1], (1, True), (1, None), (0, 1), (1, 3), (1, "1")],
    "question": JUNK + [0, "table", ("table",), ["table", FORM, "even", FORM, "even"], ("Table", FORM, "even", FORM, "even"),
                        ("table", FORM, "even", FORM), ("table", FORM, "even", FORM, "even", 1), ("house", ()), (True, FORM, "even",
                                    FORM, "even")],
    "lines": [None, True, 0, "x", (), ("x",), [None], ["x", 1], ["x" * 701]],
    "paper": [],
}
ERROR = {"form": "BadFormat", "number": "BadNumber", "mode": "BadMode", "exact": "BadExact", "cut": "BadCut", "op": "BadOp",
         "text": "BadText", "count": "BadCount", "sign": "BadCount", "five": "BadMode", "numbers": "BadNumber",
         "chain": "BadChain", "series": "BadFamily", "family": "BadFamily", "near": "BadMode", "span": "BadSpan", "spans": "BadSpan",
         "program": "BadProgram", "box": "BadBox", "seats": "BadBox", "question": "NotAsked", "lines": "BadText"}
X, Y, Z = ("number", (0, 3, 1)), ("number", (0, 1, 0)), ("number", (1, 1, 1))
F, E, C = ("form", FORM), ("exact", (1, 1, 1)), ("cut", (1, 0, 0))
D = ("cut", (3, 0, 1))
MODE = {"mode": ("mode", "even")}
FIVE_EVEN = ("five", "even")
FIVE = {"five": ("five", "even")}
TEXT = ("text", "6")
XS, YS = ("numbers", [(0, 1, 0), (0, 3, 0)]), ("numbers", [(1, 1, 1), (0, 0, 0)])
CHAIN, FINER = ("chain", ((FORM, "up"),)), ("chain", (((3, -1, 1), "up"), (FORM, "up")))
SERIES, FAMILY = ("series", (1, 1, 1, 1, 2)), ("family", ((1, 1, 1, 1, 2), (0, 1, 3, 1, 1)))
PAPER = ("paper", [1])
NEAR, S, STEPS = ("near", "even"), ("span", SPAN), ("program", (2, (), (("add", (0, 1), FORM, "up"), ("mul", (1, 2), FORM, "even"))))
ONE_STEP = ("program", (1, ((1, 0, 0),), (STEP,)))
BOX, ONE_BOX = ("box", ((FORM, 1, 2), (FORM, 0, 1))), ("box", ((FORM, -1, 1),))
QUESTION = ("question", ("door", "add", "even", 3, 4))
TRIP = {"writer": FIVE_EVEN, "reader": FIVE_EVEN}


def counts(*told):
    return [("count", value) for value in told]


RESIDUES = counts(3, 1, 5, 1, 2, 0, 9)


def step(*numbers):
    return ([F] + list(numbers), MODE)


# For each function its arguments by position, then those by name in the order of the signature: kind and right value.
CALLS = [
    (formats.check_format, [F], {}), (formats.over_power, [F], {}), (formats.many, [F], {}), (formats.greatest, [F], {}),
    (formats.least, [F], {}), (formats.line, [F], {}), (formats.unit_power, [F, ("count", 1)], {}),
    (formats.holds_all, [F, F], {}), (formats.reaches, [F, F], {}), (formats.finer_by, [F, F], {}),
    (formats.format_text, [F], {}), (formats.read_format, [("text", "2:0:1")], {}),
    (values.check_number, [X], {}), (values.kind_of, [X], {}), (values.minus, [X], {}), (values.size, [X], {}),
    (values.alike, [X, Y], {}), (values.exact_of, [X], {}), (values.fits, [F, X], {}), (values.digits, [X], {}),
    (values.top_power, [X], {}), (values.show, [X], {}), (values.read_number, [("text", "1p1")], {}),
    (seats.rank, [F, X], {}), (seats.at_rank, [F, ("count", 1)], {}), (seats.seat, [F, X], {}),
    (seats.at_seat, [F, ("count", 1)], {}), (seats.bits, [F, X], {}), (seats.from_bits, [F, ("text", "0001")], {}),
    (seats.next_up, [F, X], {}), (seats.next_down, [F, X], {}), (seats.between, [F, Y, X], {}),
    (places.check_exact, [E], {}), (places.sign_of, [E], {}), (places.high_power, [E], {}),
    (places.place, [E, ("count", 1)], {}), (places.compare_exact, [E, E], {}),
    (rounding.check_mode, [("mode", "up")], {}), (rounding.mirror, [("mode", "up")], {}),
    (rounding.choose, [("mode", "even"), ("sign", 1), ("count", 1), ("count", 1)], {}),
    (rounding.rounded, [F, E], {"mode": ("mode", "even"), "s": ("sign", 1)}),
    (rounding.early_tiny, [F, E], {}), (rounding.late_tiny, [F, E], MODE),
    (cuts.check_cut, [C], {}), (cuts.cut_at, [F, ("count", 1)], MODE), (cuts.is_above, [E, C], {}),
    (cuts.cut_less, [C, D], {}), (cuts.cell, [F, Y], MODE), (cuts.inner_point, [C, D], {}),
    (sums.add, *step(X, Y)), (sums.sub, *step(X, Y)), (sums.muladd, *step(X, Y, Z)), (sums.exact_sum, [X, Y], {}),
    (products.mul, *step(X, Y)), (products.div, *step(X, Y)), (products.root, *step(X)),
    (products.exact_product, [X, Y], {}), (products.exact_quotient, [X, Y], {}),
    (rests.rest, [X, Y], {}), (rests.cut_rest, [X, Y], {}), (rests.whole, [X], MODE), (rests.convert, *step(X)),
    (rests.scale, [F, X, ("count", 1)], MODE),
    (order.compare, [X, Y], {}), (order.total, [X, Y], {}), (order.least_of, [X, Y], {}), (order.greatest_of, [X, Y], {}),
    (order.difference_exact, [F, X, Y], {}), (order.ratio_bound, [F], {}),
    (order.difference_question, [F, ("count", 1), ("count", 1)], {}),
    (stations.operands, [("op", "root")], {}), (stations.deed, [("op", "add"), F, X, Y], MODE),
    (stations.deed, [("op", "muladd"), F, X, Y, Z], MODE), (stations.deed, [("op", "size"), F, X], MODE),
    (stations.Station, [F], MODE),
    (seats.Grid, [F], {"low_seat": ("count", 0), "high_seat": ("count", 1)}),
    (decread.read_decimal, [TEXT], {}), (decread.read, [F, TEXT], MODE), (decwrite.exact_text, [X], {}),
    (decwrite.figures_text, [X, ("count", 2)], FIVE), (decwrite.fixed_text, [X, ("count", 1)], FIVE),
    (shortest.shortest, [F, X], FIVE), (shortest.reads_back, [F, TEXT, X], FIVE), (shortest.figures_of, [TEXT], {}),
    (longsum.sum_of, [F, XS], MODE), (longsum.dot, [F, XS, YS], MODE),
    (plans.left_plan, counts(3), {}), (plans.all_plans, counts(3), {}), (plans.answers, [F, XS], MODE),
    (plans.order_question, [F] + counts(3, 1, 0), MODE),
    (splits.fast_two, *step(X, Y)), (splits.six_two, *step(X, Y)), (splits.two_product, *step(X, Y)),
    (splits.sum_pass, *step(XS)), (splits.distill, *step(XS)), (splits.rest_of, [("op", "add"), F, X, Y], MODE),
    (splits.split_question, [("op", "mul"), F], MODE),
    (chains.check_chain, [CHAIN], {}), (chains.fair, [CHAIN], {}), (chains.mirror_chain, [CHAIN], {}),
    (chains.run_chain, [CHAIN, E], {}), (chains.pulled_cut, [CHAIN, ("count", 1)], {}),
    (chains.passes, [CHAIN, ("count", 1), E], {}),
    (gaps.low_gap, [CHAIN, FINER], {}), (gaps.gaps_at, [CHAIN, FINER, ("count", 1)], {}), (gaps.last_gaps, [CHAIN, FINER], {}),
    (gaps.gap_empty, [C, D], {}), (gaps.gap_of, [CHAIN, FINER, E], {}), (gaps.house_question, [CHAIN, FINER], {}),
    (table.table_holds, [F, ("five", "up"), F, ("mode", "up")], {}),
    (table.table_question, [F, ("five", "up"), F, ("mode", "up")], {}),
    (floorsums.floor_sum, counts(6, 5, 3, 1), {}), (floorsums.floor_rows, counts(6, 5, 3, 1), {}),
    (floorsums.rows_hold, [PAPER], {}),
    (residues.count_residues, RESIDUES, {}), (residues.first_residue, RESIDUES, {}), (residues.residue_rows, RESIDUES, {}),
    (residues.residues_none, [PAPER] + RESIDUES, {}),
    (residues.round_parts, [("mode", "even")] + counts(1, 1, 1, 1, 1), {}),
    (residues.round_sum, [("mode", "even")] + counts(1, 1, 1, 1, 1), {}),
    (families.check_series, [SERIES], {}), (families.check_family, [FAMILY], {}), (families.family_size, [FAMILY], {}),
    (families.member, [SERIES, ("count", 1)], {}), (families.first_from, [SERIES] + counts(1, 1), {}),
    (families.numbers_family, [F] + counts(1, 1), {}), (families.times, [FAMILY] + counts(1, 1), {}),
    (families.shifted, [FAMILY] + counts(1, 1), {}), (families.texts_family, counts(1, 1, 1), {}),
    (through.pieces, [CHAIN, FINER, FAMILY], {}), (through.count_through, [CHAIN, FINER, FAMILY], {}),
    (through.through_question, [CHAIN, FINER, FAMILY], {}), (through.through_paper_holds, [CHAIN, FINER, FAMILY, PAPER], {}),
    (standins.rank_parts, [F, SERIES], MODE), (standins.rank_sum, [F, SERIES], MODE), (standins.standin_total, [F, SERIES, SERIES], MODE),
    (standins.standin_question, [F, SERIES, SERIES], MODE), (standins.standin_paper_holds, [F, SERIES, SERIES, PAPER], MODE),
    (standins.division_pair, [F, ("count", 2), ("form", (2, -4, 1))] + counts(1, 5), MODE),
    (doors.threshold, [("op", "add"), ("count", 3)], {}), (doors.door_holds, [("op", "mul"), NEAR] + counts(4, 5), {}),
    (doors.door_question, [("op", "root"), NEAR] + counts(4, 5), {}), (doors.room, [("op", "add"), NEAR, ("form", (2, -3, 3))], {}),
    (doors.both_ways, [("op", "add"), F, F, X, Y], MODE), (doors.sumdoor_holds, [F, F, FIVE_EVEN], {}),
    (doors.sumdoor_question, [F, ("form", (3, 0, 1)), FIVE_EVEN], {}),
    (trips.trip, [F, ("count", 1), X], TRIP), (trips.trip_pieces, [F] + counts(2, 1, 5), TRIP), (trips.trip_count, [F] + counts(1,
                1, 5), TRIP),
    (trips.trip_question, [F] + counts(2, 1, 5), TRIP), (trips.trip_paper_holds, [F] + counts(2, 1, 5) + [PAPER], TRIP),
    (trips.enough_figures, counts(2), {}), (trips.least_figures, [F] + counts(1, 5), {"near": NEAR, "near2": ("near", "away")}),
    (spans.check_span, [S], {}), (spans.span_of, [F, Y, X], {}), (spans.point_span, [F, X], {}), (spans.holds_exact, [S, E], {}),
    (spans.holds_span, [S, S], {}), (spans.hull, [S, S], {}), (spans.meet, [S, S], {}), (spans.width, [F, S], {}), (spans.halves,
                [F, S], {}),
    (spandeeds.span_add, [F, S, S], {}), (spandeeds.span_sub, [F, S, S], {}), (spandeeds.span_mul, [F, S, S],
                {}), (spandeeds.span_div, [F, S, S], {}),
    (spandeeds.span_least, [F, S, S], {}), (spandeeds.span_greatest, [F, S, S], {}), (spandeeds.span_muladd, [F, S, S, S], {}),
    (spandeeds.span_minus, [F, S], {}), (spandeeds.span_size, [F, S], {}), (spandeeds.span_square, [F, S],
                {}), (spandeeds.span_convert, [F, S], {}),
    (spandeeds.span_root, [F, S], {}), (spandeeds.span_text, [F, TEXT], {}), (spandeeds.span_sum, [F, ("some spans", [SPAN, SPAN])], {}),
    (polys.Poly.variable, counts(2, 1), {}),
    (programs.check_program, [STEPS], {}), (programs.run_program, [STEPS, XS], {}), (programs.exact_program, [STEPS, XS], {}),
    (programs.polynomial, [STEPS], {}),
    (spanpapers.step_span, [("op", "add"), F, ("spans", [SPAN, SPAN])], {}), (spanpapers.run_spans, [STEPS, ("spans", [SPAN, SPAN])], {}),
    (spanpapers.spans_paper_holds, [STEPS, ("spans", [SPAN, SPAN]), PAPER], {}), (spanpapers.pieces_hull, [STEPS, F, ("spans",
                [SPAN, SPAN]), ("count", 2)], {}),
    (ranges.check_box, [BOX], {}), (ranges.points, [BOX], {}), (ranges.point_numbers, [BOX, ("seats", (1, 1))], {}),
    (ranges.ranges, [STEPS, BOX], {}), (ranges.grids, [ONE_STEP, ONE_BOX], {}),
    (agree.agree, [STEPS, STEPS, BOX, ("count", 9)], {}), (agree.within, [ONE_STEP, ONE_BOX, Z, X, ("count", 9)], {}),
    (agree.tree_holds, [STEPS, STEPS, BOX, PAPER], {}), (agree.within_holds, [ONE_STEP, ONE_BOX, Z, X, PAPER], {}),
    (asks.ask, [QUESTION], {}), (asks.check_question, [QUESTION], {}), (judges.judge, [QUESTION, PAPER], {}),
    (script.run_script, [("lines", ["let x 1p0", "show x"])], {}),
]
# A list of spans that may have any length.
WRONG["some spans"] = [value for value in WRONG["spans"] if value != [] and value != [SPAN] * 4]
ERROR["some spans"] = "BadSpan"


def wrong_values(call, kind):
    """The wrong values of this kind; None is a right seat of a Grid."""
    return [value for value in WRONG[kind] if not (call is seats.Grid and kind == "count" and value is None)]


def slots(positions, named):
    """The places of all arguments that can be wrong, in the order of the signature."""
    return [at for at, (kind, _) in enumerate(positions) if kind != "paper"] + list(named)


def told(result):
    """What a result can be compared by."""
    if isinstance(result, seats.Grid):
        return (list(result), len(result), result.form, result.low_seat, result.high_seat)
    if isinstance(result, stations.Station):
        return (result.form, result.mode, result.flags, result.many)
    if isinstance(result, polys.Poly):
        return (result.variables, list(result))
    return result


def run(call, positions, named, changed):
    """Call with the right values, but for those that are changed."""
    args = [changed.get(at, value) for at, (_, value) in enumerate(positions)]
    return call(*args, **{name: changed.get(name, value) for name, (_, value) in named.items()})


class TestSignatures(unittest.TestCase):
    def test_modes_after_the_star_default_to_even(self):
        for call, positions, named in CALLS:
            parameters = inspect.signature(call).parameters.values()
            only_named = [p.name for p in parameters if p.kind == p.KEYWORD_ONLY]
            self.assertEqual(only_named, list(named), call)
            for p in parameters:
                if p.name in ("mode", "five") and p.kind == p.KEYWORD_ONLY:
                    self.assertEqual(p.default, "even")

    def test_every_function_is_defined_in_its_file(self):
        for call, _, _ in CALLS:
            self.assertEqual(getattr(inspect.getmodule(call), call.__qualname__.split(".")[0]).__module__, inspect.getmodule(call).__name__)

    def test_methods_stand_in_the_class_itself(self):
        for name in ("do", "under", "forget", "twin", "form", "mode", "flags", "many"):
            self.assertIn(name, vars(stations.Station))
        for name in ("form", "low_seat", "high_seat", "__iter__", "__len__", "__contains__"):
            self.assertIn(name, vars(seats.Grid))


class TestWrongArguments(unittest.TestCase):
    def slot_kinds(self, positions, named):
        return {**dict(enumerate(kind for kind, _ in positions)), **{name: kind for name, (kind, _) in named.items()}}

    def test_each_alone(self):
        for call, positions, named in CALLS:
            kinds = self.slot_kinds(positions, named)
            right = told(run(call, positions, named, {}))
            for slot in slots(positions, named):
                for value in wrong_values(call, kinds[slot]):
                    error = getattr(errors, ERROR[kinds[slot]])
                    assert_refused(self, error, self.caller(call, positions, named, {slot: value}))
                # The same answer again behind the refused calls.
                self.assertEqual(told(run(call, positions, named, {})), right)

    def test_two_and_three_at_once(self):
        for call, positions, named in CALLS:
            kinds = self.slot_kinds(positions, named)
            for many in (2, 3):
                for chosen in combinations(slots(positions, named), many):
                    error = getattr(errors, ERROR[kinds[chosen[0]]])
                    for turn in range(12):
                        found = [wrong_values(call, kinds[slot]) for slot in chosen]
                        changed = {slot: xs[(7 * turn + at) % len(xs)] for at, (slot, xs) in enumerate(zip(chosen, found))}
                        assert_refused(self, error, self.caller(call, positions, named, changed))

    def caller(self, call, positions, named, changed):
        def made():
            return run(call, positions, named, changed)
        made.__name__ = f"{call.__name__} {changed}"
        return made

    def test_named_arguments_in_any_order(self):
        # The order of the signature decides, not the order in which the names stand in the call.
        assert_refused(self, errors.BadMode, rounding.rounded, FORM, (1, 1, 1), s=9, mode="x")
        assert_refused(self, errors.BadCount, seats.Grid, FORM, high_seat=None, low_seat=99)
        assert_refused(self, errors.BadFormat, seats.Grid, None, high_seat=True, low_seat=True)

    def test_all_conditions_of_a_parameter_go_before_the_next_one(self):
        five = (0, 5, 0)
        assert_refused(self, errors.BadNumber, cuts.cell, FORM, five, mode=None)
        assert_refused(self, errors.BadExact, cuts.is_above, (-1, 1, 1), True)
        assert_refused(self, errors.BadExact, places.place, (1, 0, 1), True)
        assert_refused(self, errors.BadCount, cuts.cut_at, FORM, 99, mode=None)
        assert_refused(self, errors.BadCount, order.difference_question, FORM, 1, 0)
        assert_refused(self, errors.BadNumber, stations.deed, "add", FORM, five, mode=None)
        assert_refused(self, errors.BadCut, cuts.inner_point, (1, 0, 0), (1, 0, 0))

    def test_passed_lists_and_results_are_apart(self):
        grid = seats.Grid(FORM)
        first = list(grid)
        first.append(None)
        self.assertEqual(list(grid), list(seats.Grid(FORM)))

    def test_every_error_is_a_refusal(self):
        self.assertEqual(TooMany.__mro__[1], Refused)
        self.assertEqual(Refused.__mro__[1], ValueError)


def lists_in(value):
    """All lists within a value, by their identity."""
    found = [id(value)] if type(value) is list else []
    for part in value if type(value) in (list, tuple) else ():
        found += lists_in(part)
    return found


class TestWholeProgram(unittest.TestCase):
    """Point [1]: arguments stay as they are, returned lists are new, equal calls give equal results."""

    def test_arguments_results_and_lists(self):
        for call, positions, named in CALLS:
            values_told = {**dict(enumerate(value for _, value in positions)), **{name: value for name, (_, value) in named.items()}}
            kept = copy.deepcopy(values_told)
            first = run(call, positions, named, {})
            second = run(call, positions, named, {})
            self.assertEqual(told(first), told(second))
            self.assertEqual(values_told, kept, call)
            passed = [at for value in values_told.values() for at in lists_in(value)]
            self.assertFalse(set(lists_in(first)) & set(lists_in(second) + passed), call)
            # A list that was changed afterwards changes no later answer.
            right = copy.deepcopy(told(first))
            if type(first) is list:
                first.append(None)
            self.assertEqual(told(run(call, positions, named, {})), right)

    def test_every_module_is_called(self):
        called = {inspect.getmodule(call) for call, _, _ in CALLS}
        self.assertFalse({agree, asks, doors, judges, polys, programs, ranges, script, spandeeds, spanpapers, spans, standins,
                    trips} - called)


class TestTrueForOne(unittest.TestCase):
    """True equals 1 for Python: a memory of earlier answers must not take it for 1."""

    def swapped(self, value):
        """The value with one 0 or 1 after another made False or True."""
        if type(value) is int and value in (0, 1):
            return [bool(value)]
        if type(value) is tuple:
            return [value[:at] + (part,) + value[at + 1:] for at, old in enumerate(value) for part in self.swapped(old)]
        if type(value) is list:
            return [list(told) for told in self.swapped(tuple(value))]
        return []

    def test_between_equal_right_calls(self):
        for call, positions, named in CALLS:
            values_told = {**dict(enumerate(positions)), **named}
            right = told(run(call, positions, named, {}))
            for slot, (kind, value) in values_told.items():
                # A question of a right shape with a wrong member raises the error of its function.
                if kind in ("paper", "question"):
                    continue
                for wrong in self.swapped(value):
                    with self.assertRaises(getattr(errors, ERROR[kind])) as caught:
                        run(call, positions, named, {slot: wrong})
                    self.assertIs(type(caught.exception), getattr(errors, ERROR[kind]))
                    self.assertEqual(told(run(call, positions, named, {})), right)
