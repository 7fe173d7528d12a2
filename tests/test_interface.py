"""The names, arguments and defaults of the interface, and the files in which each name is defined."""

import importlib
import inspect
import unittest

MODE = "*, mode='even'"
FIVE = "*, five='even'"
TRIP = "*, writer='even', reader='even'"
FUNCTIONS = {
    "decread": {"read_decimal": "text", "read": f"form, text, {MODE}"},
    "decwrite": {"exact_text": "x", "figures_text": f"x, count, {FIVE}", "fixed_text": f"x, k, {FIVE}"},
    "shortest": {"shortest": f"form, x, {FIVE}", "reads_back": f"form, text, x, {FIVE}", "figures_of": "text"},
    "longsum": {"LongSum": "", "sum_of": f"form, xs, {MODE}", "dot": f"form, xs, ys, {MODE}"},
    "plans": {"check_plan": "plan, N", "left_plan": "N", "all_plans": "N", "run_plan": f"form, plan, xs, {MODE}",
              "answers": f"form, xs, {MODE}", "order_question": f"form, N, K, u, {MODE}"},
    "splits": {"fast_two": f"form, x, y, {MODE}", "six_two": f"form, x, y, {MODE}", "two_product": f"form, x, y, {MODE}",
               "sum_pass": f"form, xs, {MODE}", "distill": f"form, xs, {MODE}", "rest_of": f"op, form, x, y=None, {MODE}",
               "split_question": f"op, form, {MODE}"},
    "chains": {"check_chain": "chain", "fair": "chain", "mirror_chain": "chain", "run_chain": "chain, exact", "pulled_cut": "chain, j",
               "passes": "chain, j, exact"},
    "gaps": {"low_gap": "chain, chain2", "gaps_at": "chain, chain2, E", "last_gaps": "chain, chain2", "gap_empty": "cut, second",
             "gap_of": "chain, chain2, exact", "house_question": "chain, chain2"},
    "table": {"table_holds": "form, five, inner, mode", "table_question": "form, five, inner, mode"},
    "floorsums": {"floor_sum": "N, M, A, B", "floor_rows": "N, M, A, B", "rows_hold": "paper"},
    "residues": {"count_residues": "A, B, M, l, r, a, b", "first_residue": "A, B, M, l, r, a, b", "residue_rows": "A, B, M, l, r, a, b",
                 "residues_none": "paper, A, B, M, l, r, a, b", "round_parts": "mode, X0, X1, D, a, b",
                 "round_sum": "mode, X0, X1, D, a, b"},
    "families": {"check_series": "series", "check_family": "family", "family_size": "family", "member": "series, m",
                 "first_from": "series, n, d", "numbers_family": "form, i, j", "times": "family, n, d", "shifted": "family, n, d",
                 "texts_family": "count, k, k2"},
    "standins": {"rank_parts": f"form, series, {MODE}", "rank_sum": f"form, series, {MODE}",
                "standin_total": f"form, series, series2, {MODE}",
                 "standin_question": f"form, series, series2, {MODE}", "standin_paper_holds": f"form, series, series2, paper, {MODE}",
                 "division_pair": f"form, k, inner, i, j, {MODE}"},
    "doors": {"threshold": "op, p", "door_holds": "op, near, p, P", "door_question": "op, near, p, P", "room": "op, near, form",
              "both_ways": f"op, form, inner, x, y=None, {MODE}", "sumdoor_holds": "form, inner, five", "sumdoor_question": "form, inner, five"},
    "trips": {"trip": f"form, count, x, {TRIP}", "trip_pieces": f"form, count, i, j, {TRIP}", "trip_count": f"form, count, i, j, {TRIP}",
              "trip_question": f"form, count, i, j, {TRIP}", "trip_paper_holds": f"form, count, i, j, paper, {TRIP}", "enough_figures": "p",
              "least_figures": "form, i, j, *, near='even', near2='even'"},
    "spans": {"check_span": "span", "span_of": "form, x, y", "point_span": "form, x", "whole_line": "", "holds_exact": "span, exact",
              "holds_span": "span, span2", "hull": "span, span2", "meet": "span, span2", "width": "form, span", "halves": "form, span"},
    "spandeeds": {**{f"span_{op}": "form, span, span2" for op in ("add", "sub", "mul", "div", "least", "greatest")},
                  **{f"span_{op}": "form, span" for op in ("minus", "size", "square", "convert", "root")},
                  "span_muladd": "form, span, span2, span3", "span_text": "form, text", "span_sum": "form, spans"},
    "polys": {"Poly": "variables, terms=()"},
    "programs": {"check_program": "program", "run_program": "program, xs", "exact_program": "program, xs", "polynomial": "program"},
    "spanpapers": {"step_span": "op, form, spans", "run_spans": "program, spans", "spans_paper_holds": "program, spans, claims",
                   "pieces_hull": "program, form, spans, k"},
    "ranges": {"check_box": "box", "points": "box", "point_numbers": "box, seats", "ranges": "program, box", "grids": "program, box"},
    "agree": {"agree": "program, program2, box, limit", "within": "program, box, low, high, limit",
                "tree_holds": "program, program2, box, letters",
              "within_holds": "program, box, low, high, letters"},
    "asks": {"ask": "question", "check_question": "question", "answer_text": "question, answer"},
    "judges": {"judge": "question, answer"},
    "script": {"Hall": "", "run_script": "lines"},
    "through": {"pieces": "chain, chain2, family", "count_through": "chain, chain2, family", "through_question": "chain, chain2, family",
                "through_paper_holds": "chain, chain2, family, paper"},
}
CLASSES = {
    ("polys", "Poly"): {"variable": "variables, at", "constant": "variables, n, d", "__iter__": "self", "__len__": "self",
                "__neg__": "self",
                        "__add__": "self, other", "__sub__": "self, other", "__mul__": "self, other", "__eq__": "self, other", "__call__": "self, exacts"},
    ("script", "Hall"): {"line": "self, text", "__iter__": "self", "__len__": "self"},
}
PROPERTIES = {("polys", "Poly"): ["variables"], ("script", "Hall"): ["flags", "many"]}
METHODS = {"put": "self, x", "put_product": "self, x, y", "take": "self, x", "merge": "self, other_sum", "value": "self",
           "answer": f"self, form, {MODE}", "twin": "self", "__add__": "self, other", "__neg__": "self"}


class TestInterface(unittest.TestCase):
    def test_signatures(self):
        for module, told in FUNCTIONS.items():
            found = importlib.import_module("everyrounding." + module)
            for name, signature in told.items():
                self.assertEqual(str(inspect.signature(getattr(found, name))), f"({signature})", (module, name))
                self.assertEqual(getattr(found, name).__module__, "everyrounding." + module)

    def test_classes(self):
        for (module, name), methods in CLASSES.items():
            told = getattr(importlib.import_module("everyrounding." + module), name)
            for method, signature in methods.items():
                self.assertIn(method, vars(told))
                static = isinstance(vars(told)[method], staticmethod)
                found = inspect.signature(getattr(told, method) if static else vars(told)[method])
                self.assertEqual(str(found), f"({signature})", (name, method))
            for prop in PROPERTIES[module, name]:
                self.assertIsInstance(vars(told)[prop], property)
            self.assertEqual("__eq__" in vars(told), name == "Poly")

    def test_long_sum(self):
        told = vars(importlib.import_module("everyrounding.longsum").LongSum)
        for name, signature in METHODS.items():
            self.assertEqual(str(inspect.signature(told[name])), f"({signature})", name)
        self.assertIsInstance(told["many"], property)
        for name in ("__eq__", "__lt__", "__hash__", "__iter__", "__len__"):
            self.assertNotIn(name, told)
