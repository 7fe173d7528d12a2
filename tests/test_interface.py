"""The names, arguments and defaults of the interface, and the files in which each name is defined."""

import importlib
import inspect
import unittest

MODE = "*, mode='even'"
FIVE = "*, five='even'"
FUNCTIONS = {
    "decread": {"read_decimal": "text", "read": f"form, text, {MODE}"},
    "decwrite": {"exact_text": "x", "figures_text": f"x, count, {FIVE}", "fixed_text": f"x, k, {FIVE}"},
    "shortest": {"shortest": f"form, x, {FIVE}", "reads_back": f"form, text, x, {FIVE}", "figures_of": "text"},
    "longsum": {"LongSum": "", "sum_of": f"form, xs, {MODE}", "dot": f"form, xs, ys, {MODE}"},
    "plans": {"check_plan": "plan, N", "left_plan": "N", "all_plans": "N", "run_plan": f"form, plan, xs, {MODE}",
              "answers": f"form, xs, {MODE}", "order_question": f"form, N, K, u, {MODE}"},
    "splits": {"fast_two": f"form, x, y, {MODE}", "six_two": f"form, x, y, {MODE}", "two_product": f"form, x, y, {MODE}",
               "sum_pass": f"form, xs, {MODE}", "distill": f"form, xs, {MODE}", "rest_of": f"op, form, x, y=None, {MODE}",
               "split_question": f"op, form, {MODE}"},
    "chains": {"check_chain": "chain", "fair": "chain", "mirror_chain": "chain", "run_chain": "chain, exact", "pulled_cut": "chain, j",
               "passes": "chain, j, exact"},
    "gaps": {"low_gap": "chain, chain2", "gaps_at": "chain, chain2, E", "last_gaps": "chain, chain2", "gap_empty": "cut, second",
             "gap_of": "chain, chain2, exact", "house_question": "chain, chain2"},
    "table": {"table_holds": "form, five, inner, mode", "table_question": "form, five, inner, mode"},
    "floorsums": {"floor_sum": "N, M, A, B", "floor_rows": "N, M, A, B", "rows_hold": "paper"},
    "residues": {"count_residues": "A, B, M, l, r, a, b", "first_residue": "A, B, M, l, r, a, b", "residue_rows": "A, B, M, l, r, a, b",
                 "residues_none": "paper, A, B, M, l, r, a, b", "round_parts": "mode, X0, X1, D, a, b",
                 "round_sum": "mode, X0, X1, D, a, b"},
    "families": {"check_series": "series", "check_family": "family", "family_size": "family", "member": "series, m",
                 "first_from": "series, n, d", "numbers_family": "form, i, j", "times": "family, n, d", "shifted": "family, n, d",
                 "texts_family": "count, k, k2"},
    "through": {"pieces": "chain, chain2, family", "count_through": "chain, chain2, family", "through_question": "chain, chain2, family",
                "through_paper_holds": "chain, chain2, family, paper"},
}
METHODS = {"put": "self, x", "put_product": "self, x, y", "take": "self, x", "merge": "self, other_sum", "value": "self",
           "answer": f"self, form, {MODE}", "twin": "self", "__add__": "self, other", "__neg__": "self"}


class TestInterface(unittest.TestCase):
    def test_signatures(self):
        for module, told in FUNCTIONS.items():
            found = importlib.import_module("everyrounding." + module)
            for name, signature in told.items():
                self.assertEqual(str(inspect.signature(getattr(found, name))), f"({signature})", (module, name))
                self.assertEqual(getattr(found, name).__module__, "everyrounding." + module)

    def test_long_sum(self):
        told = vars(importlib.import_module("everyrounding.longsum").LongSum)
        for name, signature in METHODS.items():
            self.assertEqual(str(inspect.signature(told[name])), f"({signature})", name)
        self.assertIsInstance(told["many"], property)
        for name in ("__eq__", "__lt__", "__hash__", "__iter__", "__len__"):
            self.assertNotIn(name, told)
