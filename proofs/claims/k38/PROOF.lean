import PyProof.Rows.All
import Wide.All
import OpenK.AllK
import Wide.FinOn
import HandS.HeadHook4
import HandS.Head2
import HandS.Head3
import HandS.ForMost
import HandS.ForExc
import HandS.Wide
import HandS.WideBits
import HandS.IsInst
import HandS.More
import HandS.Gcd
import HandS.Lambda
import HandS.TryMany
import HandS.Flow
import HandS.HotCalls
import HandS.ExcIs
import PyProof.NoPylong
import KE.IntBitsLaws
import KE.BitLaws
import HandS.HeadWalk
import HandS.Style
import KE.KMathG
import PyProof.MeetsIn
import HandS.Defaults
import HandS.MakeKwOnly
import HandS.CallLocal
import PySem.Challenge.RW_everyrounding_k38_rest_is_muladd
set_option Elab.async false
set_option linter.all false
set_option autoImplicit false
set_option maxRecDepth 100000
namespace Mi
open PySem PySem.Spec PyProof.Rows L2
/-- data, without addresses -/
inductive D where
  | non | bl (b : Bool) | int (i : Int) | str (x : Str) | ty (n : String)
  | tup (l : List D) | lst (l : List D) | sto | exc (x : Str) | cls (x : Str) | thk (c : Option Str) (p : D)
/-- the document's own error classes -/
def errL : List Str := ["BadCount", "BadFormat", "BadNumber", "BadExact", "BadMode", "BadOp", "BadText", "BadCut", "BadPlan", "BadChain", "BadFamily", "BadSpan", "BadProgram", "BadBox", "NotAsked", "TooMany"]
def errN (x : Str) : Bool := errL.any (x == ·)
def isE (x y : Str) : Option Bool := if errN x && (errN y || y == "Refused") then some (x == y || y == "Refused") else none
def errR : List Str := errL ++ [("Refused" : Str)]
def excCB (K : PySem.W.Frag) (C : Addr) : Bool :=
  decide (PySem.W.findIn K (.ref C) "__getattribute__" = some (some (.builtin "BaseException.__getattribute__"))) && (decide (PySem.W.findIn K (.ref C) "__getattr__" = some none) &&
  (decide (PySem.W.subIn K (.ref C) (.type "BaseException") = some true) && (PySem.W.hasDictIn K C && (decide (PySem.W.findIn K (.ref C) "__class__" = some (some (.builtin "object.__class__"))) &&
  (decide (PySem.W.specialIn K (.builtin "object.__class__") "__get__" = some (some (.builtin "getset_descriptor.__get__"))) && (decide (PySem.W.takesIn K (.builtin "object.__class__") = some true) && decide (PySem.W.mroIn K C (.type "object") = some true)))))))
def relE (K : PySem.W.Frag) (x y : Str) : Bool := match isE x y with
  | some b => decide (PySem.W.kitOne K (.ref (He.ga K x)) (.ref (He.ga K y)) = some b) && decide (PySem.W.exmOne K (.ref (He.ga K x)) (.ref (He.ga K y)) = some b)
  | none => true
/-- the errors: what is known of them, by one Boolean -/
def isTabB (K : PySem.W.Frag) : Bool := errL.all fun x => excCB K (He.ga K x) && (decide (PySem.W.kitOne K (.ref (He.ga K x)) (.type "ValueError") = some true) && errR.all fun y => relE K x y)
/-- a global that holds a built-in function -/
def bfB (K : PySem.W.Frag) (x : Str) (id : String) : Bool := He.eqO (PySem.W.nsIn K mainGlobals x) (some (some (.builtin id)))
def disB (K : PySem.W.Frag) (L : List (Str × Str)) : Bool := decide ((L.map fun p => (He.cT K (p.1, none)).2).Nodup)
def allB (f : D → Value → Bool) : List D → List Value → Bool
  | [], [] => true
  | d :: ds, u :: us => f d u && allB f ds us
  | _, _ => false
def conB (K : PySem.W.Frag) : Nat → D → Value → Bool
  | 0 => fun _ _ => false
  | n + 1 => fun d u => match d with
    | .int i => He.relB (.int i) u
    | .str x => He.relB (.str x) u
    | .tup l => match u with
      | .ref a => match K.lookup a with
        | some ⟨.type c, _, .seq its _, _⟩ => decide (c = "tuple") && (decide (its.size ≤ sizeLine) && allB (conB K n) l its.toList)
        | _ => false
      | _ => false
    | _ => false
def tcB (K : PySem.W.Frag) (n : Nat) (x : Str) (d : D) : Bool := conB K n d (.ref (He.ga K x))
end Mi
namespace A38
open PySem PySem.Spec PyProof.Rows L2 Mi
def topS (i : Nat) : Stmt := PySem.Challenge.pw_everyrounding_k38_rest_is_muladd.main.body.getD i (.Pass ⟨0, 0, 0, 0⟩)
end A38
section
set_option maxHeartbeats 0
namespace A38
open PySem PySem.Spec PyProof.Rows L2 Mi
def dd_is_integer : He.DefD := ⟨("is_integer", none), "is_integer", "is_integer", defArgs (topS 20), defBody (topS 20), defScope (topS 20), [], []⟩
def dd_are_integers : He.DefD := ⟨("are_integers", none), "are_integers", "are_integers", defArgs (topS 21), defBody (topS 21), defScope (topS 21), [], []⟩
def dd_check_count : He.DefD := ⟨("check_count", none), "check_count", "check_count", defArgs (topS 22), defBody (topS 22), defScope (topS 22), [], []⟩
def dd_is_format : He.DefD := ⟨("is_format", none), "is_format", "is_format", defArgs (topS 24), defBody (topS 24), defScope (topS 24), [], []⟩
def dd_check_format : He.DefD := ⟨("check_format", none), "check_format", "check_format", defArgs (topS 25), defBody (topS 25), defScope (topS 25), [], []⟩
def dd_unit_at : He.DefD := ⟨("unit_at", none), "unit_at", "unit_at", defArgs (topS 26), defBody (topS 26), defScope (topS 26), [], []⟩
def dd_in_bounds : He.DefD := ⟨("in_bounds", none), "in_bounds", "in_bounds", defArgs (topS 29), defBody (topS 29), defScope (topS 29), [], []⟩
def dd_is_number : He.DefD := ⟨("is_number", none), "is_number", "is_number", defArgs (topS 30), defBody (topS 30), defScope (topS 30), [], []⟩
def dd_check_number : He.DefD := ⟨("check_number", none), "check_number", "check_number", defArgs (topS 31), defBody (topS 31), defScope (topS 31), [], []⟩
def dd_is_zero : He.DefD := ⟨("is_zero", none), "is_zero", "is_zero", defArgs (topS 32), defBody (topS 32), defScope (topS 32), [], []⟩
def dd_is_infinite : He.DefD := ⟨("is_infinite", none), "is_infinite", "is_infinite", defArgs (topS 33), defBody (topS 33), defScope (topS 33), [], []⟩
def dd_is_nan : He.DefD := ⟨("is_nan", none), "is_nan", "is_nan", defArgs (topS 34), defBody (topS 34), defScope (topS 34), [], []⟩
def dd_check_valued : He.DefD := ⟨("check_valued", none), "check_valued", "check_valued", defArgs (topS 35), defBody (topS 35), defScope (topS 35), [], []⟩
def dd_odd_parts : He.DefD := ⟨("odd_parts", none), "odd_parts", "odd_parts", defArgs (topS 36), defBody (topS 36), defScope (topS 36), [], []⟩
def dd_signed : He.DefD := ⟨("signed", none), "signed", "signed", defArgs (topS 37), defBody (topS 37), defScope (topS 37), [], []⟩
def dd_signed_part : He.DefD := ⟨("signed_part", none), "signed_part", "signed_part", defArgs (topS 38), defBody (topS 38), defScope (topS 38), [], []⟩
def dd_dyadic : He.DefD := ⟨("dyadic", none), "dyadic", "dyadic", defArgs (topS 39), defBody (topS 39), defScope (topS 39), [], []⟩
def dd_compare_integers : He.DefD := ⟨("compare_integers", none), "compare_integers", "compare_integers", defArgs (topS 40), defBody (topS 40), defScope (topS 40), [], []⟩
def dd_exact_value : He.DefD := ⟨("exact_value", none), "exact_value", "exact_value", defArgs (topS 41), defBody (topS 41), defScope (topS 41), [], []⟩
def dd_is_exact : He.DefD := ⟨("is_exact", none), "is_exact", "is_exact", defArgs (topS 44), defBody (topS 44), defScope (topS 44), [], []⟩
def dd_check_exact : He.DefD := ⟨("check_exact", none), "check_exact", "check_exact", defArgs (topS 45), defBody (topS 45), defScope (topS 45), [], []⟩
def dd_lowest : He.DefD := ⟨("lowest", none), "lowest", "lowest", defArgs (topS 46), defBody (topS 46), defScope (topS 46), [], []⟩
def dd_powered : He.DefD := ⟨("powered", none), "powered", "powered", defArgs (topS 47), defBody (topS 47), defScope (topS 47), [], []⟩
def dd_power_of : He.DefD := ⟨("power_of", none), "power_of", "power_of", defArgs (topS 48), defBody (topS 48), defScope (topS 48), [], []⟩
def dd_place_of : He.DefD := ⟨("place_of", none), "place_of", "place_of", defArgs (topS 49), defBody (topS 49), defScope (topS 49), [], []⟩
def dd_place : He.DefD := ⟨("place", none), "place", "place", defArgs (topS 50), defBody (topS 50), defScope (topS 50), [], []⟩
def dd_is_mode : He.DefD := ⟨("is_mode", none), "is_mode", "is_mode", defArgs (topS 53), defBody (topS 53), defScope (topS 53), [], []⟩
def dd_check_mode : He.DefD := ⟨("check_mode", none), "check_mode", "check_mode", defArgs (topS 54), defBody (topS 54), defScope (topS 54), [], []⟩
def dd_steps_up : He.DefD := ⟨("steps_up", none), "steps_up", "steps_up", defArgs (topS 55), defBody (topS 55), defScope (topS 55), [], []⟩
def dd_choice : He.DefD := ⟨("choice", none), "choice", "choice", defArgs (topS 56), defBody (topS 56), defScope (topS 56), [], []⟩
def dd_exact_sign : He.DefD := ⟨("exact_sign", none), "exact_sign", "exact_sign", defArgs (topS 57), defBody (topS 57), defScope (topS 57), [], []⟩
def dd_overflowed : He.DefD := ⟨("overflowed", none), "overflowed", "overflowed", defArgs (topS 58), defBody (topS 58), defScope (topS 58), [], []⟩
def dd_is_tiny : He.DefD := ⟨("is_tiny", none), "is_tiny", "is_tiny", defArgs (topS 59), defBody (topS 59), defScope (topS 59), [], []⟩
def dd_round_exact : He.DefD := ⟨("round_exact", none), "round_exact", "round_exact", defArgs (topS 60), defBody (topS 60), defScope (topS 60), [], []⟩
def dd_check_step : He.DefD := ⟨("check_step", none), "check_step", "check_step", defArgs (topS 63), defBody (topS 63), defScope (topS 63), [], []⟩
def dd_any_nan : He.DefD := ⟨("any_nan", none), "any_nan", "any_nan", defArgs (topS 64), defBody (topS 64), defScope (topS 64), [], []⟩
def dd_dyadic_sum : He.DefD := ⟨("dyadic_sum", none), "dyadic_sum", "dyadic_sum", defArgs (topS 65), defBody (topS 65), defScope (topS 65), [], []⟩
def dd_zero_sign : He.DefD := ⟨("zero_sign", none), "zero_sign", "zero_sign", defArgs (topS 66), defBody (topS 66), defScope (topS 66), [], []⟩
def dd_product_parts : He.DefD := ⟨("product_parts", none), "product_parts", "product_parts", defArgs (topS 67), defBody (topS 67), defScope (topS 67), [], []⟩
def dd_round_sum_of : He.DefD := ⟨("round_sum_of", none), "round_sum_of", "round_sum_of", defArgs (topS 68), defBody (topS 68), defScope (topS 68), [], []⟩
def dd_sum_answer : He.DefD := ⟨("sum_answer", none), "sum_answer", "sum_answer", defArgs (topS 69), defBody (topS 69), defScope (topS 69), [], []⟩
def dd_muladd_answer : He.DefD := ⟨("muladd_answer", none), "muladd_answer", "muladd_answer", defArgs (topS 70), defBody (topS 70), defScope (topS 70), [], []⟩
def dd_muladd : He.DefD := ⟨("muladd", none), "muladd", "muladd", defArgs (topS 71), defBody (topS 71), defScope (topS 71), [], [("mode", .str "even")]⟩
def dd_finite_rest : He.DefD := ⟨("finite_rest", none), "finite_rest", "finite_rest", defArgs (topS 73), defBody (topS 73), defScope (topS 73), [], []⟩
def dd_rest_answer : He.DefD := ⟨("rest_answer", none), "rest_answer", "rest_answer", defArgs (topS 74), defBody (topS 74), defScope (topS 74), [], []⟩
def dd_rest : He.DefD := ⟨("rest", none), "rest", "rest", defArgs (topS 75), defBody (topS 75), defScope (topS 75), [], []⟩
def dd_cut_rest : He.DefD := ⟨("cut_rest", none), "cut_rest", "cut_rest", defArgs (topS 76), defBody (topS 76), defScope (topS 76), [], []⟩
def dd_exact_quotient_of : He.DefD := ⟨("exact_quotient_of", none), "exact_quotient_of", "exact_quotient_of", defArgs (topS 78), defBody (topS 78), defScope (topS 78), [], []⟩
def dd_exact_quotient : He.DefD := ⟨("exact_quotient", none), "exact_quotient", "exact_quotient", defArgs (topS 79), defBody (topS 79), defScope (topS 79), [], []⟩
def dd__law_store : He.DefD := ⟨("_law_store", none), "_law_store", "_law_store", defArgs (topS 81), defBody (topS 81), defScope (topS 81), [], []⟩
def dd__law_mix : He.DefD := ⟨("_law_mix", none), "_law_mix", "_law_mix", defArgs (topS 82), defBody (topS 82), defScope (topS 82), [], []⟩
def dd__law_wide : He.DefD := ⟨("_law_wide", none), "_law_wide", "_law_wide", defArgs (topS 83), defBody (topS 83), defScope (topS 83), [], []⟩
def dd__law_take : He.DefD := ⟨("_law_take", none), "_law_take", "_law_take", defArgs (topS 84), defBody (topS 84), defScope (topS 84), [], []⟩
def dd__law_edge : He.DefD := ⟨("_law_edge", none), "_law_edge", "_law_edge", defArgs (topS 85), defBody (topS 85), defScope (topS 85), [], []⟩
def dd__law_scaled : He.DefD := ⟨("_law_scaled", none), "_law_scaled", "_law_scaled", defArgs (topS 86), defBody (topS 86), defScope (topS 86), [], []⟩
def dd__law_no_integer : He.DefD := ⟨("_law_no_integer", none), "_law_no_integer", "_law_no_integer", defArgs (topS 87), defBody (topS 87), defScope (topS 87), [], []⟩
def dd__law_int : He.DefD := ⟨("_law_int", none), "_law_int", "_law_int", defArgs (topS 88), defBody (topS 88), defScope (topS 88), [], []⟩
def dd__law_same : He.DefD := ⟨("_law_same", none), "_law_same", "_law_same", defArgs (topS 89), defBody (topS 89), defScope (topS 89), [], []⟩
def dd__law_caught : He.DefD := ⟨("_law_caught", none), "_law_caught", "_law_caught", defArgs (topS 90), defBody (topS 90), defScope (topS 90), [], []⟩
def dd__law_names : He.DefD := ⟨("_law_names", none), "_law_names", "_law_names", defArgs (topS 91), defBody (topS 91), defScope (topS 91), [], []⟩
def dd__law_common : He.DefD := ⟨("_law_common", none), "_law_common", "_law_common", defArgs (topS 92), defBody (topS 92), defScope (topS 92), [], []⟩
def dd__law_mode : He.DefD := ⟨("_law_mode", none), "_law_mode", "_law_mode", defArgs (topS 93), defBody (topS 93), defScope (topS 93), [], []⟩
def dd__law_odd : He.DefD := ⟨("_law_odd", none), "_law_odd", "_law_odd", defArgs (topS 94), defBody (topS 94), defScope (topS 94), [], []⟩
def dd__law_tiny_form : He.DefD := ⟨("_law_tiny_form", none), "_law_tiny_form", "_law_tiny_form", defArgs (topS 95), defBody (topS 95), defScope (topS 95), [], []⟩
def dd__law_wide_form : He.DefD := ⟨("_law_wide_form", none), "_law_wide_form", "_law_wide_form", defArgs (topS 96), defBody (topS 96), defScope (topS 96), [], []⟩
def dd__law_loose : He.DefD := ⟨("_law_loose", none), "_law_loose", "_law_loose", defArgs (topS 97), defBody (topS 97), defScope (topS 97), [], []⟩
def dd__law_number : He.DefD := ⟨("_law_number", none), "_law_number", "_law_number", defArgs (topS 98), defBody (topS 98), defScope (topS 98), [], []⟩
def dd__law_bad_number : He.DefD := ⟨("_law_bad_number", none), "_law_bad_number", "_law_bad_number", defArgs (topS 99), defBody (topS 99), defScope (topS 99), [], []⟩
def dd__law_step : He.DefD := ⟨("_law_step", none), "_law_step", "_law_step", defArgs (topS 100), defBody (topS 100), defScope (topS 100), [], []⟩
def dd__law_round : He.DefD := ⟨("_law_round", none), "_law_round", "_law_round", defArgs (topS 101), defBody (topS 101), defScope (topS 101), [], []⟩
def dd__law_rounded_at : He.DefD := ⟨("_law_rounded_at", none), "_law_rounded_at", "_law_rounded_at", defArgs (topS 102), defBody (topS 102), defScope (topS 102), [], []⟩
def dd__law_refused : He.DefD := ⟨("_law_refused", none), "_law_refused", "_law_refused", defArgs (topS 103), defBody (topS 103), defScope (topS 103), [], []⟩
def dd__law_asked : He.DefD := ⟨("_law_asked", none), "_law_asked", "_law_asked", defArgs (topS 104), defBody (topS 104), defScope (topS 104), [], []⟩
def dd__law_operand_pair : He.DefD := ⟨("_law_operand_pair", none), "_law_operand_pair", "_law_operand_pair", defArgs (topS 105), defBody (topS 105), defScope (topS 105), [], []⟩
def dd__law_division : He.DefD := ⟨("_law_division", none), "_law_division", "_law_division", defArgs (topS 106), defBody (topS 106), defScope (topS 106), [], []⟩
def dd__law_rest_pair : He.DefD := ⟨("_law_rest_pair", none), "_law_rest_pair", "_law_rest_pair", defArgs (topS 107), defBody (topS 107), defScope (topS 107), [], []⟩
def dd__law_rest_due : He.DefD := ⟨("_law_rest_due", none), "_law_rest_due", "_law_rest_due", defArgs (topS 108), defBody (topS 108), defScope (topS 108), [], []⟩
def dd__law_rests_right : He.DefD := ⟨("_law_rests_right", none), "_law_rests_right", "_law_rests_right", defArgs (topS 109), defBody (topS 109), defScope (topS 109), [], []⟩
def dd__law_quotient : He.DefD := ⟨("_law_quotient", none), "_law_quotient", "_law_quotient", defArgs (topS 110), defBody (topS 110), defScope (topS 110), [], []⟩
def dd__law_road_right : He.DefD := ⟨("_law_road_right", none), "_law_road_right", "_law_road_right", defArgs (topS 111), defBody (topS 111), defScope (topS 111), [], []⟩
def dd_law : He.DefD := ⟨("law", none), "law", "law", defArgs (topS 112), defBody (topS 112), defScope (topS 112), [], []⟩
def hfn0 : List He.DefD := [dd_is_integer, dd_are_integers, dd_check_count, dd_is_format, dd_check_format, dd_unit_at, dd_in_bounds, dd_is_number, dd_check_number, dd_is_zero, dd_is_infinite, dd_is_nan, dd_check_valued, dd_odd_parts, dd_signed, dd_signed_part, dd_dyadic, dd_compare_integers, dd_exact_value, dd_is_exact, dd_check_exact, dd_lowest, dd_powered, dd_power_of, dd_place_of, dd_place, dd_is_mode, dd_check_mode, dd_steps_up, dd_choice]
def hfn1 : List He.DefD := [dd_exact_sign, dd_overflowed, dd_is_tiny, dd_round_exact, dd_check_step, dd_any_nan, dd_dyadic_sum, dd_zero_sign, dd_product_parts, dd_round_sum_of, dd_sum_answer, dd_muladd_answer, dd_muladd, dd_finite_rest, dd_rest_answer, dd_rest, dd_cut_rest, dd_exact_quotient_of, dd_exact_quotient, dd__law_store, dd__law_mix, dd__law_wide, dd__law_take, dd__law_edge, dd__law_scaled, dd__law_no_integer, dd__law_int, dd__law_same, dd__law_caught, dd__law_names]
def hfn2 : List He.DefD := [dd__law_common, dd__law_mode, dd__law_odd, dd__law_tiny_form, dd__law_wide_form, dd__law_loose, dd__law_number, dd__law_bad_number, dd__law_step, dd__law_round, dd__law_rounded_at, dd__law_refused, dd__law_asked, dd__law_operand_pair, dd__law_division, dd__law_rest_pair, dd__law_rest_due, dd__law_rests_right, dd__law_quotient, dd__law_road_right, dd_law]
def hfn : List He.DefD := hfn0 ++ hfn1 ++ hfn2
def hfa0 : List He.Fa := [.glo "is_integer", .glo "are_integers", .glo "check_count", .glo "is_format", .glo "check_format", .glo "unit_at", .glo "in_bounds", .glo "is_number", .glo "check_number", .glo "is_zero", .glo "is_infinite", .glo "is_nan", .glo "check_valued", .glo "odd_parts", .glo "signed", .glo "signed_part", .glo "dyadic", .glo "compare_integers", .glo "exact_value", .glo "is_exact", .glo "check_exact", .glo "lowest", .glo "powered", .glo "power_of", .glo "place_of", .glo "place", .glo "is_mode", .glo "check_mode", .glo "steps_up", .glo "choice"]
def hfa1 : List He.Fa := [.glo "exact_sign", .glo "overflowed", .glo "is_tiny", .glo "round_exact", .glo "check_step", .glo "any_nan", .glo "dyadic_sum", .glo "zero_sign", .glo "product_parts", .glo "round_sum_of", .glo "sum_answer", .glo "muladd_answer", .glo "muladd", .glo "finite_rest", .glo "rest_answer", .glo "rest", .glo "cut_rest", .glo "exact_quotient_of", .glo "exact_quotient", .glo "_law_store", .glo "_law_mix", .glo "_law_wide", .glo "_law_take", .glo "_law_edge", .glo "_law_scaled", .glo "_law_no_integer", .glo "_law_int", .glo "_law_same", .glo "_law_caught", .glo "_law_names"]
def hfa2 : List He.Fa := [.glo "_law_common", .glo "_law_mode", .glo "_law_odd", .glo "_law_tiny_form", .glo "_law_wide_form", .glo "_law_loose", .glo "_law_number", .glo "_law_bad_number", .glo "_law_step", .glo "_law_round", .glo "_law_rounded_at", .glo "_law_refused", .glo "_law_asked", .glo "_law_operand_pair", .glo "_law_division", .glo "_law_rest_pair", .glo "_law_rest_due", .glo "_law_rests_right", .glo "_law_quotient", .glo "_law_road_right", .glo "law", .free "ValueError", .free "abs", .free "all", .free "any", .free "bool", .free "int", .free "isinstance", .free "len", .free "list"]
def hfa3 : List He.Fa := [.free "max", .free "min", .free "range", .free "str", .free "tuple", .free "type", .glo "Refused", .glo "BadCount", .glo "BadFormat", .glo "BadNumber", .glo "BadExact", .glo "BadMode", .glo "BadOp", .glo "BadText", .glo "BadCut", .glo "BadPlan", .glo "BadChain", .glo "BadFamily", .glo "BadSpan", .glo "BadProgram", .glo "BadBox", .glo "NotAsked", .glo "TooMany", .glo "INVALID", .glo "MODES", .glo "NAN", .exc "BadCount", .exc "BadExact", .exc "BadFormat", .exc "BadMode"]
def hfa4 : List He.Fa := [.exc "BadNumber", .int "EXACT_BITS" 12000]
def hfa : List He.Fa := hfa0 ++ hfa1 ++ hfa2 ++ hfa3 ++ hfa4
def hlo0 : List PySem.Str := ["gcd", "isqrt", "Refused", "BadCount", "BadFormat", "BadNumber", "BadExact", "BadMode", "BadOp", "BadText", "BadCut", "BadPlan", "BadChain", "BadFamily", "BadSpan", "BadProgram", "BadBox", "NotAsked", "TooMany", "is_integer", "are_integers", "check_count", "is_format", "check_format", "unit_at", "NAN", "in_bounds", "is_number", "check_number", "is_zero"]
def hlo1 : List PySem.Str := ["is_infinite", "is_nan", "check_valued", "odd_parts", "signed", "signed_part", "dyadic", "compare_integers", "exact_value", "EXACT_BITS", "is_exact", "check_exact", "lowest", "powered", "power_of", "place_of", "place", "MODES", "is_mode", "check_mode", "steps_up", "choice", "exact_sign", "overflowed", "is_tiny", "round_exact", "INVALID", "check_step", "any_nan", "dyadic_sum"]
def hlo2 : List PySem.Str := ["zero_sign", "product_parts", "round_sum_of", "sum_answer", "muladd_answer", "muladd", "finite_rest", "rest_answer", "rest", "cut_rest", "exact_quotient_of", "exact_quotient", "_law_store", "_law_mix", "_law_wide", "_law_take", "_law_edge", "_law_scaled", "_law_no_integer", "_law_int", "_law_same", "_law_caught", "_law_names", "_law_common", "_law_mode", "_law_odd", "_law_tiny_form", "_law_wide_form", "_law_loose", "_law_number"]
def hlo3 : List PySem.Str := ["_law_bad_number", "_law_step", "_law_round", "_law_rounded_at", "_law_refused", "_law_asked", "_law_operand_pair", "_law_division", "_law_rest_pair", "_law_rest_due", "_law_rests_right", "_law_quotient", "_law_road_right"]
def hlo : List PySem.Str := hlo0 ++ hlo1 ++ hlo2 ++ hlo3
def hlm : List (PySem.Str × PySem.Str) := [("_law_rests_right", "_law_rests_right.<locals>."), ("_law_road_right", "_law_road_right.<locals>."), ("law", "law.<locals>.")]
def htf : List He.Defn := hlm.map fun p => (p.1, none)
def hex (K : PySem.W.Frag) : Bool := isTabB K && (tcB K 4 "INVALID" (.tup [(.tup [(.int 0), (.int (-2)), (.int 0)]), (.tup [(.str "invalid")])]) && (He.tupB K "MODES" ((["even", "away", "zero", "up", "down", "odd"] : List PySem.Str).map He.Dv.str) && (tcB K 4 "NAN" (.tup [(.int 0), (.int (-2)), (.int 0)]) && (bfB K "gcd" "math.gcd" && (bfB K "isqrt" "math.isqrt" && (disB K hlm))))))
abbrev hR : PySem.W.OpenRow := PySem.W.OpenLaw.row PySem.Challenge.rw_everyrounding_k38_rest_is_muladd
abbrev hk : PySem.W.Hook := He.hookX 2 hfa hfn [] htf hex
def hob (s : PySem.W.SharedT) : He.AlX := He.obsX 2 hfa hfn [] htf hex (HandSHeadRun.getT s)
theorem hob_eq (s : PySem.W.SharedT) : hob s = hk.obs s.abs := He.obsX_eq (HandSHeadRun.getT_eq s)
open PySem.W PySem.Calls
theorem split3 {X A B C : Type} {R : Option X} {f : X → A} {g : X → B} {h : X → C} {a : A} {b : B} {c : C} (h1 : R.map f = some a) (h2 : R.map g = some b) (h3 : R.map h = some c) : R.map (fun x => (f x, g x, h x)) = some (a, b, c) := by
  cases R with
  | none => cases h1
  | some x =>
    obtain rfl := Option.some.inj h1
    obtain rfl := Option.some.inj h2
    obtain rfl := Option.some.inj h3
    rfl
noncomputable abbrev hR1 (w : World) := HandSHeadRun.wholeF (fun p => HandSHeadRun.stepQ (HandSHeadRun.denQ HandSHeadRun.tabQ) p w) HandSHeadRun.fenceQ 12000 hR.prog
theorem hrunA (w : World) : (hR1 w).map (fun x => HandSHeadRun.looksF hR.prog x.1.heap x.2.abs) = some true := by
  kernel_rfl
theorem hrunB (w : World) : (hR1 w).map (fun x => HandSHeadRun.seenQ (PySem.W.view hR.prog [112]) hlo (importedModules hR.prog.main.body) (fun s => xlAt (PySem.W.view hR.prog [112]) [] s && recOk hR.toRowW.records s) x.2.abs) = some (openGood (PySem.W.view hR.prog [112]) hlo) := by
  kernel_rfl
theorem hrunC (w : World) : (hR1 w).map (fun x => hob x.2) = some (hk.val w) := by
  kernel_rfl
theorem hrun (w : World) : HandSHeadRun.RunEqI hR (PySem.W.view hR.prog [112]) hk hob 12000 hlo w := by
  unfold HandSHeadRun.RunEqI
  exact split3 (hrunA w) (hrunB w) (hrunC w)
end A38
end
namespace Mi
open PySem PySem.Spec PyProof.Rows L2

/-- the store that a law draws from -/
structure S where
  cells : List Int
  at_ : Int
  left : Int
  last : Int
  turn : Int

inductive R (α : Type) where
  | ok (a : α) (s : S) | err (c : Str) (p : D) (s : S) | stuck

structure Cf where
  P : Program
  w : World
  K : PySem.W.Frag
  mg : Str → Option Value
  base : Heap
  st : Option Addr
  ca : Addr
  T : List (Addr × Str)
  ex : Option (Addr × Str)
/-- where the store stands, where its cells, the tables of code objects, the error that is handled -/
structure Sto where
  a : Option Addr
  c : Addr
  T : List (Addr × Str)
  ex : Option (Addr × Str)
/-- what may change: the store, the tables -/
def Cf.Mut (c : Cf) (a : Addr) : Prop := c.st = some a ∨ a ∈ c.T.map (·.1)

abbrev Bad := Addr → Prop
/-- all that was tracked is as it was, but the store -/
def Keeps (c : Cf) (H H' : Hp) : Prop := ∀ a o, H a = some o → ¬ c.Mut a → H' a = some o
structure HS (c : Cf) (H : Hp) (s : S) : Prop where
  store : ∀ a, c.st = some a → H a = some (.lst [.ref c.ca, .int s.at_, .int s.left, .int s.last, .int s.turn]) ∧ H c.ca = some (.lst (s.cells.map V.int)) ∧ c.ca ≠ a
  tabs : LamX.Tabs c.T H
theorem HS.mut {c : Cf} {H : Hp} {s : S} (h : HS c H s) {a : Addr} (m : c.Mut a) : H a ≠ none := by
  rcases m with m | m
  · rw [(h.store a m).1]
    simp
  · obtain ⟨p, hp, rfl⟩ := List.mem_map.mp m
    obtain ⟨ps, e, _⟩ := h.tabs p hp
    rw [e]
    simp
/-- tracked objects are none of the written part -/
def KF (c : Cf) (H : Hp) : Prop := ∀ a, H a ≠ none → c.K.lookup a = none
structure BOk (c : Cf) (H : Hp) (B : Bad) : Prop where
  kind : ∀ a, B a → (∃ xs, H a = some (.lst xs)) ∨ ∃ ps, H a = some (.tbl ps)
  st : ∀ a, c.Mut a → B a
  ca : ∀ a, c.st = some a → B c.ca
  kf : KF c H

theorem BOk.there {c : Cf} {H : Hp} {B : Bad} (b : BOk c H B) : ∀ a, B a → H a ≠ none := fun a h => by
  rcases b.kind a h with ⟨xs, e⟩ | ⟨ps, e⟩ <;> rw [e] <;> simp
def fieldOf (x : Str) : Str := if x = ("TooMany" : Str) then "limit" else "at"
/-- what a raised error carries -/
def Pay (H : Hp) (c : Str) (dd : Option Addr) : D → Prop
  | .int i => ∃ a, dd = some a ∧ H a = some (.xd [(fieldOf c, .int i)])
  | .non => dd = none
  | _ => False

/-- a tuple, tracked or of the written part -/
def TupAt (K : PySem.W.Frag) (H : Hp) (a : Addr) (xs : List V) : Prop :=
  H a = some (.tup xs) ∨ ∃ (o : Obj) (its : Array Value) (n : Nat), K.lookup a = some o ∧ o.cls = .type "tuple" ∧ o.data = .seq its n ∧ its.size ≤ sizeLine ∧ Vals xs its.toList
theorem TupAt.sq {K : PySem.W.Frag} {H : Hp} {a : Addr} {xs : List V} (h : TupAt K H a xs) : SqT K H a xs := h.elim (fun h => .inl (.inl h)) .inr
/-- an outcome by its relation of values: what is to be shown of Q and E -/
def PostR (c : Cf) (dv : Hp → V → Prop) (e : Option Str) (p : D) (H : Hp) (s : S) (Q : VK) (E : XK) : Prop :=
  match e with
  | none => ∀ v H', KF c H' → Keeps c H H' → HS c H' s → dv H' v → Q v H'
  | some x => ∀ C dd H', Keeps c H H' → HS c H' s → c.mg x = some (.ref C) → Pay H' x dd p → E (.ref C) dd H'

/-- more heap, other bad ones: what is good stays as it is, what becomes bad is new -/
structure Grow (c : Cf) (B : Bad) (H : Hp) (B' : Bad) (H' : Hp) : Prop where
  keep : ∀ a o, H a = some o → ¬ B a → H' a = some o
  st : ∀ a, c.Mut a → B a
  new : ∀ a, B' a → B a ∨ (H a = none ∧ c.K.lookup a = none)
theorem Grow.trans {c : Cf} {B B1 B2 : Bad} {H H1 H2 : Hp} (x : Grow c B H B1 H1) (y : Grow c B1 H1 B2 H2) : Grow c B H B2 H2 where
  keep := fun a o e n => y.keep a o (x.keep a o e n) fun q => (x.new a q).elim n fun z => by rw [e] at z; exact nomatch z.1
  st := x.st
  new := fun a q => by
    rcases y.new a q with z | ⟨z, k⟩
    · exact x.new a z
    · by_cases hB : B a
      · exact .inl hB
      · refine .inr ⟨?_, k⟩
        cases e : H a with
        | none => rfl
        | some o =>
          rw [x.keep a o e hB] at z
          cases z
theorem Grow.refl {c : Cf} {B : Bad} {H : Hp} (h : ∀ a, c.Mut a → B a) : Grow c B H B H := ⟨fun _ _ e _ => e, h, fun _ q => .inl q⟩
/-- the very object at an address -/
def objH (a : Addr) (o : Obj) : HO := .ext fun h => h.get? a = some o
theorem objH_ok {P : Program} {w : World} {H : Hp} {h : Heap} {a : Addr} {o : Obj} (e : h.get? a = some o) : ObjOk P w H h a (objH a o) := ⟨e, ⟨o, e⟩, fun _ _ e1 k => k _ e1⟩
theorem objH_get {P : Program} {w : World} {H : Hp} {h : Heap} {a : Addr} {o : Obj} (x : HOk P w H h) (e : H a = some (objH a o)) : h.get? a = some o := (x a _ e).1
mutual
def DV (c : Cf) : D → Bad → Hp → V → Prop
  | .non, _, _, v => v = .non
  | .bl b, _, _, v => v = .bl b
  | .int i, _, _, v => v = .int i
  | .str x, _, _, v => v = .str x
  | .ty n, _, _, v => v = .ty n
  | .tup l, B, H, v => ∃ a xs, v = .ref a ∧ ¬ B a ∧ TupAt c.K H a xs ∧ DVs c l B H xs
  | .lst l, B, H, v => ∃ a xs, v = .ref a ∧ ¬ B a ∧ SqL c.K H a xs ∧ DVs c l B H xs
  | .sto, _, _, v => ∃ a, c.st = some a ∧ v = .ref a
  | .exc x, _, _, v => ∃ a, c.ex = some (a, x) ∧ v = .ref a
  | .cls x, _, _, v => ∃ a, c.mg x = some (.ref a) ∧ v = .ref a
  | .thk e p, B, H, v => ∃ (f : Addr) (oc : Value) (od : Option Addr) (fd : FuncData) (sl : Array (Option Value)), v = .ref f ∧ ¬ B f ∧ H f = some (objH f ⟨oc, od, .func fd, sl⟩) ∧ ∀ (A : Around) (outer : List Env) (sh : Shared) (H' : Hp) (B' : Bad) (s : S) (Q : VK) (E : XK),
      Room 60 A → Env0 c.P c.w c.K c.mg c.base A outer sh H' → Grow c B H B' H' → BOk c H' B' → HS c H' s →
      PostR c (fun H'' u => DV c p B' H'' u) e p H' s Q E →
      codeAny (model c.P c.w) A (.call (.ref f) ⟨[], []⟩) (CR (L2N.CX c.P c.w) outer c.P c.w H' sh Q E) sh
def DVs (c : Cf) : List D → Bad → Hp → List V → Prop
  | [], _, _, vs => vs = []
  | d :: ds, B, H, vs => ∃ v r, vs = v :: r ∧ DV c d B H v ∧ DVs c ds B H r
end

theorem Keeps.refl (c : Cf) (H : Hp) : Keeps c H H := fun _ _ h _ => h
theorem Keeps.trans {c : Cf} {H H1 H2 : Hp} (a : Keeps c H H1) (b : Keeps c H1 H2) : Keeps c H H2 := fun x o h n => b x o (a x o h n) n
theorem Keeps.new {c : Cf} {H : Hp} {p : Addr} {o : HO} (h : H p = none) : Keeps c H (upd H p o) := fun a u e _ => by
  rw [upd_ne (ne_of_none e h)]
  exact e

theorem Grow.notB {c : Cf} {B B' : Bad} {H H' : Hp} {a : Addr} (g : Grow c B H B' H') (hb : ¬ B a) (hn : H a ≠ none) : ¬ B' a := fun q => (g.new a q).elim hb fun z => hn z.1
theorem rd_grow {c : Cf} {B B' : Bad} {H H' : Hp} {a : Addr} {u : HO} (g : Grow c B H B' H') (hb : ¬ B a) (h : Rd H a u) : Rd H' a u ∧ ¬ B' a := by
  rcases h with h | ⟨o, h⟩
  · exact ⟨.inl (g.keep a _ h hb), g.notB hb (by rw [h]; simp)⟩
  · exact ⟨.inr ⟨o, g.keep a _ h hb⟩, g.notB hb (by rw [h]; simp)⟩
theorem sqt_grow {c : Cf} {B B' : Bad} {H H' : Hp} {a : Addr} {xs : List V} (g : Grow c B H B' H') (hb : ¬ B a) (h : TupAt c.K H a xs) : TupAt c.K H' a xs ∧ ¬ B' a := by
  rcases h with h | h
  · exact ⟨.inl (g.keep a _ h hb), (rd_grow g hb (.inl h)).2⟩
  · obtain ⟨o, its, n, e, r⟩ := h
    exact ⟨.inr ⟨o, its, n, e, r⟩, fun q => (g.new a q).elim hb fun z => by rw [e] at z; exact nomatch z.2⟩
theorem sql_grow {c : Cf} {B B' : Bad} {H H' : Hp} {a : Addr} {xs : List V} (g : Grow c B H B' H') (hb : ¬ B a) (h : SqL c.K H a xs) : SqL c.K H' a xs ∧ ¬ B' a := by
  rcases h with h | h
  · exact ⟨.inl (rd_grow g hb h).1, (rd_grow g hb h).2⟩
  · obtain ⟨o, its, n, e, r⟩ := h
    exact ⟨.inr ⟨o, its, n, e, r⟩, fun q => (g.new a q).elim hb fun z => by rw [e] at z; exact nomatch z.2⟩
mutual
theorem DV.grow {c : Cf} {B B' : Bad} {H H' : Hp} (g : Grow c B H B' H') : ∀ (d : D) (v : V), DV c d B H v → DV c d B' H' v
  | .non, _, h => h
  | .bl _, _, h => h
  | .int _, _, h => h
  | .str _, _, h => h
  | .ty _, _, h => h
  | .sto, _, h => h
  | .exc _, _, h => h
  | .cls _, _, h => h
  | .tup l, _, ⟨a, xs, e, hb, hs, ht⟩ => ⟨a, xs, e, (sqt_grow g hb hs).2, (sqt_grow g hb hs).1, DVs.grow g l xs ht⟩
  | .lst l, _, ⟨a, xs, e, hb, hs, ht⟩ => ⟨a, xs, e, (sql_grow g hb hs).2, (sql_grow g hb hs).1, DVs.grow g l xs ht⟩
  | .thk _ _, _, ⟨f, oc, od, fd, sl, e, hb, hf, h⟩ => ⟨f, oc, od, fd, sl, e, g.notB hb (by rw [hf]; simp), g.keep f _ hf hb, fun A outer sh H'' B'' s Q E r e0 k b => h A outer sh H'' B'' s Q E r e0 (g.trans k) b⟩
theorem DVs.grow {c : Cf} {B B' : Bad} {H H' : Hp} (g : Grow c B H B' H') : ∀ (l : List D) (vs : List V), DVs c l B H vs → DVs c l B' H' vs
  | [], _, h => h
  | d :: ds, _, ⟨v, r, e, h1, h2⟩ => ⟨v, r, e, DV.grow g d v h1, DVs.grow g ds r h2⟩
end

/-! ### outcomes -/
def rb {α β : Type} (r : R α) (k : α → S → R β) : R β := match r with
  | .ok a s => k a s
  | .err c p s => .err c p s
  | .stuck => .stuck
def Post {α β : Type} (c : Cf) (rel : α → Hp → β → Prop) (r : R α) (H : Hp) (Q : β → Hp → Prop) (E : XK) : Prop := match r with
  | .ok a s => ∀ b H', KF c H' → Keeps c H H' → HS c H' s → rel a H' b → Q b H'
  | .err x p s => ∀ C dd H', Keeps c H H' → HS c H' s → c.mg x = some (.ref C) → Pay H' x dd p → E (.ref C) dd H'
  | .stuck => False
theorem Post.mono {α β : Type} {c : Cf} {rel : α → Hp → β → Prop} {r : R α} {H H1 : Hp} {Q : β → Hp → Prop} {E : XK} (k : Keeps c H H1) (h : Post c rel r H Q E) : Post c rel r H1 Q E := by
  cases r with
  | ok a s => exact fun b H' kf k' hs r => h b H' kf (k.trans k') hs r
  | err x p s => exact fun C dd H' k' hs m p => h C dd H' (k.trans k') hs m p
  | stuck => exact h
theorem Post.seq {α β γ δ : Type} {c : Cf} {rel : α → Hp → β → Prop} {rel' : γ → Hp → δ → Prop} {r : R α} {k : α → S → R γ} {H : Hp} {Q : δ → Hp → Prop} {Q1 : β → Hp → Prop} {E : XK}
    (h : Post c rel' (rb r k) H Q E) (f : ∀ a s b H1, KF c H1 → Keeps c H H1 → HS c H1 s → rel a H1 b → Post c rel' (k a s) H1 Q E → Q1 b H1) : Post c rel r H Q1 E := by
  cases r with
  | ok a s => exact fun b H1 kf k1 hs hr => f a s b H1 kf k1 hs hr (Post.mono k1 h)
  | err x p s => exact h
  | stuck => exact h
/-- .. at its end, where nothing is allocated -/
theorem Post.fin {α β : Type} {c : Cf} {rel : α → Hp → β → Prop} {a : α} {s : S} {H : Hp} {Q : β → Hp → Prop} {E : XK} {b : β} (h : Post c rel (.ok a s) H Q E) (kf : KF c H) (hs : HS c H s) (r : rel a H b) : Q b H := h b H kf (Keeps.refl c H) hs r
def op? {α : Type} (o : Option α) (s : S) : R α := match o with
  | some a => .ok a s
  | none => .stuck
theorem Post.opt {α β : Type} {c : Cf} {rel : α → Hp → β → Prop} {o : Option α} {s : S} {H : Hp} {Q : β → Hp → Prop} {E : XK} (h : Post c rel (op? o s) H Q E) : ∃ a, o = some a ∧ Post c rel (.ok a s) H Q E := by
  cases o with
  | none => exact False.elim h
  | some a => exact ⟨a, rfl, h⟩

theorem HS.keep {c : Cf} {H H' : Hp} {s : S} (h : HS c H s) (k : ∀ a o, H a = some o → H' a = some o) : HS c H' s := ⟨fun a e => by
  obtain ⟨h1, h2, h3⟩ := h.store a e
  exact ⟨k _ _ h1, k _ _ h2, h3⟩, h.tabs.ext k⟩
theorem HS.new {c : Cf} {H : Hp} {s : S} {p : Addr} {o : HO} (h : HS c H s) (n : H p = none) : HS c (upd H p o) s := h.keep fun a u e => by
  rw [upd_ne (ne_of_none e n)]
  exact e
theorem HS.mutK {c : Cf} {H : Hp} {s : S} (h : HS c H s) {a : Addr} (m : c.Mut a) : (∃ xs, H a = some (.lst xs)) ∨ ∃ ps, H a = some (.tbl ps) := by
  rcases m with m | m
  · exact .inl ⟨_, (h.store a m).1⟩
  · obtain ⟨p, hp, rfl⟩ := List.mem_map.mp m
    obtain ⟨ps, e, _⟩ := h.tabs p hp
    exact .inr ⟨ps, e⟩
theorem BOk.keep {c : Cf} {H H' : Hp} {B : Bad} {s : S} (b : BOk c H B) (kf : KF c H') (k : Keeps c H H') (hs : HS c H' s) : BOk c H' B where
  kind := fun a ha => by
    by_cases e : c.Mut a
    · exact hs.mutK e
    · rcases b.kind a ha with ⟨xs, q⟩ | ⟨ps, q⟩
      · exact .inl ⟨xs, k a _ q e⟩
      · exact .inr ⟨ps, k a _ q e⟩
  st := b.st
  ca := b.ca
  kf := kf
theorem BOk.grow {c : Cf} {H H' : Hp} {B : Bad} (b : BOk c H B) (k : Keeps c H H') : Grow c B H B H' := ⟨fun a o e n => k a o e fun z => n (b.st a z), b.st, fun _ h => .inl h⟩

/-! ### slots -/
inductive SV where
  | u | d (x : D) | o (xs : List D)
abbrev Ev := List SV
def Sl (c : Cf) (B : Bad) (H : Hp) (σ : L2.St) (δ : Ev) : Prop := ∀ (i : Nat) x, δ[i]? = some (SV.d x) → ∃ v, σ[i]? = some (some v) ∧ DV c x B H v
theorem Sl.keep {c : Cf} {B : Bad} {H H' : Hp} {σ : L2.St} {δ : Ev} (h : Sl c B H σ δ) (b : BOk c H B) (k : Keeps c H H') : Sl c B H' σ δ := fun i x e => by
  obtain ⟨v, h1, h2⟩ := h i x e
  exact ⟨v, h1, DV.grow (b.grow k) x v h2⟩

/-! ### expressions -/
abbrev cf (X : Cx) (st : Sto) : Cf := ⟨X.prog, X.w, X.K, X.mg, X.base, st.a, st.c, st.T, st.ex⟩
abbrev relD (c : Cf) (B : Bad) : D → Hp → V → Prop := fun d H v => DV c d B H v
abbrev relDs (c : Cf) (B : Bad) : List D → Hp → List V → Prop := fun d H v => DVs c d B H v
abbrev relB : Bool → Hp → Bool → Prop := fun a _ b => b = a
abbrev FE := Ev → S → R D
abbrev FT := Ev → S → R Bool
abbrev FA := Ev → S → R (List D)
/-- the state of a place: what is bad, the store, the slots -/
structure At (c : Cf) (B : Bad) (H : Hp) (s : S) (σ : L2.St) (δ : Ev) : Prop where
  b : BOk c H B
  s : HS c H s
  sl : Sl c B H σ δ
  len : σ.length = δ.length
theorem At.keep {c : Cf} {B : Bad} {H H' : Hp} {s s' : S} {σ : L2.St} {δ : Ev} (a : At c B H s σ δ) (kf : KF c H') (k : Keeps c H H') (hs : HS c H' s') : At c B H' s' σ δ :=
  ⟨a.b.keep kf k hs, hs, a.sl.keep a.b k, a.len⟩
def ED (X : Cx) (st : Sto) (E : XK) (e : Expr) (F : FE) : Prop :=
  ∃ t, PE X e t ∧ ∀ σ δ B H s Q, At (cf X st) B H s σ δ → Post (cf X st) (relD (cf X st) B) (F δ s) H Q E → t σ H Q
def TD (X : Cx) (st : Sto) (E : XK) (e : Expr) (F : FT) : Prop :=
  ∃ t, PT X e t ∧ ∀ σ δ B H s Q, At (cf X st) B H s σ δ → Post (cf X st) relB (F δ s) H Q E → t σ H Q
def AD (X : Cx) (st : Sto) (E : XK) (es : List Expr) (F : FA) : Prop :=
  ∃ t, PA X es t ∧ ∀ σ δ B H s Q, At (cf X st) B H s σ δ → Post (cf X st) (relDs (cf X st) B) (F δ s) H Q E → t σ H Q
section
variable {X : Cx} {st : Sto} {E : XK} {pos : Pos}
/-- tracked addresses are none of the written part's -/
theorem inv_kf {pins : List (Addr × Obj)} {σ : L2.St} {H : Hp} {s : Shared} (I : Inv X pins σ H s) : ∀ a, H a ≠ none → X.K.lookup a = none := fun a h => by
  cases q : X.K.lookup a with
  | none => rfl
  | some o => exact absurd (I.bs a o (I.mod.kin a o q)).2 h
/-- an expression's rule with what its end knows -/
def tP (K : PySem.W.Frag) (t : TE) : TE := fun σ H Q => t σ H fun v H' => (∀ a, H' a ≠ none → K.lookup a = none) → Q v H'
theorem pe_plus {e : Expr} {t : TE} (h : PE X e t) : PE X e (tP X.K t) := ⟨fun pins s σ H Q I hw =>
  thn (h.run pins s σ H _ I hw) fun _ _ ⟨v, H', I', r, q⟩ => ⟨v, H', I', r, q (inv_kf I')⟩⟩

def eVar (i : Nat) : FE := fun δ s => match δ[i]? with
  | some (SV.d x) => .ok x s
  | _ => .stuck
theorem ed_var (i : Nat) {x : Str} (hN : X.N[i]? = some x := by rfl) (hv : Vis X.env.scope x := by first | exact Or.inl rfl | exact Or.inr (Or.inl rfl) | exact Or.inr (Or.inr rfl)) (hd : (x == ("__debug__" : Str)) = false := by decide)
    (hcd : (x == ("__classdict__" : Str)) = false := by decide) : ED X st E (.Name x pos) (eVar i) := by
  refine ⟨_, pe_var hN hv hd hcd, fun σ δ B H s Q a h => ?_⟩
  unfold eVar at h
  split at h
  · rename_i x' e
    obtain ⟨v, h1, h2⟩ := a.sl i x' e
    exact ⟨v, h1, h.fin a.b.kf a.s h2⟩
  · exact False.elim h
def eC (d : D) : FE := fun _ s => .ok d s
theorem ed_int {i j} : ED X st E (.Constant (.int i) j pos) (eC (.int i)) := ⟨_, pe_int, fun _ _ _ _ _ _ a h => h.fin a.b.kf a.s rfl⟩
theorem ed_bl {b j} : ED X st E (.Constant (.bool b) j pos) (eC (.bl b)) := ⟨_, pe_bl, fun _ _ _ _ _ _ a h => h.fin a.b.kf a.s rfl⟩
theorem ed_non {j} : ED X st E (.Constant .none j pos) (eC .non) := ⟨_, pe_non, fun _ _ _ _ _ _ a h => h.fin a.b.kf a.s rfl⟩
theorem ed_str {x j} : ED X st E (.Constant (.str x) j pos) (eC (.str x)) := ⟨_, pe_str, fun _ _ _ _ _ _ a h => h.fin a.b.kf a.s rfl⟩
/-- a built-in class as a value -/
theorem ed_ty {x : Str} {n : String} (hg : Gl X x) (hm : X.mg x = none) (hv : bootBuiltins x = some (.type n)) (hn : x ≠ "__name__" := by decide) (hd : (x == ("__debug__" : Str)) = false := by decide) : ED X st E (.Name x pos) (eC (.ty n)) :=
  ⟨_, pe_bltn (v := .ty n) hg hm hv rfl hn hd, fun _ _ _ _ _ _ a h => h.fin a.b.kf a.s rfl⟩
/-- a global that is data -/
theorem ed_glob {x : Str} {v : V} {u : Value} {d : D} (hg : Gl X x) (hm : X.mg x = some u) (r : RelV v u) (hdv : ∀ B H, BOk (cf X st) H B → DV (cf X st) d B H v) (hd : (x == ("__debug__" : Str)) = false := by decide) : ED X st E (.Name x pos) (eC d) :=
  ⟨_, pe_glob hg hm r hd, fun _ _ B H _ _ a h => h.fin a.b.kf a.s (hdv B H a.b)⟩

/-! ### arguments, displays -/
def aNil : FA := fun _ s => .ok [] s
def aCons (F : FE) (G : FA) : FA := fun δ s => rb (F δ s) fun d s1 => rb (G δ s1) fun ds s2 => .ok (d :: ds) s2
theorem ad_nil : AD X st E [] aNil := ⟨_, pa_nil, fun _ _ _ _ _ _ a h => h.fin a.b.kf a.s rfl⟩
theorem ad_cons {e : Expr} {es : List Expr} {F : FE} {G : FA} (h1 : ED X st E e F) (h2 : AD X st E es G) (hs : starEach (e :: es) X.env = (false, eval e X.env) :: starEach es X.env := by rfl) : AD X st E (e :: es) (aCons F G) := by
  obtain ⟨t1, p1, r1⟩ := h1
  obtain ⟨t2, p2, r2⟩ := h2
  refine ⟨_, pa_cons p1 p2 hs, fun σ δ B H s Q a h => ?_⟩
  refine r1 σ δ B H s _ a (Post.seq h fun d s1 v H1 kf k hs1 dv h => ?_)
  have a1 := a.keep kf k hs1
  refine r2 σ δ B H1 s1 _ a1 (Post.seq h fun ds s2 vs H2 kf2 k2 hs2 dvs h => ?_)
  exact h.fin kf2 hs2 ⟨v, vs, rfl, DV.grow (a1.b.grow k2) d v dv, dvs⟩
def eTup (F : FA) : FE := fun δ s => rb (F δ s) fun ds s1 => if ds.length ≤ 100000 then .ok (.tup ds) s1 else .stuck
def eLst (F : FA) : FE := fun δ s => rb (F δ s) fun ds s1 => if ds.length ≤ 100000 then .ok (.lst ds) s1 else .stuck
theorem DVs.length {c : Cf} {B : Bad} {H : Hp} : ∀ {ds : List D} {vs : List V}, DVs c ds B H vs → vs.length = ds.length
  | [], _, h => by
    rw [show _ = [] from h]
    rfl
  | d :: ds, _, ⟨v, r, e, _, h⟩ => by
    rw [e, List.length_cons, List.length_cons, DVs.length h]
theorem size5 {n : Nat} (h : n ≤ 100000) : n ≤ sizeLine := Nat.le_trans h (by decide)
theorem BOk.fresh {c : Cf} {H : Hp} {B : Bad} {p : Addr} (b : BOk c H B) (n : H p = none) : ¬ B p := fun q => b.there p q n
theorem KF.old {c : Cf} {H H' : Hp} (kf : KF c H') (k : ∀ a, H a ≠ none → H' a ≠ none) : KF c H := fun a h => kf a (k a h)
theorem ed_tup {es : List Expr} {x1} {F : FA} (h1 : AD X st E es F) : ED X st E (.Tuple es x1 pos) (eTup F) := by
  obtain ⟨t1, p1, r1⟩ := h1
  refine ⟨_, pe_plus (pe_tup p1), fun σ δ B H s Q a h => ?_⟩
  refine r1 σ δ B H s _ a (Post.seq h fun ds s1 vs H1 kf k hs1 dvs h => ?_)
  split at h
  · rename_i hl
    have b1 := a.b.keep kf k hs1
    refine ⟨size5 (by rw [dvs.length]; exact hl), fun p np kf2 => ?_⟩
    have k2 : Keeps (cf X st) H1 (upd H1 p (.tup vs)) := Keeps.new np
    exact h _ _ kf2 k2 (hs1.new np) ⟨p, vs, rfl, b1.fresh np, .inl upd_same, DVs.grow (b1.grow k2) ds vs dvs⟩
  · exact False.elim h
theorem ed_lst {es : List Expr} {F : FA} (h1 : AD X st E es F) : ED X st E (.List es pos) (eLst F) := by
  obtain ⟨t1, p1, r1⟩ := h1
  refine ⟨_, pe_plus (pe_lst p1), fun σ δ B H s Q a h => ?_⟩
  refine r1 σ δ B H s _ a (Post.seq h fun ds s1 vs H1 kf k hs1 dvs h => ?_)
  split at h
  · rename_i hl
    have b1 := a.b.keep kf k hs1
    refine ⟨size5 (by rw [dvs.length]; exact hl), fun p np kf2 => ?_⟩
    have k2 : Keeps (cf X st) H1 (upd H1 p (.lst vs)) := Keeps.new np
    exact h _ _ kf2 k2 (hs1.new np) ⟨p, vs, rfl, b1.fresh np, .inl (.inl upd_same), DVs.grow (b1.grow k2) ds vs dvs⟩
  · exact False.elim h
end
end Mi
namespace Mi
open PySem PySem.Spec PyProof.Rows L2
/-! ### operators by data -/
def OpD (X : Cx) (st : Sto) (f : Value → Value → Sem Value) (g : D → D → Option D) : Prop :=
  ∃ r, OpR X f r ∧ ∀ B H s x y d1 d2 d3 Q, BOk (cf X st) H B → HS (cf X st) H s → DV (cf X st) d1 B H x → DV (cf X st) d2 B H y → g d1 d2 = some d3 →
    (∀ v H', Keeps (cf X st) H H' → HS (cf X st) H' s → DV (cf X st) d3 B H' v → Q v H') → r x y H Q
def CallD (X : Cx) (st : Sto) (f : Value) (g : List D → Option D) : Prop :=
  ∃ r, CallR X f r ∧ ∀ B H s vs ds d3 Q, BOk (cf X st) H B → HS (cf X st) H s → DVs (cf X st) ds B H vs → g ds = some d3 →
    (∀ v H', Keeps (cf X st) H H' → HS (cf X st) H' s → DV (cf X st) d3 B H' v → Q v H') → r vs H Q
def eOp (g : D → D → Option D) (F G : FE) : FE := fun δ s => rb (F δ s) fun x s1 => rb (G δ s1) fun y s2 => op? (g x y) s2
def eCall (g : List D → Option D) (F : FA) : FE := fun δ s => rb (F δ s) fun ds s1 => op? (g ds) s1
def eUn (g : D → Option D) (F : FE) : FE := fun δ s => rb (F δ s) fun x s1 => op? (g x) s1
section
variable {X : Cx} {st : Sto} {E : XK} {pos : Pos} {a b : Expr} {F G : FE}
theorem ed_bin {e : Expr} {r : R2} {g : D → D → Option D} (h1 : ED X st E a F) (h2 : ED X st E b G) (mk : ∀ t1 t2, PE X a t1 → PE X b t2 → PE X e (tOp r t1 t2))
    (hr : ∀ B H s x y d1 d2 d3 Q, BOk (cf X st) H B → HS (cf X st) H s → DV (cf X st) d1 B H x → DV (cf X st) d2 B H y → g d1 d2 = some d3 →
    (∀ v H', Keeps (cf X st) H H' → HS (cf X st) H' s → DV (cf X st) d3 B H' v → Q v H') → r x y H Q) : ED X st E e (eOp g F G) := by
  obtain ⟨t1, p1, r1⟩ := h1
  obtain ⟨t2, p2, r2⟩ := h2
  refine ⟨_, pe_plus (mk t1 t2 p1 p2), fun σ δ B H s Q a h => ?_⟩
  refine r1 σ δ B H s _ a (Post.seq h fun d s1 v H1 kf k hs1 dv h => ?_)
  have a1 := a.keep kf k hs1
  refine r2 σ δ B H1 s1 _ a1 (Post.seq h fun d2 s2 v2 H2 kf2 k2 hs2 dv2 h => ?_)
  obtain ⟨d3, e3, h⟩ := h.opt
  exact hr B H2 s2 v v2 d d2 d3 _ (a1.b.keep kf2 k2 hs2) hs2 (DV.grow (a1.b.grow k2) d v dv) dv2 e3 fun u H3 k3 hs3 dv3 kf3 => h u H3 kf3 k3 hs3 dv3
theorem ed_op {op : Operator} {g : D → D → Option D} (ho : OpD X st (binaryOp op) g) (h1 : ED X st E a F) (h2 : ED X st E b G) : ED X st E (.BinOp a op b pos) (eOp g F G) := by
  obtain ⟨r, o, hr⟩ := ho
  exact ed_bin h1 h2 (fun _ _ p1 p2 => pe_op o p1 p2) hr
theorem ed_cmp {op : CmpOp} {g : D → D → Option D} (ho : OpD X st (compareOp op) g) (h1 : ED X st E a F) (h2 : ED X st E b G) (hm : behindInMarks op b = false) : ED X st E (.Compare a [op] [b] pos) (eOp g F G) := by
  obtain ⟨r, o, hr⟩ := ho
  exact ed_bin h1 h2 (fun _ _ p1 p2 => pe_cmpR o p1 p2 hm) hr

/-! ### which operators -/
def gI (f : Int → Int → Option D) : D → D → Option D := fun x y => match x, y with
  | .int i, .int j => f i j
  | _, _ => none
theorem gI_some {f : Int → Int → Option D} {x y z : D} (e : gI f x y = some z) : ∃ i j, x = .int i ∧ y = .int j ∧ f i j = some z := by
  unfold gI at e
  split at e
  · exact ⟨_, _, rfl, rfl, e⟩
  · cases e
theorem opd_int {f : Value → Value → Sem Value} {C : Int → Int → Prop} {z : Int → Int → V} {w : Int → Int → D} {g : Int → Int → Option D} (o : OpR X f (rI C z)) (hg : ∀ i j d, g i j = some d → C i j ∧ d = w i j)
    (hz : ∀ i j c B H, DV c (w i j) B H (z i j)) : OpD X st f (gI g) := by
  refine ⟨_, o, fun B H s x y d1 d2 d3 Q b hs h1 h2 e h => ?_⟩
  obtain ⟨i, j, rfl, rfl, e⟩ := gI_some e
  obtain ⟨hc, rfl⟩ := hg i j d3 e
  exact ⟨i, j, h1, h2, hc, h _ H (Keeps.refl _ H) hs (hz i j _ B H)⟩
theorem op_I {f : Value → Value → Sem Value} {z : Int → Int → V} (o : OpR X f (rI0 z)) : OpR X f (rI (fun _ _ => True) z) := fun pins s σ H x y v u Q I rx ry ⟨i, j, e1, e2, _, q⟩ => o pins s σ H x y v u Q I rx ry ⟨i, j, e1, e2, q⟩
def gAddI : Int → Int → Option D := fun i j => some (.int (i + j))
def gSubI : Int → Int → Option D := fun i j => some (.int (i - j))
def gMulI : Int → Int → Option D := fun i j => if (Builtin.Int.intBits i : Int) + (Builtin.Int.intBits j : Int) ≤ 134217728 then some (.int (i * j)) else none
def gDivI : Int → Int → Option D := fun i j => if 0 < j ∧ Builtin.divisionGoesByPylong i j = false then some (.int (i / j)) else none
def gModI : Int → Int → Option D := fun i j => if 0 < j then some (.int (i % j)) else none
def gShlI : Int → Int → Option D := fun i j => if 0 ≤ j ∧ (Builtin.Int.intBits i : Int) + j ≤ 134217728 then some (.int (i * 2 ^ j.toNat)) else none
def gShrI : Int → Int → Option D := fun i j => if 0 ≤ j then some (.int (i / 2 ^ j.toNat)) else none
def gPowI : Int → Int → Option D := fun i j => if 0 ≤ j ∧ j ≤ 1000000 ∧ i.natAbs < 2 ^ 64 then some (.int (i ^ j.toNat)) else none
def gAndI : Int → Int → Option D := fun i j => some (.int (Builtin.bitAnd i j))
def gXorI : Int → Int → Option D := fun i j => some (.int (Builtin.bitXor i j))
theorem opd_sub : OpD X st (binaryOp .Sub) (gI gSubI) := opd_int (op_I op_sub) (fun _ _ _ e => ⟨trivial, (Option.some.inj e).symm⟩) fun _ _ _ _ _ => rfl
theorem opd_mul : OpD X st (binaryOp .Mult) (gI gMulI) := opd_int (w := fun i j => .int (i * j)) op_mulX (fun i j d e => by
  unfold gMulI at e
  split at e
  · exact ⟨by assumption, (Option.some.inj e).symm⟩
  · cases e) fun _ _ _ _ _ => rfl
theorem op_fdivP : OpR X (binaryOp .FloorDiv) (rI (fun i j => 0 < j ∧ Builtin.divisionGoesByPylong i j = false) fun i j => .int (i / j)) := opI fun i j _ _ _ _ _ hc q => by
  have h1 : (0 : Int) < j := hc.1
  exact floordiv_int (by omega) (by rw [Int.fdiv_eq_ediv_of_nonneg i (by omega)]; exact q) (.inl hc.2)
theorem opd_div : OpD X st (binaryOp .FloorDiv) (gI gDivI) := opd_int (w := fun i j => .int (i / j)) op_fdivP (fun i j d e => by
  unfold gDivI at e
  split at e
  · exact ⟨by assumption, (Option.some.inj e).symm⟩
  · cases e) fun _ _ _ _ _ => rfl
theorem opd_mod : OpD X st (binaryOp .Mod) (gI gModI) := opd_int (w := fun i j => .int (i % j)) op_mod (fun i j d e => by
  unfold gModI at e
  split at e
  · exact ⟨by assumption, (Option.some.inj e).symm⟩
  · cases e) fun _ _ _ _ _ => rfl
theorem opd_shl : OpD X st (binaryOp .LShift) (gI gShlI) := opd_int (w := fun i j => .int (i * 2 ^ j.toNat)) op_shlW (fun i j d e => by
  unfold gShlI at e
  split at e
  · rename_i hc
    exact ⟨⟨hc.1, by have := hc.2; omega⟩, (Option.some.inj e).symm⟩
  · cases e) fun _ _ _ _ _ => rfl
theorem opd_shr : OpD X st (binaryOp .RShift) (gI gShrI) := opd_int (w := fun i j => .int (i / 2 ^ j.toNat)) op_shr (fun i j d e => by
  unfold gShrI at e
  split at e
  · exact ⟨by assumption, (Option.some.inj e).symm⟩
  · cases e) fun _ _ _ _ _ => rfl
theorem opd_pow : OpD X st (binaryOp .Pow) (gI gPowI) := opd_int (w := fun i j => .int (i ^ j.toNat)) op_pow (fun i j d e => by
  unfold gPowI at e
  split at e
  · exact ⟨by assumption, (Option.some.inj e).symm⟩
  · cases e) fun _ _ _ _ _ => rfl
theorem opd_and : OpD X st (binaryOp .BitAnd) (gI gAndI) := opd_int (op_I op_and) (fun _ _ _ e => ⟨trivial, (Option.some.inj e).symm⟩) fun _ _ _ _ _ => rfl
theorem opd_xor : OpD X st (binaryOp .BitXor) (gI gXorI) := opd_int (op_I op_xor) (fun _ _ _ e => ⟨trivial, (Option.some.inj e).symm⟩) fun _ _ _ _ _ => rfl
/-- + of ints, of texts -/
def gAdd : D → D → Option D := fun x y => match x, y with
  | .int i, .int j => some (.int (i + j))
  | .str i, .str j => if i.length + j.length ≤ 100000 then some (.str (i ++ j)) else none
  | _, _ => none
theorem opd_add : OpD X st (binaryOp .Add) gAdd := by
  refine ⟨_, op_add.or op_add_str, fun B H s x y d1 d2 d3 Q b hs h1 h2 e h => ?_⟩
  unfold gAdd at e
  split at e
  · obtain rfl := Option.some.inj e
    exact .inl ⟨_, _, h1, h2, h _ H (Keeps.refl _ H) hs rfl⟩
  · split at e
    · rename_i hl
      obtain rfl := Option.some.inj e
      exact .inr ⟨_, _, h1, h2, size5 hl, h _ H (Keeps.refl _ H) hs rfl⟩
    · cases e
  · cases e

/-! ### order -/
def gC (f : Int → Int → Bool) (t : Str → Str → Bool) : D → D → Option D := fun x y => match x, y with
  | .int i, .int j => some (.bl (f i j))
  | .str i, .str j => some (.bl (t i j))
  | _, _ => none
theorem opd_cmp {f : Value → Value → Sem Value} {p : Int → Int → Bool} {t : Str → Str → Bool} (o : OpR X f (rI0 fun i j => .bl (p i j))) (o2 : OpR X f (fun x y H Q => ∃ i j, x = .str i ∧ y = .str j ∧ Q (.bl (t i j)) H)) : OpD X st f (gC p t) := by
  refine ⟨_, o.or o2, fun B H s x y d1 d2 d3 Q b hs h1 h2 e h => ?_⟩
  unfold gC at e
  split at e
  · obtain rfl := Option.some.inj e
    exact .inl ⟨_, _, h1, h2, h _ H (Keeps.refl _ H) hs rfl⟩
  · obtain rfl := Option.some.inj e
    exact .inr ⟨_, _, h1, h2, h _ H (Keeps.refl _ H) hs rfl⟩
  · cases e
abbrev gLt := gC (fun i j => decide (i < j)) fun i j => decide (i.cps.toList < j.cps.toList)
abbrev gLe := gC (fun i j => decide (i ≤ j)) fun i j => !decide (j.cps.toList < i.cps.toList)
abbrev gGt := gC (fun i j => decide (j < i)) fun i j => decide (j.cps.toList < i.cps.toList)
abbrev gGe := gC (fun i j => decide (j ≤ i)) fun i j => !decide (i.cps.toList < j.cps.toList)
theorem opd_lt : OpD X st (compareOp .Lt) gLt := opd_cmp op_lt op_lt_str
theorem opd_le : OpD X st (compareOp .LtE) gLe := opd_cmp op_le op_le_str
theorem opd_gt : OpD X st (compareOp .Gt) gGt := opd_cmp op_gt op_gt_str
theorem opd_ge : OpD X st (compareOp .GtE) gGe := opd_cmp op_ge op_ge_str

/-! ### equality -/
mutual
def pd : D → Option PyData
  | .non => some .none
  | .bl b => some (.bool b)
  | .int i => some (.int i)
  | .str x => some (.str x)
  | .tup l => (pds l).map .tuple
  | .lst l => (pds l).map .list
  | .ty _ => none
  | .sto => none
  | .exc _ => none
  | .cls _ => none
  | .thk _ _ => none
def pds : List D → Option (List PyData)
  | [] => some []
  | d :: ds => match pd d, pds ds with
    | some x, some r => some (x :: r)
    | _, _ => none
end
def flat : D → Option V
  | .non => some .non
  | .bl b => some (.bl b)
  | .int i => some (.int i)
  | .str x => some (.str x)
  | _ => none
def dEqG (a b : D) : Option Bool := match pd a, pd b with
  | some x, some y => if SeqAt.shaped x = true ∧ SeqAt.shaped y = true then some (PyData.eqv x y) else none
  | _, _ => none
def dEqB (a b : D) : Option Bool := match flat a, flat b with
  | some x, some y => if scal x y = true then some (decide (x = y)) else dEqG a b
  | _, _ => dEqG a b
def gEq (a b : D) : Option D := (dEqB a b).map .bl
def gNe (a b : D) : Option D := (dEqB a b).map fun k => .bl (!k)
theorem flat_dv {c : Cf} {B : Bad} {H : Hp} {d : D} {v x : V} (e : flat d = some x) (h : DV c d B H v) : v = x := by
  cases d <;> first | (obtain rfl := Option.some.inj e; exact h) | exact nomatch e
mutual
theorem pd_dp {c : Cf} {B : Bad} {H : Hp} : ∀ (d : D) (p : PyData) (v : V), pd d = some p → DV c d B H v → L2.Dp c.K H v p
  | .non, p, v, e, h => by
    obtain rfl := Option.some.inj (show some PyData.none = some p by simpa [pd] using e)
    rw [show v = .non from h]
    exact .non
  | .bl b, p, v, e, h => by
    obtain rfl := Option.some.inj (show some (PyData.bool b) = some p by simpa [pd] using e)
    rw [show v = .bl b from h]
    exact .bl b
  | .int b, p, v, e, h => by
    obtain rfl := Option.some.inj (show some (PyData.int b) = some p by simpa [pd] using e)
    rw [show v = .int b from h]
    exact .int b
  | .str b, p, v, e, h => by
    obtain rfl := Option.some.inj (show some (PyData.str b) = some p by simpa [pd] using e)
    rw [show v = .str b from h]
    exact .str b
  | .tup l, p, v, e, h => by
    obtain ⟨a, xs, rfl, _, h1, h2⟩ := h
    unfold pd at e
    obtain ⟨ps, e1, rfl⟩ := Option.map_eq_some_iff.mp e
    exact .tup h1.sq (pds_dp l ps xs e1 h2)
  | .lst l, p, v, e, h => by
    obtain ⟨a, xs, rfl, _, h1, h2⟩ := h
    unfold pd at e
    obtain ⟨ps, e1, rfl⟩ := Option.map_eq_some_iff.mp e
    exact .lst h1 (pds_dp l ps xs e1 h2)
  | .ty _, p, v, e, h => by simp [pd] at e
  | .sto, p, v, e, h => by simp [pd] at e
  | .exc _, p, v, e, h => by simp [pd] at e
  | .cls _, p, v, e, h => by simp [pd] at e
  | .thk _ _, p, v, e, h => by simp [pd] at e
theorem pds_dp {c : Cf} {B : Bad} {H : Hp} : ∀ (l : List D) (ps : List PyData) (vs : List V), pds l = some ps → DVs c l B H vs → L2.DpAll c.K H vs ps
  | [], ps, vs, e, h => by
    obtain rfl := Option.some.inj (show some [] = some ps by simpa [pds] using e)
    rw [show vs = [] from h]
    exact .nil
  | d :: ds, ps, vs, e, h => by
    obtain ⟨v, r, rfl, h1, h2⟩ := h
    unfold pds at e
    split at e
    · rename_i x q e1 e2
      obtain rfl := Option.some.inj e
      exact .cons (pd_dp d x v e1 h1) (pds_dp ds q r e2 h2)
    · cases e
end
theorem eq_side {c : Cf} {B : Bad} {H : Hp} {x y : V} {d1 d2 : D} {k : Bool} (e : dEqB d1 d2 = some k) (h1 : DV c d1 B H x) (h2 : DV c d2 B H y) :
    (scal x y = true ∧ k = decide (x = y)) ∨ ∃ d e, L2.Dp c.K H x d ∧ L2.Dp c.K H y e ∧ SeqAt.shaped d = true ∧ SeqAt.shaped e = true ∧ k = PyData.eqv d e := by
  have gen : dEqG d1 d2 = some k → ∃ d e, L2.Dp c.K H x d ∧ L2.Dp c.K H y e ∧ SeqAt.shaped d = true ∧ SeqAt.shaped e = true ∧ k = PyData.eqv d e := fun e => by
    unfold dEqG at e
    split at e
    · rename_i p q e1 e2
      split at e
      · rename_i hs
        exact ⟨p, q, pd_dp d1 p x e1 h1, pd_dp d2 q y e2 h2, hs.1, hs.2, (Option.some.inj e).symm⟩
      · cases e
    · cases e
  unfold dEqB at e
  split at e
  · rename_i p q e1 e2
    have q1 := flat_dv e1 h1
    have q2 := flat_dv e2 h2
    subst q1 q2
    split at e
    · rename_i hs
      exact .inl ⟨hs, (Option.some.inj e).symm⟩
    · exact .inr (gen e)
  · exact .inr (gen e)
theorem opd_eq (hu : X.A.units + 64 < cLine) : OpD X st (compareOp .Eq) gEq := by
  refine ⟨_, op_eq.or (op_eqD hu), fun B H s x y d1 d2 d3 Q b hs h1 h2 e h => ?_⟩
  obtain ⟨k, e1, rfl⟩ := Option.map_eq_some_iff.mp e
  rcases eq_side e1 h1 h2 with ⟨z, rfl⟩ | ⟨p, q, z1, z2, z3, z4, rfl⟩
  · exact .inl ⟨z, h _ H (Keeps.refl _ H) hs rfl⟩
  · exact .inr ⟨p, q, z1, z2, z3, z4, h _ H (Keeps.refl _ H) hs rfl⟩
theorem opd_ne (hu : X.A.units + 64 < cLine) : OpD X st (compareOp .NotEq) gNe := by
  refine ⟨_, op_ne.or (op_neD hu), fun B H s x y d1 d2 d3 Q b hs h1 h2 e h => ?_⟩
  obtain ⟨k, e1, rfl⟩ := Option.map_eq_some_iff.mp e
  rcases eq_side e1 h1 h2 with ⟨z, rfl⟩ | ⟨p, q, z1, z2, z3, z4, rfl⟩
  · exact .inl ⟨z, h _ H (Keeps.refl _ H) hs rfl⟩
  · exact .inr ⟨p, q, z1, z2, z3, z4, h _ H (Keeps.refl _ H) hs rfl⟩

/-! ### is, in -/
def isNon : D → Bool
  | .non => true
  | _ => false
def gIs (a b : D) : Option D := match a, b with
  | .ty x, .ty y => some (.bl (decide (x = y)))
  | x, .non => some (.bl (isNon x))
  | _, _ => none
def gIsN (a b : D) : Option D := match a, b with
  | .ty x, .ty y => some (.bl (!decide (x = y)))
  | x, .non => some (.bl (!isNon x))
  | _, _ => none
theorem dv_non {c : Cf} {B : Bad} {H : Hp} {d : D} {v : V} (h : DV c d B H v) : (decide (v = .non)) = isNon d := by
  cases d with
  | non => rw [show v = .non from h]; rfl
  | bl b => rw [show v = .bl b from h]; rfl
  | int b => rw [show v = .int b from h]; rfl
  | str b => rw [show v = .str b from h]; rfl
  | ty b => rw [show v = .ty b from h]; rfl
  | tup l => obtain ⟨a, xs, rfl, _⟩ := h; rfl
  | lst l => obtain ⟨a, xs, rfl, _⟩ := h; rfl
  | sto => obtain ⟨a, _, rfl⟩ := h; rfl
  | exc _ => obtain ⟨a, _, rfl⟩ := h; rfl
  | cls _ => obtain ⟨a, _, rfl⟩ := h; rfl
  | thk e p => obtain ⟨a, _, _, _, _, rfl, _⟩ := h; rfl
theorem opd_is : OpD X st (compareOp .Is) gIs := by
  refine ⟨_, op_isTyB.or op_isN, fun B H s x y d1 d2 d3 Q b hs h1 h2 e h => ?_⟩
  unfold gIs at e
  split at e
  · obtain rfl := Option.some.inj e
    exact .inl ⟨_, _, h1, h2, h _ H (Keeps.refl _ H) hs rfl⟩
  · refine .inr ⟨h2, h _ H (Keeps.refl _ H) hs ?_⟩
    obtain rfl := Option.some.inj e
    rw [dv_non h1]
    rfl
  · cases e
theorem opd_isN : OpD X st (compareOp .IsNot) gIsN := by
  refine ⟨_, op_notTyB.or op_notN, fun B H s x y d1 d2 d3 Q b hs h1 h2 e h => ?_⟩
  unfold gIsN at e
  split at e
  · obtain rfl := Option.some.inj e
    exact .inl ⟨_, _, h1, h2, h _ H (Keeps.refl _ H) hs rfl⟩
  · refine .inr ⟨h2, h _ H (Keeps.refl _ H) hs ?_⟩
    obtain rfl := Option.some.inj e
    rw [dv_non h1]
    rfl
  · cases e
def flats : List D → Option (List V)
  | [] => some []
  | d :: ds => match flat d, flats ds with
    | some x, some r => some (x :: r)
    | _, _ => none
theorem flats_dv {c : Cf} {B : Bad} {H : Hp} : ∀ {ds : List D} {xs vs : List V}, flats ds = some xs → DVs c ds B H vs → vs = xs
  | [], xs, vs, e, h => by
    obtain rfl := Option.some.inj e
    exact h
  | d :: ds, xs, vs, e, h => by
    obtain ⟨v, r, rfl, h1, h2⟩ := h
    unfold flats at e
    split at e
    · rename_i x q e1 e2
      obtain rfl := Option.some.inj e
      rw [flat_dv e1 h1, flats_dv e2 h2]
    · cases e
theorem flat_ok {d : D} {x : V} (e : flat d = some x) : flatV x = true := by
  cases d <;> first | (obtain rfl := Option.some.inj e; rfl) | exact nomatch e
theorem flats_ok : ∀ {ds : List D} {xs : List V}, flats ds = some xs → xs.all flatV = true
  | [], xs, e => by
    obtain rfl := Option.some.inj e
    rfl
  | d :: ds, xs, e => by
    unfold flats at e
    split at e
    · rename_i x q e1 e2
      obtain rfl := Option.some.inj e
      rw [List.all_cons, flat_ok e1, flats_ok e2]
      rfl
    · cases e
def itemsOf : D → Option (List D)
  | .tup l => some l
  | .lst l => some l
  | _ => none
theorem items_dv {c : Cf} {B : Bad} {H : Hp} {d : D} {ds : List D} {v : V} (e : itemsOf d = some ds) (h : DV c d B H v) : ∃ a xs, v = .ref a ∧ (SqL c.K H a xs ∨ SqT c.K H a xs) ∧ DVs c ds B H xs := by
  unfold itemsOf at e
  split at e
  · obtain rfl := Option.some.inj e
    obtain ⟨a, xs, e1, _, h1, h2⟩ := h
    exact ⟨a, xs, e1, .inr h1.sq, h2⟩
  · obtain rfl := Option.some.inj e
    obtain ⟨a, xs, e1, _, h1, h2⟩ := h
    exact ⟨a, xs, e1, .inl h1, h2⟩
  · cases e
def dIn (x y : D) : Option Bool := match flat x, (itemsOf y).bind flats with
  | some a, some l => some (inV a l)
  | _, _ => none
def gIn (x y : D) : Option D := (dIn x y).map .bl
def gNotIn (x y : D) : Option D := (dIn x y).map fun k => .bl (!k)
theorem in_side {c : Cf} {B : Bad} {H : Hp} {x y : V} {d1 d2 : D} {k : Bool} (e : dIn d1 d2 = some k) (h1 : DV c d1 B H x) (h2 : DV c d2 B H y) :
    ∃ p xs, y = .ref p ∧ (SqL c.K H p xs ∨ SqT c.K H p xs) ∧ flatV x = true ∧ xs.all flatV = true ∧ k = inV x xs := by
  unfold dIn at e
  split at e
  · rename_i a l e1 e2
    obtain ⟨ds, e3, e4⟩ := Option.bind_eq_some_iff.mp e2
    obtain ⟨p, xs, e5, q1, q2⟩ := items_dv e3 h2
    have z1 := flat_dv e1 h1
    have z2 := flats_dv e4 q2
    subst z1 z2
    exact ⟨p, xs, e5, q1, flat_ok e1, flats_ok e4, (Option.some.inj e).symm⟩
  · cases e
theorem opd_in : OpD X st (compareOp .In) gIn := by
  refine ⟨_, op_in_seq, fun B H s x y d1 d2 d3 Q b hs h1 h2 e h => ?_⟩
  obtain ⟨k, e1, rfl⟩ := Option.map_eq_some_iff.mp e
  obtain ⟨p, xs, z1, z2, z3, z4, rfl⟩ := in_side e1 h1 h2
  exact ⟨p, xs, z1, z2, z3, z4, h _ H (Keeps.refl _ H) hs rfl⟩
theorem opd_notIn : OpD X st (compareOp .NotIn) gNotIn := by
  refine ⟨_, op_notIn_seq, fun B H s x y d1 d2 d3 Q b hs h1 h2 e h => ?_⟩
  obtain ⟨k, e1, rfl⟩ := Option.map_eq_some_iff.mp e
  obtain ⟨p, xs, z1, z2, z3, z4, rfl⟩ := in_side e1 h1 h2
  exact ⟨p, xs, z1, z2, z3, z4, h _ H (Keeps.refl _ H) hs rfl⟩

/-! ### subscripts -/
theorem dvs_at {c : Cf} {B : Bad} {H : Hp} : ∀ {ds : List D} {vs : List V} {j : Nat} {d : D}, DVs c ds B H vs → ds[j]? = some d → ∃ v, vs[j]? = some v ∧ DV c d B H v
  | [], _, _, _, _, e => by simp at e
  | d0 :: ds, _, 0, d, ⟨v, r, e1, h1, h2⟩, e => by
    obtain rfl : d0 = d := by simpa using e
    exact ⟨v, by rw [e1]; rfl, h1⟩
  | d0 :: ds, _, j + 1, d, ⟨v, r, e1, h1, h2⟩, e => by
    obtain ⟨u, q1, q2⟩ := dvs_at (j := j) (d := d) h2 (by simpa using e)
    exact ⟨u, by rw [e1]; simpa using q1, q2⟩
theorem dvs_atI {c : Cf} {B : Bad} {H : Hp} {ds : List D} {vs : List V} {i : Int} {d : D} (h : DVs c ds B H vs) (e : atI ds i = some d) : ∃ v, atI vs i = some v ∧ DV c d B H v := by
  unfold atI at e
  obtain ⟨j, e1, e2⟩ := Option.bind_eq_some_iff.mp e
  obtain ⟨v, q1, q2⟩ := dvs_at h e2
  refine ⟨v, ?_, q2⟩
  unfold atI
  rw [h.length, e1]
  exact q1
def gIx (x i : D) : Option D := match x, i with
  | .tup l, .int i => atI l i
  | .lst l, .int i => atI l i
  | .str z, .int i => if z.length ≤ 100000 then (atI z.cps.toList i).map fun c => .str ⟨#[c]⟩ else none
  | _, _ => none
theorem ed_ix (h1 : ED X st E a F) (h2 : ED X st E b G) (hs : PlainIx b := by exact fun _ _ => rfl) : ED X st E (.Subscript a b pos) (eOp gIx F G) := by
  refine ed_bin h1 h2 (fun _ _ p1 p2 => pe_ix ix_seq p1 p2 hs) fun B H s x y d1 d2 d3 Q b hs h1 h2 e h => ?_
  unfold gIx at e
  split at e
  · obtain ⟨p, xs, e1, _, h3, h4⟩ := h1
    obtain ⟨v, q1, q2⟩ := dvs_atI h4 e
    exact .inr (.inl ⟨p, xs, _, v, e1, h2, h3.sq, q1, h v H (Keeps.refl _ H) hs q2⟩)
  · obtain ⟨p, xs, e1, _, h3, h4⟩ := h1
    obtain ⟨v, q1, q2⟩ := dvs_atI h4 e
    exact .inl ⟨p, xs, _, v, e1, h2, h3, q1, h v H (Keeps.refl _ H) hs q2⟩
  · split at e
    · rename_i hz
      obtain ⟨k, e1, rfl⟩ := Option.map_eq_some_iff.mp e
      exact .inr (.inr ⟨_, _, k, h1, h2, size5 hz, e1, h _ H (Keeps.refl _ H) hs rfl⟩)
    · cases e
  · cases e
end
end Mi
namespace Mi
open PySem PySem.Spec PyProof.Rows L2
section
variable {X : Cx} {st : Sto} {E : XK} {pos : Pos} {a b : Expr} {F G : FE}
/-! ### unary, chains -/
def gNeg : D → Option D
  | .int i => some (.int (-i))
  | _ => none
theorem ed_neg (h1 : ED X st E a F) : ED X st E (.UnaryOp .USub a pos) (eUn gNeg F) := by
  obtain ⟨t1, p1, r1⟩ := h1
  refine ⟨_, pe_plus (pe_un un_neg p1), fun σ δ B H s Q a h => ?_⟩
  refine r1 σ δ B H s _ a (Post.seq h fun d s1 v H1 kf k hs1 dv h => ?_)
  obtain ⟨d3, e3, h⟩ := h.opt
  unfold gNeg at e3
  split at e3
  · obtain rfl := Option.some.inj e3
    exact ⟨_, dv, fun kf2 => h _ H1 kf2 (Keeps.refl _ H1) hs1 rfl⟩
  · cases e3

/-- what follows a value in a chain of comparisons -/
def ChD (X : Cx) (st : Sto) (E : XK) (pos : Pos) (ops : List CmpOp) (rs : List (Sem Value)) (F : D → FE) : Prop :=
  ∃ t : V → TE, (∀ (pins : List (Addr × Obj)) (s : Shared) (σ : L2.St) (H : Hp) (x : V) (u : Value) (Q : VK), Inv X pins σ H s → RelV x u → t x σ H Q →
      wpAny (model X.prog X.w) X.A (compareChain pos u ops rs) (EP X pins σ Q) X.xe s) ∧
    ∀ σ δ B H s d x Q, At (cf X st) B H s σ δ → DV (cf X st) d B H x → Post (cf X st) (relD (cf X st) B) (F d δ s) H Q E → t x σ H Q
def cLast (g : D → D → Option D) (G : FE) : D → FE := fun x δ s => rb (G δ s) fun y s1 => op? (g x y) s1
def cLink (g : D → D → Option D) (G : FE) (k : D → FE) : D → FE := fun x δ s => rb (G δ s) fun y s1 => rb (op? (g x y) s1) fun z s2 => match z with
  | .bl true => k y δ s2
  | .bl false => .ok (.bl false) s2
  | _ => .stuck
def eChain (F : FE) (k : D → FE) : FE := fun δ s => rb (F δ s) fun x s1 => k x δ s1
theorem ch_last {op : CmpOp} {g : D → D → Option D} (ho : OpD X st (compareOp op) g) (h2 : ED X st E b G) : ChD X st E pos [op] [eval b X.env] (cLast g G) := by
  obtain ⟨r, o, hr⟩ := ho
  obtain ⟨t2, p2, r2⟩ := h2
  refine ⟨fun x => tP X.K fun σ H Q => t2 σ H fun y H2 => r x y H2 Q, fun pins s σ H x u Q I rx h => ?_, fun σ δ B H s d x Q a dv h => ?_⟩
  · refine chain_last (thn (p2.run pins s σ H _ I h) fun w' s4 ⟨z', H4, I4, r4, q4⟩ => thn (o pins s4 σ H4 x z' u w' _ I4 rx r4 q4) fun _ _ ⟨v, H5, I5, r5, q5⟩ => ⟨v, H5, I5, r5, q5 (inv_kf I5)⟩)
  · refine r2 σ δ B H s _ a (Post.seq h fun d2 s2 v2 H2 kf2 k2 hs2 dv2 h => ?_)
    obtain ⟨d3, e3, h⟩ := h.opt
    exact hr B H2 s2 x v2 d d2 d3 _ (a.b.keep kf2 k2 hs2) hs2 (DV.grow (a.b.grow k2) d x dv) dv2 e3 fun u H3 k3 hs3 dv3 kf3 => h u H3 kf3 k3 hs3 dv3
theorem ch_link {op op' : CmpOp} {ops : List CmpOp} {r' : Sem Value} {rs : List (Sem Value)} {g : D → D → Option D} {k : D → FE} (ho : OpD X st (compareOp op) g) (h2 : ED X st E b G) (hk : ChD X st E pos (op' :: ops) (r' :: rs) k) :
    ChD X st E pos (op :: op' :: ops) (eval b X.env :: r' :: rs) (cLink g G k) := by
  obtain ⟨r, o, hr⟩ := ho
  obtain ⟨t2, p2, r2⟩ := h2
  obtain ⟨tk, pk, rk⟩ := hk
  refine ⟨fun x σ H Q => t2 σ H fun y H2 => r x y H2 fun z H3 => KF (cf X st) H3 → ∃ k, z = .bl k ∧ (if k = true then tk y σ H3 Q else Q (.bl false) H3), fun pins s σ H x u Q I rx h => ?_, fun σ δ B H s d x Q a dv h => ?_⟩
  · refine chain_link (thn (p2.run pins s σ H _ I h) fun w' s2 ⟨y, H2, I2, r4, q2⟩ => thn (o pins s2 σ H2 x y u w' _ I2 rx r4 q2) fun d s3 ⟨z, H3, I3, r3, q3⟩ => ?_)
    obtain ⟨k, ez, q3'⟩ := q3 (inv_kf I3)
    subst ez
    cases r3
    refine wpAny_truthy_bool ?_
    cases k with
    | false => exact ite_ff ⟨.bl false, H3, I3, rfl, q3'⟩
    | true => exact ite_tt (pk pins s3 σ H3 y w' _ I3 r4 q3')
  · refine r2 σ δ B H s _ a (Post.seq h fun d2 s2 v2 H2 kf2 k2 hs2 dv2 h => ?_)
    have a2 := a.keep kf2 k2 hs2
    cases e3 : g d d2 with
    | none =>
      rw [e3] at h
      exact False.elim h
    | some d3 =>
      rw [e3] at h
      refine hr B H2 s2 x v2 d d2 d3 _ a2.b hs2 (DV.grow (a.b.grow k2) d x dv) dv2 e3 fun z H3 k3 hs3 dv3 kf3 => ?_
      cases d3 with
      | bl kk =>
        refine ⟨kk, dv3, ?_⟩
        cases kk with
        | true => exact rk σ δ B H3 s2 d2 v2 Q (a2.keep kf3 k3 hs3) (DV.grow (a2.b.grow k3) d2 v2 dv2) (Post.mono k3 h)
        | false =>
          rw [if_neg Bool.false_ne_true]
          exact Post.fin (rel := relD (cf X st) B) (Post.mono k3 h) kf3 hs3 rfl
      | _ => exact False.elim h
theorem ed_chain {op op' : CmpOp} {ops : List CmpOp} {e1 e2 : Expr} {es : List Expr} {k : D → FE} (h1 : ED X st E a F) (hk : ChD X st E pos (op :: op' :: ops) (eval e1 X.env :: eval e2 X.env :: evalEach es X.env) k)
    (hm : lastMarks (op :: op' :: ops) (e1 :: e2 :: es) = false := by with_unfolding_all rfl) : ED X st E (.Compare a (op :: op' :: ops) (e1 :: e2 :: es) pos) (eChain F k) := by
  obtain ⟨t1, p1, r1⟩ := h1
  obtain ⟨tk, pk, rk⟩ := hk
  refine ⟨fun σ H Q => t1 σ H fun x H1 => tk x σ H1 Q, ⟨fun pins s σ H Q I h => ?_⟩, fun σ δ B H s Q a h => ?_⟩
  · exact Compare_chain (thn (p1.run pins s σ H _ I h) fun v s1 ⟨x, H1, I1, rr, q1⟩ => pk pins s1 σ H1 x v _ I1 rr q1) hm
  · refine r1 σ δ B H s _ a (Post.seq h fun d s1 v H1 kf k hs1 dv h => ?_)
    exact rk σ δ B H1 s1 d v Q (a.keep kf k hs1) dv h
/-- .. as a test -/
def TChD (X : Cx) (st : Sto) (E : XK) (pos : Pos) (ops : List CmpOp) (rs : List (Sem Value)) (F : D → FE) : Prop :=
  ∃ t : V → L2.St → Hp → (Bool → Hp → Prop) → Prop, (∀ (pins : List (Addr × Obj)) (s : Shared) (σ : L2.St) (H : Hp) (x : V) (u : Value) (Q : Bool → Hp → Prop), Inv X pins σ H s → RelV x u → t x σ H Q →
      wpAny (model X.prog X.w) X.A (testChain pos u ops rs) (TP X pins σ Q) X.xe s) ∧
    ∀ σ δ B H s d x Q, At (cf X st) B H s σ δ → DV (cf X st) d B H x → Post (cf X st) relB (rb (F d δ s) fun z s2 => match z with | .bl k => .ok k s2 | _ => .stuck) H Q E → t x σ H Q
def tb? (r : R D) : R Bool := rb r fun z s2 => match z with
  | .bl k => .ok k s2
  | _ => .stuck
theorem tch_last {op : CmpOp} {g : D → D → Option D} (ho : OpD X st (compareOp op) g) (h2 : ED X st E b G) : TChD X st E pos [op] [eval b X.env] (cLast g G) := by
  obtain ⟨r, o, hr⟩ := ho
  obtain ⟨t2, p2, r2⟩ := h2
  refine ⟨fun x σ H Q => t2 σ H fun y H2 => r x y H2 fun z H3 => KF (cf X st) H3 → ∃ k, z = .bl k ∧ Q k H3, fun pins s σ H x u Q I rx h => ?_, fun σ δ B H s d x Q a dv h => ?_⟩
  · refine test_last (thn (p2.run pins s σ H _ I h) fun w' s4 ⟨z', H4, I4, r4, q4⟩ => thn (o pins s4 σ H4 x z' u w' _ I4 rx r4 q4) fun _ _ ⟨v, H5, I5, r5, q5⟩ => ?_)
    obtain ⟨k, ez, q⟩ := q5 (inv_kf I5)
    subst ez
    cases r5
    exact wpAny_truthy_bool ⟨H5, I5, q⟩
  · cases eG : G δ s with
    | stuck =>
      unfold cLast at h
      rw [eG] at h
      exact False.elim h
    | err x p s' =>
      unfold cLast at h
      rw [eG] at h
      refine r2 σ δ B H s _ a ?_
      rw [eG]
      exact h
    | ok d2 s2 =>
      unfold cLast at h
      rw [eG] at h
      refine r2 σ δ B H s _ a ?_
      rw [eG]
      intro v2 H2 kf2 k2 hs2 dv2
      cases e3 : g d d2 with
      | none =>
        simp only [rb, e3, op?] at h
        exact False.elim h
      | some d3 =>
        simp only [rb, e3, op?] at h
        refine hr B H2 s2 x v2 d d2 d3 _ (a.b.keep kf2 k2 hs2) hs2 (DV.grow (a.b.grow k2) d x dv) dv2 e3 fun z H3 k3 hs3 dv3 kf3 => ?_
        cases d3 with
        | bl kk => exact ⟨kk, dv3, Post.fin (rel := relB) (Post.mono (k2.trans k3) h) kf3 hs3 rfl⟩
        | _ => exact False.elim h
theorem tch_link {op op' : CmpOp} {ops : List CmpOp} {r' : Sem Value} {rs : List (Sem Value)} {g : D → D → Option D} {k : D → FE} (ho : OpD X st (compareOp op) g) (h2 : ED X st E b G) (hk : TChD X st E pos (op' :: ops) (r' :: rs) k) :
    TChD X st E pos (op :: op' :: ops) (eval b X.env :: r' :: rs) (cLink g G k) := by
  obtain ⟨r, o, hr⟩ := ho
  obtain ⟨t2, p2, r2⟩ := h2
  obtain ⟨tk, pk, rk⟩ := hk
  refine ⟨fun x σ H Q => t2 σ H fun y H2 => r x y H2 fun z H3 => KF (cf X st) H3 → ∃ k, z = .bl k ∧ (if k = true then tk y σ H3 Q else Q false H3), fun pins s σ H x u Q I rx h => ?_, fun σ δ B H s d x Q a dv h => ?_⟩
  · refine test_link (thn (p2.run pins s σ H _ I h) fun w' s2 ⟨y, H2, I2, r4, q2⟩ => thn (o pins s2 σ H2 x y u w' _ I2 rx r4 q2) fun d s3 ⟨z, H3, I3, r3, q3⟩ => ?_)
    obtain ⟨k, ez, q3'⟩ := q3 (inv_kf I3)
    subst ez
    cases r3
    refine wpAny_truthy_bool ?_
    cases k with
    | false => exact ite_ff ⟨H3, I3, q3'⟩
    | true => exact ite_tt (pk pins s3 σ H3 y w' _ I3 r4 q3')
  · cases eG : G δ s with
    | stuck =>
      unfold cLink at h
      rw [eG] at h
      exact False.elim h
    | err x p s' =>
      unfold cLink at h
      rw [eG] at h
      refine r2 σ δ B H s _ a ?_
      rw [eG]
      exact h
    | ok d2 s2 =>
      unfold cLink at h
      rw [eG] at h
      refine r2 σ δ B H s _ a ?_
      rw [eG]
      intro v2 H2 kf2 k2 hs2 dv2
      have a2 := a.keep kf2 k2 hs2
      cases e3 : g d d2 with
      | none =>
        simp only [rb, e3, op?] at h
        exact False.elim h
      | some d3 =>
        simp only [rb, e3, op?] at h
        refine hr B H2 s2 x v2 d d2 d3 _ a2.b hs2 (DV.grow (a.b.grow k2) d x dv) dv2 e3 fun z H3 k3 hs3 dv3 kf3 => ?_
        cases d3 with
        | bl kk =>
          refine ⟨kk, dv3, ?_⟩
          cases kk with
          | true => exact rk σ δ B H3 s2 d2 v2 Q (a2.keep kf3 k3 hs3) (DV.grow (a2.b.grow k3) d2 v2 dv2) (Post.mono (k2.trans k3) h)
          | false => exact Post.fin (rel := relB) (Post.mono (k2.trans k3) h) kf3 hs3 rfl
        | _ => exact False.elim h
def tChain (F : FE) (k : D → FE) : FT := fun δ s => tb? (eChain F k δ s)
theorem td_chain {op op' : CmpOp} {ops : List CmpOp} {e1 e2 : Expr} {es : List Expr} {k : D → FE} (h1 : ED X st E a F) (hk : TChD X st E pos (op :: op' :: ops) (eval e1 X.env :: eval e2 X.env :: evalEach es X.env) k)
    (hm : lastMarks (op :: op' :: ops) (e1 :: e2 :: es) = false := by with_unfolding_all rfl) : TD X st E (.Compare a (op :: op' :: ops) (e1 :: e2 :: es) pos) (tChain F k) := by
  obtain ⟨t1, p1, r1⟩ := h1
  obtain ⟨tk, pk, rk⟩ := hk
  refine ⟨fun σ H Q => t1 σ H fun x H1 => tk x σ H1 Q, ⟨fun pins s σ H Q I h => ?_⟩, fun σ δ B H s Q a h => ?_⟩
  · exact isTrue_chain (thn (p1.run pins s σ H _ I h) fun v s1 ⟨x, H1, I1, rr, q1⟩ => pk pins s1 σ H1 x v _ I1 rr q1) hm
  · refine r1 σ δ B H s _ a ?_
    unfold tChain tb? eChain at h
    cases eF : F δ s with
    | stuck =>
      rw [eF] at h
      exact h
    | err x p s' =>
      rw [eF] at h
      exact h
    | ok d s1 =>
      rw [eF] at h
      intro v H1 kf k hs1 dv
      exact rk σ δ B H1 s1 d v Q (a.keep kf k hs1) dv (Post.mono k h)

/-! ### tests -/
def tCmp (g : D → D → Option D) (F G : FE) : FT := fun δ s => tb? (eOp g F G δ s)
theorem tb_ok {c : Cf} {B : Bad} {r : R D} {H : Hp} {Q : Bool → Hp → Prop} {E : XK} (h : Post c relB (tb? r) H Q E) : Post c (relD c B) r H (fun v H' => ∃ k, v = .bl k ∧ Q k H') E := by
  cases r with
  | ok d s =>
    intro v H' kf k hs dv
    cases d with
    | bl kk => exact ⟨kk, dv, h kk H' kf k hs rfl⟩
    | _ => exact False.elim h
  | err x p s => exact h
  | stuck => exact h
theorem td_cmp {op : CmpOp} {g : D → D → Option D} (ho : OpD X st (compareOp op) g) (h1 : ED X st E a F) (h2 : ED X st E b G) (hm : behindInMarks op b = false) : TD X st E (.Compare a [op] [b] pos) (tCmp g F G) := by
  obtain ⟨r, o, hr⟩ := ho
  obtain ⟨t1, p1, r1⟩ := h1
  obtain ⟨t2, p2, r2⟩ := h2
  refine ⟨fun σ H Q => tOp r t1 t2 σ H fun x H1 => KF (cf X st) H1 → ∃ k, x = .bl k ∧ Q k H1, ⟨fun pins s σ H Q I hw => ?_⟩, fun σ δ B H s Q a h => ?_⟩
  · refine (pt_cmpR (X := X) (r := fun x y H Q => r x y H fun z H1 => KF (cf X st) H1 → Q z H1) (fun pins s σ H x y v u Q I rx ry h => thn (o pins s σ H x y v u _ I rx ry h) fun _ _ ⟨v, H5, I5, r5, q5⟩ => ⟨v, H5, I5, r5, q5 (inv_kf I5)⟩) p1 p2 hm).run pins s σ H Q I hw
  · have h' := tb_ok (B := B) h
    refine r1 σ δ B H s _ a (Post.seq h' fun d s1 v H1 kf k hs1 dv h => ?_)
    have a1 := a.keep kf k hs1
    refine r2 σ δ B H1 s1 _ a1 (Post.seq h fun d2 s2 v2 H2 kf2 k2 hs2 dv2 h => ?_)
    obtain ⟨d3, e3, h⟩ := h.opt
    exact hr B H2 s2 v v2 d d2 d3 _ (a1.b.keep kf2 k2 hs2) hs2 (DV.grow (a1.b.grow k2) d v dv) dv2 e3 fun u H3 k3 hs3 dv3 kf3 => h u H3 kf3 k3 hs3 dv3
def truD : D → Option Bool
  | .non => some false
  | .bl b => some b
  | .int i => some (i != 0)
  | .str y => if y.length ≤ 100000 then some ((y.length : Int) != 0) else none
  | .tup l => some (!l.isEmpty)
  | .lst l => some (!l.isEmpty)
  | _ => none
def tTru (F : FE) : FT := fun δ s => rb (F δ s) fun x s1 => op? (truD x) s1
theorem isEmpty_dv {c : Cf} {B : Bad} {H : Hp} {l : List D} {xs : List V} (h : DVs c l B H xs) : xs.isEmpty = l.isEmpty := by
  cases l with
  | nil =>
    rw [show xs = [] from h]
    rfl
  | cons d ds =>
    obtain ⟨v, r, rfl, _⟩ := h
    rfl
theorem td_tru (h1 : ED X st E a F) (he : ∀ whole, isTrue a X.env whole = (do let v ← whole; standAt a.pos; holding [v] (truthy v)) := by intro _; rfl) : TD X st E a (tTru F) := by
  obtain ⟨t1, p1, r1⟩ := h1
  refine ⟨_, pt_truth p1 he, fun σ δ B H s Q a h => ?_⟩
  refine r1 σ δ B H s _ a (Post.seq h fun d s1 v H1 kf k hs1 dv h => ?_)
  obtain ⟨k, e, h⟩ := h.opt
  refine ⟨k, ?_, h.fin kf hs1 rfl⟩
  unfold truD at e
  split at e
  · rw [show v = .non from dv]
    exact (Option.some.inj e).symm
  · rw [show v = .bl _ from dv]
    exact (Option.some.inj e).symm
  · rw [show v = .int _ from dv]
    exact (Option.some.inj e).symm
  · rw [show v = .str _ from dv]
    split at e
    · rename_i hl
      exact ⟨size5 hl, (Option.some.inj e).symm⟩
    · cases e
  · obtain ⟨a, xs, rfl, _, h3, h4⟩ := dv
    exact .inr (.inl ⟨xs, h3.sq, by rw [isEmpty_dv h4]; exact (Option.some.inj e).symm⟩)
  · obtain ⟨a, xs, rfl, _, h3, h4⟩ := dv
    exact .inl ⟨xs, h3, by rw [isEmpty_dv h4]; exact (Option.some.inj e).symm⟩
  · cases e
def tNot (F : FT) : FT := fun δ s => rb (F δ s) fun x s1 => .ok (!x) s1
theorem td_not {F : FT} (h1 : TD X st E a F) : TD X st E (.UnaryOp .Not a pos) (tNot F) := by
  obtain ⟨t1, p1, r1⟩ := h1
  refine ⟨_, pt_not p1, fun σ δ B H s Q a h => ?_⟩
  refine r1 σ δ B H s _ a (Post.seq h fun d s1 v H1 kf k hs1 dv h => ?_)
  subst dv
  exact h.fin kf hs1 rfl
/-- and, or: a chain of tests -/
def WD (X : Cx) (st : Sto) (E : XK) (e : Expr) (F : FT) : Prop :=
  ∃ t, PW X e t ∧ ∀ σ δ B H s Q, At (cf X st) B H s σ δ → Post (cf X st) relB (F δ s) H Q E → t σ H Q
theorem WD.td {e : Expr} {F : FT} (h : WD X st E e F) : TD X st E e F := by
  obtain ⟨t1, p1, r1⟩ := h
  exact ⟨t1, p1.pt, r1⟩
def tAnd (F G : FT) : FT := fun δ s => rb (F δ s) fun x s1 => if x then G δ s1 else .ok false s1
def tOr (F G : FT) : FT := fun δ s => rb (F δ s) fun x s1 => if x then .ok true s1 else G δ s1
theorem wd_and1 {F : FT} (h1 : TD X st E a F) : WD X st E (.BoolOp .And [a] pos) F := by
  obtain ⟨t1, p1, r1⟩ := h1
  exact ⟨_, pw_and1 p1, r1⟩
theorem wd_or1 {F : FT} (h1 : TD X st E a F) : WD X st E (.BoolOp .Or [a] pos) F := by
  obtain ⟨t1, p1, r1⟩ := h1
  exact ⟨_, pw_or1 p1, r1⟩
theorem wd_and {rest : List Expr} {F G : FT} (h1 : TD X st E a F) (h2 : WD X st E (.BoolOp .And (b :: rest) pos) G) : WD X st E (.BoolOp .And (a :: b :: rest) pos) (tAnd F G) := by
  obtain ⟨t1, p1, r1⟩ := h1
  obtain ⟨t2, p2, r2⟩ := h2
  refine ⟨_, pw_and p1 p2, fun σ δ B H s Q a h => ?_⟩
  refine r1 σ δ B H s _ a (Post.seq h fun d s1 v H1 kf k hs1 dv h => ?_)
  subst dv
  cases v with
  | true => exact r2 σ δ B H1 s1 Q (a.keep kf k hs1) h
  | false => exact Post.fin (rel := relB) h kf hs1 rfl
theorem wd_or {rest : List Expr} {F G : FT} (h1 : TD X st E a F) (h2 : WD X st E (.BoolOp .Or (b :: rest) pos) G) : WD X st E (.BoolOp .Or (a :: b :: rest) pos) (tOr F G) := by
  obtain ⟨t1, p1, r1⟩ := h1
  obtain ⟨t2, p2, r2⟩ := h2
  refine ⟨_, pw_or p1 p2, fun σ δ B H s Q a h => ?_⟩
  refine r1 σ δ B H s _ a (Post.seq h fun d s1 v H1 kf k hs1 dv h => ?_)
  subst dv
  cases v with
  | false => exact r2 σ δ B H1 s1 Q (a.keep kf k hs1) h
  | true => exact Post.fin (rel := relB) h kf hs1 rfl
/-- .. as values of True, False -/
def eAnd (F G : FE) : FE := fun δ s => rb (F δ s) fun x s1 => match x with
  | .bl true => G δ s1
  | .bl false => .ok (.bl false) s1
  | _ => .stuck
def eOr (F G : FE) : FE := fun δ s => rb (F δ s) fun x s1 => match x with
  | .bl true => .ok (.bl true) s1
  | .bl false => G δ s1
  | _ => .stuck
theorem ed_one {op : BoolOp} (h1 : ED X st E a F) : ED X st E (.BoolOp op [a] pos) F := by
  obtain ⟨t1, p1, r1⟩ := h1
  exact ⟨_, pe_one p1, r1⟩
theorem ed_and {rest : List Expr} (h1 : ED X st E a F) (h2 : ED X st E (.BoolOp .And (b :: rest) pos) G) : ED X st E (.BoolOp .And (a :: b :: rest) pos) (eAnd F G) := by
  obtain ⟨t1, p1, r1⟩ := h1
  obtain ⟨t2, p2, r2⟩ := h2
  refine ⟨_, pe_and p1 p2, fun σ δ B H s Q a h => ?_⟩
  refine r1 σ δ B H s _ a (Post.seq h fun d s1 v H1 kf k hs1 dv h => ?_)
  cases d with
  | bl kk =>
    refine ⟨kk, dv, ?_⟩
    cases kk with
    | true => exact r2 σ δ B H1 s1 Q (a.keep kf k hs1) h
    | false => exact Post.fin (rel := relD (cf X st) B) h kf hs1 rfl
  | _ => exact False.elim h
theorem ed_or {rest : List Expr} (h1 : ED X st E a F) (h2 : ED X st E (.BoolOp .Or (b :: rest) pos) G) : ED X st E (.BoolOp .Or (a :: b :: rest) pos) (eOr F G) := by
  obtain ⟨t1, p1, r1⟩ := h1
  obtain ⟨t2, p2, r2⟩ := h2
  refine ⟨_, pe_or p1 p2, fun σ δ B H s Q a h => ?_⟩
  refine r1 σ δ B H s _ a (Post.seq h fun d s1 v H1 kf k hs1 dv h => ?_)
  cases d with
  | bl kk =>
    refine ⟨kk, dv, ?_⟩
    cases kk with
    | false => exact r2 σ δ B H1 s1 Q (a.keep kf k hs1) h
    | true => exact Post.fin (rel := relD (cf X st) B) h kf hs1 rfl
  | _ => exact False.elim h
def gNot : D → Option D
  | .bl b => some (.bl (!b))
  | _ => none
theorem ed_not (h1 : ED X st E a F) : ED X st E (.UnaryOp .Not a pos) (eUn gNot F) := by
  obtain ⟨t1, p1, r1⟩ := h1
  refine ⟨_, pe_not p1, fun σ δ B H s Q a h => ?_⟩
  refine r1 σ δ B H s _ a (Post.seq h fun d s1 v H1 kf k hs1 dv h => ?_)
  obtain ⟨d3, e3, h⟩ := h.opt
  unfold gNot at e3
  split at e3
  · obtain rfl := Option.some.inj e3
    exact ⟨_, dv, h.fin kf hs1 rfl⟩
  · cases e3
def eIf (T : FT) (F G : FE) : FE := fun δ s => rb (T δ s) fun x s1 => if x then F δ s1 else G δ s1
theorem ed_if {c : Expr} {T : FT} (h0 : TD X st E c T) (h1 : ED X st E a F) (h2 : ED X st E b G) : ED X st E (.IfExp c a b pos) (eIf T F G) := by
  obtain ⟨t0, p0, r0⟩ := h0
  obtain ⟨t1, p1, r1⟩ := h1
  obtain ⟨t2, p2, r2⟩ := h2
  refine ⟨_, pe_ifExp p0 p1 p2, fun σ δ B H s Q a h => ?_⟩
  refine r0 σ δ B H s _ a (Post.seq h fun d s1 v H1 kf k hs1 dv h => ?_)
  subst dv
  cases v with
  | true => exact r1 σ δ B H1 s1 Q (a.keep kf k hs1) h
  | false => exact r2 σ δ B H1 s1 Q (a.keep kf k hs1) h
end
end Mi
namespace Mi
open PySem PySem.Spec PyProof.Rows L2
section
variable {X : Cx} {st : Sto} {E : XK} {pos p : Pos} {a b e : Expr} {F G : FE} {es : List Expr} {FAs : FA} {x : Str}
/-! ### calls of built-ins -/
theorem ed_callB {id : String} {g : List D → Option D} (hc : CallD X st (.builtin id) g) (hg : Gl X x) (hm : X.mg x = none) (hv : bootBuiltins x = some (.builtin id)) (h1 : AD X st E (e :: es) FAs) (hn : x ≠ "__name__" := by decide) (hdb : (x == ("__debug__" : Str)) = false := by decide)
    (he : starEach (e :: es) X.env = (false, eval e X.env) :: starEach es X.env := by rfl) (hpl : (backTo pos (starEach es X.env)).any (·.1) = false := by rfl) : ED X st E (.Call (.Name x p) (e :: es) [] pos) (eCall g FAs) := by
  obtain ⟨r, o, hr⟩ := hc
  obtain ⟨t1, p1, r1⟩ := h1
  refine ⟨_, pe_plus (pe_callB o hg hm hv p1 hn hdb he hpl), fun σ δ B H s Q a h => ?_⟩
  refine r1 σ δ B H s _ a (Post.seq h fun ds s1 vs H1 kf k hs1 dv h => ?_)
  obtain ⟨d3, e3, h⟩ := h.opt
  exact hr B H1 s1 vs ds d3 _ (a.b.keep kf k hs1) hs1 dv e3 fun v H' k' hs' dv' kf' => h v H' kf' k' hs' dv'
theorem ed_callTy {T : String} {g : List D → Option D} (hc : CallD X st (.type T) g) (hg : Gl X x) (hm : X.mg x = none) (hv : bootBuiltins x = some (.type T)) (h1 : AD X st E (e :: es) FAs) (hn : x ≠ "__name__" := by decide) (hdb : (x == ("__debug__" : Str)) = false := by decide)
    (he : starEach (e :: es) X.env = (false, eval e X.env) :: starEach es X.env := by rfl) (hpl : (backTo pos (starEach es X.env)).any (·.1) = false := by rfl) : ED X st E (.Call (.Name x p) (e :: es) [] pos) (eCall g FAs) := by
  obtain ⟨r, o, hr⟩ := hc
  obtain ⟨t1, p1, r1⟩ := h1
  refine ⟨_, pe_plus (pe_callTy o hg hm hv p1 hn hdb he hpl), fun σ δ B H s Q a h => ?_⟩
  refine r1 σ δ B H s _ a (Post.seq h fun ds s1 vs H1 kf k hs1 dv h => ?_)
  obtain ⟨d3, e3, h⟩ := h.opt
  exact hr B H1 s1 vs ds d3 _ (a.b.keep kf k hs1) hs1 dv e3 fun v H' k' hs' dv' kf' => h v H' kf' k' hs' dv'
/-- a built-in function that a global holds (math.gcd) -/
theorem ed_callG {id : String} {g : List D → Option D} (hc : CallD X st (.builtin id) g) (hg : Gl X x) (hm : X.mg x = some (.builtin id)) (h1 : AD X st E (e :: es) FAs) (hdb : (x == ("__debug__" : Str)) = false := by decide)
    (he : starEach (e :: es) X.env = (false, eval e X.env) :: starEach es X.env := by rfl) (hpl : (backTo pos (starEach es X.env)).any (·.1) = false := by rfl) : ED X st E (.Call (.Name x p) (e :: es) [] pos) (eCall g FAs) := by
  obtain ⟨r, o, hr⟩ := hc
  obtain ⟨t1, p1, r1⟩ := h1
  refine ⟨_, pe_plus (pe_callBfun o hg hm p1 hdb he hpl), fun σ δ B H s Q a h => ?_⟩
  refine r1 σ δ B H s _ a (Post.seq h fun ds s1 vs H1 kf k hs1 dv h => ?_)
  obtain ⟨d3, e3, h⟩ := h.opt
  exact hr B H1 s1 vs ds d3 _ (a.b.keep kf k hs1) hs1 dv e3 fun v H' k' hs' dv' kf' => h v H' kf' k' hs' dv'
theorem dvs1 {c : Cf} {B : Bad} {H : Hp} {d : D} {vs : List V} (h : DVs c [d] B H vs) : ∃ v, vs = [v] ∧ DV c d B H v := by
  obtain ⟨v, r, rfl, h1, h2⟩ := h
  exact ⟨v, by rw [show r = [] from h2], h1⟩
theorem dvs2 {c : Cf} {B : Bad} {H : Hp} {d d' : D} {vs : List V} (h : DVs c [d, d'] B H vs) : ∃ v w, vs = [v, w] ∧ DV c d B H v ∧ DV c d' B H w := by
  obtain ⟨v, r, rfl, h1, h2⟩ := h
  obtain ⟨w, rfl, h3⟩ := dvs1 h2
  exact ⟨v, w, rfl, h1, h3⟩
def gAbs : List D → Option D
  | [.int i] => some (.int (if i < 0 then -i else i))
  | _ => none
theorem cd_abs : CallD X st (.builtin "abs") gAbs := by
  refine ⟨_, call_abs, fun B H s vs ds d3 Q b hs h1 e h => ?_⟩
  unfold gAbs at e
  split at e
  · obtain rfl := Option.some.inj e
    obtain ⟨v, rfl, hv⟩ := dvs1 h1
    exact ⟨_, by rw [show v = .int _ from hv], h _ H (Keeps.refl _ H) hs rfl⟩
  · cases e
def intsOf : List D → Option (List Int)
  | [] => some []
  | d :: ds => match d, intsOf ds with
    | .int i, some r => some (i :: r)
    | _, _ => none
def boolsOf : List D → Option (List Bool)
  | [] => some []
  | d :: ds => match d, boolsOf ds with
    | .bl i, some r => some (i :: r)
    | _, _ => none
theorem ints_dv {c : Cf} {B : Bad} {H : Hp} : ∀ {ds : List D} {ns : List Int} {vs : List V}, intsOf ds = some ns → DVs c ds B H vs → vs = ns.map V.int
  | [], ns, vs, e, h => by
    obtain rfl := Option.some.inj e
    exact h
  | d :: ds, ns, vs, e, h => by
    obtain ⟨v, r, rfl, h1, h2⟩ := h
    unfold intsOf at e
    split at e
    · rename_i i q e2
      obtain rfl := Option.some.inj e
      rw [show v = .int i from h1, ints_dv e2 h2]
      rfl
    · cases e
theorem bools_dv {c : Cf} {B : Bad} {H : Hp} : ∀ {ds : List D} {ns : List Bool} {vs : List V}, boolsOf ds = some ns → DVs c ds B H vs → vs = ns.map V.bl
  | [], ns, vs, e, h => by
    obtain rfl := Option.some.inj e
    exact h
  | d :: ds, ns, vs, e, h => by
    obtain ⟨v, r, rfl, h1, h2⟩ := h
    unfold boolsOf at e
    split at e
    · rename_i i q e2
      obtain rfl := Option.some.inj e
      rw [show v = .bl i from h1, bools_dv e2 h2]
      rfl
    · cases e
def maxOf : List Int → Option Int
  | [] => none
  | x :: r => some (r.foldl max x)
def minOf : List Int → Option Int
  | [] => none
  | x :: r => some (r.foldl min x)
theorem foldl_max : ∀ (r : List Int) (x : Int), (r.foldl max x = x ∨ r.foldl max x ∈ r) ∧ x ≤ r.foldl max x ∧ ∀ y ∈ r, y ≤ r.foldl max x
  | [], x => ⟨.inl rfl, Int.le_refl _, fun _ h => nomatch h⟩
  | z :: r, x => by
    obtain ⟨h1, h2, h3⟩ := foldl_max r (max x z)
    refine ⟨?_, Int.le_trans (Int.le_max_left x z) h2, fun y hy => ?_⟩
    · rcases h1 with e | e
      · rcases Int.le_total x z with q | q
        · exact .inr (by rw [List.foldl_cons, e, Int.max_eq_right q]; exact List.mem_cons_self)
        · exact .inl (by rw [List.foldl_cons, e, Int.max_eq_left q])
      · exact .inr (List.mem_cons_of_mem _ e)
    · rcases List.mem_cons.mp hy with e | e
      · exact Int.le_trans (by rw [e]; exact Int.le_max_right x z) h2
      · exact h3 y e
theorem foldl_min : ∀ (r : List Int) (x : Int), (r.foldl min x = x ∨ r.foldl min x ∈ r) ∧ r.foldl min x ≤ x ∧ ∀ y ∈ r, r.foldl min x ≤ y
  | [], x => ⟨.inl rfl, Int.le_refl _, fun _ h => nomatch h⟩
  | z :: r, x => by
    obtain ⟨h1, h2, h3⟩ := foldl_min r (min x z)
    refine ⟨?_, Int.le_trans h2 (Int.min_le_left x z), fun y hy => ?_⟩
    · rcases h1 with e | e
      · rcases Int.le_total x z with q | q
        · exact .inl (by rw [List.foldl_cons, e, Int.min_eq_left q])
        · exact .inr (by rw [List.foldl_cons, e, Int.min_eq_right q]; exact List.mem_cons_self)
      · exact .inr (List.mem_cons_of_mem _ e)
    · rcases List.mem_cons.mp hy with e | e
      · exact Int.le_trans h2 (by rw [e]; exact Int.min_le_right x z)
      · exact h3 y e
def gMax : List D → Option D
  | [.int i, .int j] => some (.int (max i j))
  | [.lst l] => ((intsOf l).bind maxOf).map .int
  | _ => none
def gMin : List D → Option D
  | [.int i, .int j] => some (.int (min i j))
  | [.lst l] => ((intsOf l).bind minOf).map .int
  | _ => none
theorem CallR.or {X : Cx} {f : Value} {r r' : List V → Hp → VK → Prop} (h : CallR X f r) (h' : CallR X f r') : CallR X f (fun xs H Q => r xs H Q ∨ r' xs H Q) := fun pins s σ H xs us Q I rv q =>
  q.elim (h pins s σ H xs us Q I rv) (h' pins s σ H xs us Q I rv)
theorem cd_max (hc : X.calm = true) : CallD X st (.builtin "max") gMax := by
  refine ⟨_, (call_max2 hc).or (cr_max hc), fun B H s vs ds d3 Q b hs h1 e h => ?_⟩
  unfold gMax at e
  split at e
  · rename_i i j
    obtain rfl := Option.some.inj e
    obtain ⟨v, w, rfl, hv, hw⟩ := dvs2 h1
    refine .inl ⟨_, _, by rw [show v = .int _ from hv, show w = .int _ from hw], ?_⟩
    rw [show (if j > i then j else i) = max i j by split <;> omega]
    exact h _ H (Keeps.refl _ H) hs rfl
  · obtain ⟨v, rfl, hv⟩ := dvs1 h1
    obtain ⟨a, xs, rfl, _, h2, h3⟩ := hv
    obtain ⟨m, e1, rfl⟩ := Option.map_eq_some_iff.mp e
    obtain ⟨ns, e2, e3⟩ := Option.bind_eq_some_iff.mp e1
    have ex := ints_dv e2 h3
    subst ex
    cases ns with
    | nil => cases e3
    | cons n r =>
      obtain rfl := Option.some.inj e3
      obtain ⟨q1, q2, q3⟩ := foldl_max r n
      refine .inr ⟨a, _, rfl, h2, by simp, fun m hm hle => ?_⟩
      have : m = r.foldl max n := by
        have l1 : m ≤ r.foldl max n := by
          rcases List.mem_cons.mp hm with z | z
          · rw [z]; exact q2
          · exact q3 m z
        have l2 : r.foldl max n ≤ m := by
          rcases q1 with z | z
          · rw [z]; exact hle n List.mem_cons_self
          · exact hle _ (List.mem_cons_of_mem _ z)
        omega
      rw [this]
      exact h _ H (Keeps.refl _ H) hs rfl
  · cases e
theorem cd_min (hc : X.calm = true) : CallD X st (.builtin "min") gMin := by
  refine ⟨_, (call_min2 hc).or (cr_min hc), fun B H s vs ds d3 Q b hs h1 e h => ?_⟩
  unfold gMin at e
  split at e
  · rename_i i j
    obtain rfl := Option.some.inj e
    obtain ⟨v, w, rfl, hv, hw⟩ := dvs2 h1
    refine .inl ⟨_, _, by rw [show v = .int _ from hv, show w = .int _ from hw], ?_⟩
    rw [show (if j < i then j else i) = min i j by split <;> omega]
    exact h _ H (Keeps.refl _ H) hs rfl
  · obtain ⟨v, rfl, hv⟩ := dvs1 h1
    obtain ⟨a, xs, rfl, _, h2, h3⟩ := hv
    obtain ⟨m, e1, rfl⟩ := Option.map_eq_some_iff.mp e
    obtain ⟨ns, e2, e3⟩ := Option.bind_eq_some_iff.mp e1
    have ex := ints_dv e2 h3
    subst ex
    cases ns with
    | nil => cases e3
    | cons n r =>
      obtain rfl := Option.some.inj e3
      obtain ⟨q1, q2, q3⟩ := foldl_min r n
      refine .inr ⟨a, _, rfl, h2, by simp, fun m hm hle => ?_⟩
      have : m = r.foldl min n := by
        have l1 : r.foldl min n ≤ m := by
          rcases List.mem_cons.mp hm with z | z
          · rw [z]; exact q2
          · exact q3 m z
        have l2 : m ≤ r.foldl min n := by
          rcases q1 with z | z
          · rw [z]; exact hle n List.mem_cons_self
          · exact hle _ (List.mem_cons_of_mem _ z)
        omega
      rw [this]
      exact h _ H (Keeps.refl _ H) hs rfl
  · cases e
def gAll : List D → Option D
  | [.lst l] => (boolsOf l).map fun bs => .bl (bs.all id)
  | _ => none
def gAny : List D → Option D
  | [.lst l] => (boolsOf l).map fun bs => .bl (bs.any id)
  | _ => none
theorem cd_all (hc : X.calm = true) : CallD X st (.builtin "all") gAll := by
  refine ⟨_, cr_all hc, fun B H s vs ds d3 Q b hs h1 e h => ?_⟩
  unfold gAll at e
  split at e
  · obtain ⟨v, rfl, hv⟩ := dvs1 h1
    obtain ⟨a, xs, rfl, _, h2, h3⟩ := hv
    obtain ⟨m, e1, rfl⟩ := Option.map_eq_some_iff.mp e
    have ex := bools_dv e1 h3
    subst ex
    exact ⟨a, _, rfl, h2, h _ H (Keeps.refl _ H) hs rfl⟩
  · cases e
theorem cd_any (hc : X.calm = true) : CallD X st (.builtin "any") gAny := by
  refine ⟨_, cr_any hc, fun B H s vs ds d3 Q b hs h1 e h => ?_⟩
  unfold gAny at e
  split at e
  · obtain ⟨v, rfl, hv⟩ := dvs1 h1
    obtain ⟨a, xs, rfl, _, h2, h3⟩ := hv
    obtain ⟨m, e1, rfl⟩ := Option.map_eq_some_iff.mp e
    have ex := bools_dv e1 h3
    subst ex
    exact ⟨a, _, rfl, h2, h _ H (Keeps.refl _ H) hs rfl⟩
  · cases e
def gSum : List D → Option D
  | [.lst l] => (intsOf l).map fun bs => .int bs.sum
  | _ => none
theorem cd_sum (hc : X.calm = true) : CallD X st (.builtin "sum") gSum := by
  refine ⟨_, cr_sum hc, fun B H s vs ds d3 Q b hs h1 e h => ?_⟩
  unfold gSum at e
  split at e
  · obtain ⟨v, rfl, hv⟩ := dvs1 h1
    obtain ⟨a, xs, rfl, _, h2, h3⟩ := hv
    obtain ⟨m, e1, rfl⟩ := Option.map_eq_some_iff.mp e
    have ex := ints_dv e1 h3
    subst ex
    exact ⟨a, _, rfl, h2, h _ H (Keeps.refl _ H) hs rfl⟩
  · cases e
def gLen : List D → Option D
  | [.str y] => if y.length ≤ 100000 then some (.int y.length) else none
  | [.tup l] => some (.int l.length)
  | [.lst l] => some (.int l.length)
  | _ => none
theorem cd_len : CallD X st (.builtin "len") gLen := by
  refine ⟨_, call_len, fun B H s vs ds d3 Q b hs h1 e h => ?_⟩
  unfold gLen at e
  split at e
  · split at e
    · rename_i hl
      obtain rfl := Option.some.inj e
      obtain ⟨v, rfl, hv⟩ := dvs1 h1
      exact ⟨v, _, rfl, by rw [show v = .str _ from hv]; exact ⟨size5 hl, rfl⟩, h _ H (Keeps.refl _ H) hs rfl⟩
    · cases e
  · obtain rfl := Option.some.inj e
    obtain ⟨v, rfl, hv⟩ := dvs1 h1
    obtain ⟨a, xs, rfl, _, h2, h3⟩ := hv
    exact ⟨.ref a, xs.length, rfl, .inr ⟨xs, h2.sq, rfl⟩, by rw [h3.length]; exact h _ H (Keeps.refl _ H) hs rfl⟩
  · obtain rfl := Option.some.inj e
    obtain ⟨v, rfl, hv⟩ := dvs1 h1
    obtain ⟨a, xs, rfl, _, h2, h3⟩ := hv
    exact ⟨.ref a, xs.length, rfl, .inl ⟨xs, h2, rfl⟩, by rw [h3.length]; exact h _ H (Keeps.refl _ H) hs rfl⟩
  · cases e
def gInt : List D → Option D
  | [.int i] => some (.int i)
  | [.bl k] => some (.int (if k then 1 else 0))
  | [.str a] => if a.length ≤ 640 then (PySem.intText? a).map .int else none
  | _ => none
theorem cd_int : CallD X st (.type "int") gInt := by
  refine ⟨_, call_int1.or call_int_str, fun B H s vs ds d3 Q b hs h1 e h => ?_⟩
  unfold gInt at e
  split at e
  · obtain rfl := Option.some.inj e
    obtain ⟨v, rfl, hv⟩ := dvs1 h1
    exact .inl (.inl ⟨_, by rw [show v = .int _ from hv], h _ H (Keeps.refl _ H) hs rfl⟩)
  · obtain rfl := Option.some.inj e
    obtain ⟨v, rfl, hv⟩ := dvs1 h1
    exact .inl (.inr ⟨_, by rw [show v = .bl _ from hv], h _ H (Keeps.refl _ H) hs rfl⟩)
  · split at e
    · rename_i hl
      obtain ⟨n, e1, rfl⟩ := Option.map_eq_some_iff.mp e
      obtain ⟨v, rfl, hv⟩ := dvs1 h1
      exact .inr ⟨_, n, by rw [show v = .str _ from hv], e1, hl, h _ H (Keeps.refl _ H) hs rfl⟩
    · cases e
  · cases e
def gStr : List D → Option D
  | [.int i] => if i.natAbs.log2 < 1920 then some (.str (toString i)) else none
  | _ => none
theorem cd_str : CallD X st (.type "str") gStr := by
  refine ⟨_, call_str_int, fun B H s vs ds d3 Q b hs h1 e h => ?_⟩
  unfold gStr at e
  split at e
  · split at e
    · rename_i hl
      obtain rfl := Option.some.inj e
      obtain ⟨v, rfl, hv⟩ := dvs1 h1
      exact ⟨_, by rw [show v = .int _ from hv], hl, h _ H (Keeps.refl _ H) hs rfl⟩
    · cases e
  · cases e
def gTuple : List D → Option D
  | [.lst l] => some (.tup l)
  | [.tup l] => some (.tup l)
  | _ => none
theorem cd_tuple : CallD X st (.type "tuple") gTuple := by
  refine ⟨_, call_tuple_of, fun B H s vs ds d3 Q b hs h1 e h => ?_⟩
  unfold gTuple at e
  split at e
  · obtain rfl := Option.some.inj e
    obtain ⟨v, rfl, hv⟩ := dvs1 h1
    obtain ⟨a, xs, rfl, _, h2, h3⟩ := hv
    refine ⟨a, xs, rfl, .inl ⟨h2, fun l nl => ?_⟩⟩
    have k2 : Keeps (cf X st) H (upd H l (.tup xs)) := Keeps.new nl
    exact h _ _ k2 (hs.new nl) ⟨l, xs, rfl, b.fresh nl, .inl upd_same, DVs.grow (b.grow k2) _ _ h3⟩
  · obtain rfl := Option.some.inj e
    obtain ⟨v, rfl, hv⟩ := dvs1 h1
    obtain ⟨a, xs, rfl, nb, h2, h3⟩ := hv
    exact ⟨a, xs, rfl, .inr ⟨h2.sq, h _ H (Keeps.refl _ H) hs ⟨a, xs, rfl, nb, h2, h3⟩⟩⟩
  · cases e
def gList : List D → Option D
  | [.lst l] => some (.lst l)
  | [.tup l] => some (.lst l)
  | _ => none
theorem cd_list : CallD X st (.type "list") gList := by
  refine ⟨_, call_list_of, fun B H s vs ds d3 Q b hs h1 e h => ?_⟩
  unfold gList at e
  split at e
  · obtain rfl := Option.some.inj e
    obtain ⟨v, rfl, hv⟩ := dvs1 h1
    obtain ⟨a, xs, rfl, _, h2, h3⟩ := hv
    refine ⟨a, xs, rfl, .inl h2, fun l nl => ?_⟩
    have k2 : Keeps (cf X st) H (upd H l (.lst xs)) := Keeps.new nl
    exact h _ _ k2 (hs.new nl) ⟨l, xs, rfl, b.fresh nl, .inl (.inl upd_same), DVs.grow (b.grow k2) _ _ h3⟩
  · obtain rfl := Option.some.inj e
    obtain ⟨v, rfl, hv⟩ := dvs1 h1
    obtain ⟨a, xs, rfl, _, h2, h3⟩ := hv
    refine ⟨a, xs, rfl, .inr h2.sq, fun l nl => ?_⟩
    have k2 : Keeps (cf X st) H (upd H l (.lst xs)) := Keeps.new nl
    exact h _ _ k2 (hs.new nl) ⟨l, xs, rfl, b.fresh nl, .inl (.inl upd_same), DVs.grow (b.grow k2) _ _ h3⟩
  · cases e
/-- the name of a value's type -/
def tyN : D → Option String
  | .non => some "NoneType"
  | .bl _ => some "bool"
  | .int _ => some "int"
  | .str _ => some "str"
  | .tup _ => some "tuple"
  | .lst _ => some "list"
  | _ => none
def gType : List D → Option D
  | [d] => (tyN d).map .ty
  | _ => none
theorem tyb {c : Cf} {B : Bad} {H : Hp} {d : D} {v : V} {n : String} (e : tyN d = some n) (h : DV c d B H v) : TyB c.K H v n := by
  unfold tyN at e
  split at e
  · obtain rfl := Option.some.inj e
    rw [show v = .non from h]
    exact .non
  · obtain rfl := Option.some.inj e
    rw [show v = .bl _ from h]
    exact .bl _
  · obtain rfl := Option.some.inj e
    rw [show v = .int _ from h]
    exact .int _
  · obtain rfl := Option.some.inj e
    rw [show v = .str _ from h]
    exact .str _
  · obtain rfl := Option.some.inj e
    obtain ⟨a, xs, rfl, _, h2, _⟩ := h
    exact .tup h2.sq
  · obtain rfl := Option.some.inj e
    obtain ⟨a, xs, rfl, _, h2, _⟩ := h
    exact .lst h2
  · cases e
theorem cd_type : CallD X st (.type "type") gType := by
  refine ⟨_, call_type1, fun B H s vs ds d3 Q b hs h1 e h => ?_⟩
  unfold gType at e
  split at e
  · obtain ⟨v, rfl, hv⟩ := dvs1 h1
    obtain ⟨m, e1, rfl⟩ := Option.map_eq_some_iff.mp e
    exact ⟨v, m, rfl, tyb e1 hv, h _ H (Keeps.refl _ H) hs rfl⟩
  · cases e
theorem tyx {c : Cf} {B : Bad} {H : Hp} {d : D} {v : V} {n : String} (e : tyN d = some n) (h : DV c d B H v) : TyX c.K H v (.type n) := by
  unfold tyN at e
  split at e
  · obtain rfl := Option.some.inj e
    rw [show v = .non from h]
    exact .base .non
  · obtain rfl := Option.some.inj e
    rw [show v = .bl _ from h]
    exact .base (.bl _)
  · obtain rfl := Option.some.inj e
    rw [show v = .int _ from h]
    exact .base (.int _)
  · obtain rfl := Option.some.inj e
    rw [show v = .str _ from h]
    exact .base (.str _)
  · obtain rfl := Option.some.inj e
    obtain ⟨a, xs, rfl, _, h2, _⟩ := h
    rcases h2 with z | ⟨o, its, n, z1, z2, _⟩
    · exact .base (.tup z)
    · exact .kTuple z1 z2
  · obtain rfl := Option.some.inj e
    obtain ⟨a, xs, rfl, _, h2, _⟩ := h
    rcases h2 with (z | ⟨o, z⟩) | ⟨o, its, n, z1, z2, _⟩
    · exact .base (.lst z)
    · exact .base (.frz z)
    · exact .kList z1 z2
  · cases e
def tysOf : List D → Option (List String)
  | [] => some []
  | d :: ds => match d, tysOf ds with
    | .ty i, some r => some (i :: r)
    | _, _ => none
theorem tys_dv {c : Cf} {B : Bad} {H : Hp} : ∀ {ds : List D} {ns : List String} {vs : List V}, tysOf ds = some ns → DVs c ds B H vs → Paired ClsV vs (ns.map Value.type)
  | [], ns, vs, e, h => by
    obtain rfl := Option.some.inj e
    rw [show vs = [] from h]
    exact .nil
  | d :: ds, ns, vs, e, h => by
    obtain ⟨v, r, rfl, h1, h2⟩ := h
    unfold tysOf at e
    split at e
    · rename_i i q e2
      obtain rfl := Option.some.inj e
      rw [show v = .ty i from h1]
      exact .cons (.ty i) (tys_dv e2 h2)
    · cases e
def kitL (n : String) : List String → Option Bool
  | [] => some false
  | c :: r => match kitB n c with
    | some true => some true
    | some false => kitL n r
    | none => none
theorem kitL_ok {K : PySem.W.Frag} {n : String} : ∀ {l : List String} {k : Bool}, kitL n l = some k → PySem.W.kitAny K (.type n) (l.map Value.type) = some k
  | [], k, e => e
  | c :: r, k, e => by
    unfold kitL at e
    split at e
    · rename_i q
      obtain rfl := Option.some.inj e
      exact kitAny_cons (kit_ty q) (fun z => nomatch z) fun _ => rfl
    · rename_i q
      exact kitAny_cons (kit_ty q) (fun _ => kitL_ok e) fun z => nomatch z
    · cases e
def gIsi : List D → Option D
  | [d, .ty c] => ((tyN d).bind fun n => kitB n c).map .bl
  | [d, .tup l] => (match tyN d, tysOf l with
    | some n, some ts => kitL n ts
    | _, _ => none).map .bl
  | _ => none
theorem cd_isi : CallD X st (.builtin "isinstance") gIsi := by
  refine ⟨_, (call_isi.or call_isiT).or call_isiK, fun B H s vs ds d3 Q b hs h1 e h => ?_⟩
  unfold gIsi at e
  split at e
  · obtain ⟨v, w, rfl, hv, hw⟩ := dvs2 h1
    obtain ⟨k, e1, rfl⟩ := Option.map_eq_some_iff.mp e
    obtain ⟨n, e2, e3⟩ := Option.bind_eq_some_iff.mp e1
    exact .inl (.inl ⟨v, w, .type n, _, k, rfl, by rw [show w = .ty _ from hw]; exact .ty _, tyx e2 hv, kit_ty e3, h _ H (Keeps.refl _ H) hs rfl⟩)
  · obtain ⟨v, w, rfl, hv, hw⟩ := dvs2 h1
    obtain ⟨k, e1, rfl⟩ := Option.map_eq_some_iff.mp e
    obtain ⟨a, xs, rfl, _, h2, h3⟩ := hw
    split at e1
    · rename_i n ts e2 e3
      rcases h2 with z | ⟨o, its, m, z1, z2, z3, z4, z5⟩
      · exact .inl (.inr ⟨v, a, xs, .type n, ts.map Value.type, k, rfl, z, tys_dv e3 h3, tyx e2 hv, kitL_ok e1, h _ H (Keeps.refl _ H) hs rfl⟩)
      · obtain ⟨oc, od, dt, sl⟩ := o
        simp only at z2 z3
        subst z2 z3
        have e5 := ClsV.all (tys_dv e3 h3) z5
        refine .inr ⟨v, a, od, ts.map Value.type, m, sl, .type n, k, rfl, ?_, tyx e2 hv, kitL_ok e1, h _ H (Keeps.refl _ H) hs rfl⟩
        rw [← e5]
        exact z1
    · cases e1
  · cases e
def gGcd : List D → Option D
  | [.int i, .int j] => some (.int ((Nat.gcd i.natAbs j.natAbs : Nat) : Int))
  | _ => none
theorem cd_gcd : CallD X st (.builtin "math.gcd") gGcd := by
  refine ⟨_, cr_gcd, fun B H s vs ds d3 Q b hs h1 e h => ?_⟩
  unfold gGcd at e
  split at e
  · obtain rfl := Option.some.inj e
    obtain ⟨v, w, rfl, hv, hw⟩ := dvs2 h1
    exact ⟨_, _, by rw [show v = .int _ from hv, show w = .int _ from hw], h _ H (Keeps.refl _ H) hs rfl⟩
  · cases e
/-- x.bit_length() -/
def gBits : D → Option D
  | .int i => some (.int (Builtin.Int.intBits i : Nat))
  | _ => none
theorem ed_bits {apos : Pos} (h1 : ED X st E a F) (hbase : attributeBase a "bit_length" X.env (eval a X.env) = eval a X.env := by rfl) (hline : (apos.endLine == pos.line) = true := by rfl) : ED X st E (.Call (.Attribute a "bit_length" apos) [] [] pos) (eUn gBits F) := by
  obtain ⟨t1, p1, r1⟩ := h1
  refine ⟨_, pe_bits p1 hbase hline, fun σ δ B H s Q a h => ?_⟩
  refine r1 σ δ B H s _ a (Post.seq h fun d s1 v H1 kf k hs1 dv h => ?_)
  obtain ⟨d3, e3, h⟩ := h.opt
  unfold gBits at e3
  split at e3
  · obtain rfl := Option.some.inj e3
    exact ⟨_, dv, h.fin kf hs1 rfl⟩
  · cases e3
end
end Mi
namespace Mi
open PySem PySem.Spec PyProof.Rows L2

/-! ### promises of defs -/
def spM (P : Program) (w : World) (K : PySem.W.Frag) (mg : Str → Option Value) (base : Heap) (Tb : List (Addr × Str)) (n : Nat) (F : List D → S → R D) : Sp := fun vs H Q E =>
  ∃ (st : Sto) (s : S) (ds : List D) (B : Bad), st.T = Tb ∧ ds.length = n ∧ BOk ⟨P, w, K, mg, base, st.a, st.c, st.T, st.ex⟩ H B ∧ HS ⟨P, w, K, mg, base, st.a, st.c, st.T, st.ex⟩ H s ∧ DVs ⟨P, w, K, mg, base, st.a, st.c, st.T, st.ex⟩ ds B H vs ∧
    Post ⟨P, w, K, mg, base, st.a, st.c, st.T, st.ex⟩ (relD ⟨P, w, K, mg, base, st.a, st.c, st.T, st.ex⟩ B) (F ds s) H Q E
/-- the def that the name x holds keeps the promise F; dfl: the last parameters' defaults, where they are left out -/
structure DefOk (P : Program) (w : World) (K : PySem.W.Frag) (mg : Str → Option Value) (base : Heap) (Tb : List (Addr × Str)) (x : Str) (k n : Nat) (dfl : List D) (F : List D → S → R D) : Prop where
  ex : ∃ (f : Addr) (fd : FuncData) (ps : List Str) (us : List Value) (dvs : List V), FnOk P w K mg base (L2N.CX P w) k f fd ps (spM P w K mg base Tb n F) ∧ mg x = some (.ref f) ∧ PySem.W.keepIn K (.ref f) = true ∧ Binds K fd ps us ∧ Vals dvs us ∧ flats dfl = some dvs
theorem flat_dv' {c : Cf} {B : Bad} {H : Hp} {d : D} {x : V} (e : flat d = some x) : DV c d B H x := by
  cases d <;> first | (obtain rfl := Option.some.inj e; rfl) | exact nomatch e
theorem flats_dv' {c : Cf} {B : Bad} {H : Hp} : ∀ {ds : List D} {xs : List V}, flats ds = some xs → DVs c ds B H xs
  | [], xs, e => by
    obtain rfl := Option.some.inj e
    rfl
  | d :: ds, xs, e => by
    unfold flats at e
    split at e
    · rename_i x q e1 e2
      obtain rfl := Option.some.inj e
      exact ⟨x, q, rfl, flat_dv' e1, flats_dv' e2⟩
    · cases e
theorem DVs.append {c : Cf} {B : Bad} {H : Hp} : ∀ {ds es : List D} {vs ws : List V}, DVs c ds B H vs → DVs c es B H ws → DVs c (ds ++ es) B H (vs ++ ws)
  | [], es, vs, ws, h, h2 => by
    rw [show vs = [] from h]
    exact h2
  | d :: ds, es, vs, ws, ⟨v, r, e, h1, h⟩, h2 => ⟨v, r ++ ws, by rw [e]; rfl, h1, DVs.append h h2⟩
def eApp (n : Nat) (dfl : List D) (Fm : List D → S → R D) (F : FA) : FE := fun δ s => rb (F δ s) fun ds s1 => if (ds ++ dfl).length = n then Fm (ds ++ dfl) s1 else .stuck
section
variable {X : Cx} {st : Sto} {E : XK} {pos p : Pos} {a b e : Expr} {F G : FE} {es : List Expr} {FAs : FA} {x : Str} {k n : Nat} {dfl : List D} {Fm : List D → S → R D}
theorem ed_call (Dk : DefOk X.prog X.w X.K X.mg X.base st.T x k n dfl Fm) (hr : Room k X.A) (px : Passes (L2N.CX X.prog X.w) X E) (h1 : AD X st E (e :: es) FAs) (hg : Gl X x := by rfl) (hdb : (x == ("__debug__" : Str)) = false := by decide)
    (he : starEach (e :: es) X.env = (false, eval e X.env) :: starEach es X.env := by rfl) (hpl : (backTo pos (starEach es X.env)).any (·.1) = false := by rfl) : ED X st E (.Call (.Name x p) (e :: es) [] pos) (eApp n dfl Fm FAs) := by
  obtain ⟨f, fd, ps, us, dvs, FO, hm, hk, hb, hd, hf⟩ := Dk.ex
  obtain ⟨t1, p1, r1⟩ := h1
  refine ⟨_, pe_call FO hr hg hm hk hb hd px p1 hdb he hpl, fun σ δ B H s Q a h => ?_⟩
  refine r1 σ δ B H s _ a (Post.seq h fun ds s1 vs H1 kf k hs1 dv h => ?_)
  split at h
  · rename_i hl
    exact ⟨st, s1, ds ++ dfl, B, rfl, hl, a.b.keep kf k hs1, hs1, dv.append (flats_dv' hf), h⟩
  · exact False.elim h
theorem ed_call0 (Dk : DefOk X.prog X.w X.K X.mg X.base st.T x k n dfl Fm) (hr : Room k X.A) (px : Passes (L2N.CX X.prog X.w) X E) (hg : Gl X x := by rfl) (hdb : (x == ("__debug__" : Str)) = false := by decide) : ED X st E (.Call (.Name x p) [] [] pos) (eApp n dfl Fm aNil) := by
  obtain ⟨f, fd, ps, us, dvs, FO, hm, hk, hb, hd, hf⟩ := Dk.ex
  refine ⟨_, pe_call0 FO hr hg hm hk hb hd px hdb, fun σ δ B H s Q a h => ?_⟩
  have h : Post (cf X st) (relD (cf X st) B) (if ([] ++ dfl).length = n then Fm ([] ++ dfl) s else .stuck) H Q E := h
  split at h
  · rename_i hl
    exact ⟨st, s, [] ++ dfl, B, rfl, hl, a.b, a.s, flats_dv' hf, h⟩
  · exact False.elim h
end

/-! ### statements -/
/-- what is bad: what was, and the lists that the def's own slots hold alone -/
def Bo (B : Bad) (δ : Ev) (po : Nat → Addr) : Bad := fun a => B a ∨ ∃ (i : Nat) (ds : List D), δ[i]? = some (SV.o ds) ∧ a = po i
structure SR (c : Cf) (H0 : Hp) (B : Bad) (H : Hp) (σ : L2.St) (δ : Ev) (po : Nat → Addr) : Prop where
  len : σ.length = δ.length
  keeps : Keeps c H0 H
  b0 : BOk c H0 B
  kf : KF c H
  own : ∀ (i : Nat) ds, δ[i]? = some (SV.o ds) → ∃ xs, σ[i]? = some (some (.ref (po i))) ∧ H (po i) = some (.lst xs) ∧ H0 (po i) = none ∧ DVs c ds (Bo B δ po) H xs
  dist : ∀ (i j : Nat) ds ds', δ[i]? = some (SV.o ds) → δ[j]? = some (SV.o ds') → po i = po j → i = j
  dat : Sl c (Bo B δ po) H σ δ
inductive Fl where
  | nx (δ : Ev) | rt (d : D) | bk (δ : Ev) | ct (δ : Ev)
abbrev FS := Ev → S → R Fl
section
variable {c : Cf} {H0 H H1 : Hp} {B : Bad} {σ : L2.St} {δ : Ev} {po : Nat → Addr} {s s1 : S}
theorem SR.nst (r : SR c H0 B H σ δ po) {i : Nat} {ds : List D} (e : δ[i]? = some (SV.o ds)) : ¬ c.Mut (po i) := fun z => by
  obtain ⟨_, _, _, h, _⟩ := r.own i ds e
  exact r.b0.there _ (r.b0.st _ z) h
theorem SR.bok (r : SR c H0 B H σ δ po) (hs : HS c H s) : BOk c H (Bo B δ po) where
  kind := fun a q => by
    rcases q with q | ⟨i, ds, e, rfl⟩
    · exact (r.b0.keep r.kf r.keeps hs).kind a q
    · obtain ⟨_, _, h, _⟩ := r.own i ds e
      exact .inl ⟨_, h⟩
  st := fun a e => .inl (r.b0.st a e)
  ca := fun a e => .inl (r.b0.ca a e)
  kf := r.kf
theorem SR.at (r : SR c H0 B H σ δ po) (hs : HS c H s) : At c (Bo B δ po) H s σ δ := ⟨r.bok hs, hs, r.dat, r.len⟩
theorem SR.eval (r : SR c H0 B H σ δ po) (hs : HS c H s) (kf : KF c H1) (k : Keeps c H H1) : SR c H0 B H1 σ δ po where
  len := r.len
  keeps := r.keeps.trans k
  b0 := r.b0
  kf := kf
  own := fun i ds e => by
    obtain ⟨xs, h1, h2, h3, h4⟩ := r.own i ds e
    exact ⟨xs, h1, k _ _ h2 (r.nst e), h3, DVs.grow ((r.bok hs).grow k) ds xs h4⟩
  dist := r.dist
  dat := r.dat.keep (r.bok hs) k
theorem bo_st (r : SR c H0 B H σ δ po) : ∀ a, c.Mut a → Bo B δ po a := fun a e => .inl (r.b0.st a e)
end
def PostS (c : Cf) (H0 : Hp) (B Bg : Bad) (Hg : Hp) (r : R Fl) (Dn : Ends) (E : XK) : Prop := match r with
  | .ok (.nx δ) s => ∀ σ' H' po, HS c H' s → SR c H0 B H' σ' δ po → Grow c Bg Hg (Bo B δ po) H' → Dn.nx σ' H'
  | .ok (.bk δ) s => ∀ σ' H' po, HS c H' s → SR c H0 B H' σ' δ po → Grow c Bg Hg (Bo B δ po) H' → Dn.bk σ' H'
  | .ok (.ct δ) s => ∀ σ' H' po, HS c H' s → SR c H0 B H' σ' δ po → Grow c Bg Hg (Bo B δ po) H' → Dn.ct σ' H'
  | .ok (.rt d) s => ∀ v H', KF c H' → Keeps c H0 H' → HS c H' s → DV c d B H' v → Dn.rt v H'
  | .err x p s => ∀ C dd H', Keeps c H0 H' → HS c H' s → c.mg x = some (.ref C) → Pay H' x dd p → E (.ref C) dd H'
  | .stuck => False
theorem PostS.mono {c : Cf} {H0 : Hp} {B Bg Bg' : Bad} {Hg Hg' : Hp} {r : R Fl} {Dn : Ends} {E : XK} (g : Grow c Bg Hg Bg' Hg') (h : PostS c H0 B Bg Hg r Dn E) : PostS c H0 B Bg' Hg' r Dn E := by
  cases r with
  | ok f s =>
    cases f with
    | nx δ => exact fun σ' H' po hs r g' => h σ' H' po hs r (g.trans g')
    | bk δ => exact fun σ' H' po hs r g' => h σ' H' po hs r (g.trans g')
    | ct δ => exact fun σ' H' po hs r g' => h σ' H' po hs r (g.trans g')
    | rt d => exact h
  | err x p s => exact h
  | stuck => exact h
theorem PostS.ofE {α β : Type} {c : Cf} {rel : α → Hp → β → Prop} {H0 H : Hp} {B Bg : Bad} {Hg : Hp} {r : R α} {k : α → S → R Fl} {Dn : Ends} {E : XK} {Q : β → Hp → Prop} (kp : Keeps c H0 H) (h : PostS c H0 B Bg Hg (rb r k) Dn E)
    (f : ∀ a s1 b H1, KF c H1 → Keeps c H H1 → HS c H1 s1 → rel a H1 b → PostS c H0 B Bg Hg (k a s1) Dn E → Q b H1) : Post c rel r H Q E := by
  cases r with
  | ok a s => exact fun b H1 kf k1 hs hr => f a s b H1 kf k1 hs hr h
  | err x p s => exact fun C dd H' k1 hs m p => h C dd H' (kp.trans k1) hs m p
  | stuck => exact h
def S1 (X : Cx) (st : Sto) (E : XK) (t0 : Stmt) (G : FS) : Prop :=
  ∃ t, PS X t0 t ∧ ∀ Dn σ δ H0 B H s po, HS (cf X st) H s → SR (cf X st) H0 B H σ δ po → PostS (cf X st) H0 B (Bo B δ po) H (G δ s) Dn E → t Dn σ H
def SD (X : Cx) (st : Sto) (E : XK) (ts : List Stmt) (G : FS) : Prop :=
  ∃ t, PSs X ts t ∧ ∀ Dn σ δ H0 B H s po, HS (cf X st) H s → SR (cf X st) H0 B H σ δ po → PostS (cf X st) H0 B (Bo B δ po) H (G δ s) Dn E → t Dn σ H
section
variable {X : Cx} {st : Sto} {E : XK} {pos p : Pos} {a b e : Expr} {F F' : FE} {es : List Expr} {FAs : FA} {x : Str} {G G' : FS} {t0 : Stmt} {ts : List Stmt}
def sNil : FS := fun δ s => .ok (.nx δ) s
def sSeq (G G' : FS) : FS := fun δ s => rb (G δ s) fun fl s1 => match fl with
  | .nx δ' => G' δ' s1
  | o => .ok o s1
theorem sd_nil : SD X st E [] sNil := ⟨_, pss_nil, fun Dn σ δ H0 B H s po hs r h => h σ H po hs r (Grow.refl (bo_st r))⟩
theorem sd_one (h1 : S1 X st E t0 G) : SD X st E [t0] G := by
  obtain ⟨t1, p1, r1⟩ := h1
  exact ⟨_, pss_one p1, r1⟩
theorem sd_cons (h1 : S1 X st E t0 G) (h2 : SD X st E ts G') : SD X st E (t0 :: ts) (sSeq G G') := by
  obtain ⟨t1, p1, r1⟩ := h1
  obtain ⟨t2, p2, r2⟩ := h2
  refine ⟨_, pss_cons p1 p2, fun Dn σ δ H0 B H s po hs r h => ?_⟩
  refine r1 { Dn with nx := t2 Dn } σ δ H0 B H s po hs r ?_
  unfold sSeq at h
  cases e : G δ s with
  | ok f s1 =>
    rw [e] at h
    cases f with
    | nx δ' => exact fun σ' H' po' hs' r' g' => r2 Dn σ' δ' H0 B H' s1 po' hs' r' (PostS.mono g' h)
    | bk δ' => exact h
    | ct δ' => exact h
    | rt d => exact h
  | err x p s1 =>
    rw [e] at h
    exact h
  | stuck =>
    rw [e] at h
    exact h
/-- a list of one's own is a list like any other from here on -/
def frz (i : Nat) (δ : Ev) : Ev := match δ[i]? with
  | some (.o ds) => δ.set i (.d (.lst ds))
  | _ => δ
def sFrz (i : Nat) (G : FS) : FS := fun δ s => G (frz i δ) s
end
section
variable {c : Cf} {H0 H : Hp} {B : Bad} {σ : L2.St} {δ : Ev} {po : Nat → Addr}
theorem set_get {δ : Ev} {i j : Nat} {x y : SV} (h : (δ.set i x)[j]? = some y) : (j = i ∧ y = x) ∨ (j ≠ i ∧ δ[j]? = some y) := by
  by_cases e : i = j
  · subst e
    have hl : i < δ.length := by
      have := (List.getElem?_eq_some_iff.mp h).1
      simpa using this
    rw [List.getElem?_set_self hl] at h
    exact .inl ⟨rfl, (Option.some.inj h).symm⟩
  · rw [List.getElem?_set_ne e] at h
    exact .inr ⟨fun z => e z.symm, h⟩
/-- fewer lists of one's own -/
theorem SR.less (r : SR c H0 B H σ δ po) {σ' : L2.St} {δ' : Ev} (hl : σ'.length = δ'.length) (ho : ∀ (i : Nat) ds, δ'[i]? = some (SV.o ds) → δ[i]? = some (SV.o ds) ∧ σ'[i]? = σ[i]?)
    (hd : ∀ (i : Nat) x, δ'[i]? = some (SV.d x) → ∃ v, σ'[i]? = some (some v) ∧ DV c x (Bo B δ' po) H v) : SR c H0 B H σ' δ' po ∧ Grow c (Bo B δ po) H (Bo B δ' po) H := by
  have g : Grow c (Bo B δ po) H (Bo B δ' po) H := ⟨fun _ _ e _ => e, bo_st r, fun a q => .inl (by
    rcases q with q | ⟨i, ds, e, rfl⟩
    · exact .inl q
    · exact .inr ⟨i, ds, (ho i ds e).1, rfl⟩)⟩
  refine ⟨⟨hl, r.keeps, r.b0, r.kf, fun i ds e => ?_, fun i j ds ds' e e' => r.dist i j ds ds' (ho i ds e).1 (ho j ds' e').1, hd⟩, g⟩
  obtain ⟨h1, h2⟩ := ho i ds e
  obtain ⟨xs, q1, q2, q3, q4⟩ := r.own i ds h1
  exact ⟨xs, by rw [h2]; exact q1, q2, q3, DVs.grow g ds xs q4⟩
theorem SR.frz (r : SR c H0 B H σ δ po) (i : Nat) : SR c H0 B H σ (frz i δ) po ∧ Grow c (Bo B δ po) H (Bo B (frz i δ) po) H := by
  unfold Mi.frz
  split
  · rename_i ds e
    have ho : ∀ (j : Nat) ds', (δ.set i (.d (.lst ds)))[j]? = some (SV.o ds') → δ[j]? = some (SV.o ds') ∧ σ[j]? = σ[j]? := fun j ds' q => by
      rcases set_get q with ⟨_, z⟩ | ⟨_, z⟩
      · cases z
      · exact ⟨z, rfl⟩
    have g : Grow c (Bo B δ po) H (Bo B (δ.set i (.d (.lst ds))) po) H := ⟨fun _ _ e _ => e, bo_st r, fun a q => .inl (by
      rcases q with q | ⟨j, ds', e', rfl⟩
      · exact .inl q
      · exact .inr ⟨j, ds', (ho j ds' e').1, rfl⟩)⟩
    refine r.less (by rw [r.len, List.length_set]) ho fun j x q => ?_
    rcases set_get q with ⟨rfl, z⟩ | ⟨hne, z⟩
    · cases z
      obtain ⟨xs, q1, q2, q3, q4⟩ := r.own j ds e
      refine ⟨_, q1, po j, xs, rfl, fun z => ?_, .inl (.inl q2), DVs.grow g ds xs q4⟩
      rcases z with z | ⟨k, ds', e', ek⟩
      · exact r.b0.there _ z q3
      · have := r.dist j k ds ds' e (ho k ds' e').1 ek
        subst this
        rcases set_get e' with ⟨_, z⟩ | ⟨hne, _⟩
        · cases z
        · exact hne rfl
    · obtain ⟨v, h1, h2⟩ := r.dat j x z
      exact ⟨v, h1, DV.grow g x v h2⟩
  · exact ⟨r, Grow.refl (bo_st r)⟩
/-- a slot gets data -/
theorem SR.set (r : SR c H0 B H σ δ po) (i : Nat) {d : D} {v : V} (dv : DV c d (Bo B δ po) H v) : SR c H0 B H (σ.set i (some v)) (δ.set i (.d d)) po ∧ Grow c (Bo B δ po) H (Bo B (δ.set i (.d d)) po) H := by
  have ho : ∀ (j : Nat) ds', (δ.set i (.d d))[j]? = some (SV.o ds') → δ[j]? = some (SV.o ds') ∧ (σ.set i (some v))[j]? = σ[j]? := fun j ds' q => by
    rcases set_get q with ⟨_, z⟩ | ⟨hne, z⟩
    · cases z
    · exact ⟨z, List.getElem?_set_ne (Ne.symm hne)⟩
  have g : Grow c (Bo B δ po) H (Bo B (δ.set i (.d d)) po) H := ⟨fun _ _ e _ => e, bo_st r, fun a q => .inl (by
    rcases q with q | ⟨j, ds', e', rfl⟩
    · exact .inl q
    · exact .inr ⟨j, ds', (ho j ds' e').1, rfl⟩)⟩
  refine r.less (by rw [List.length_set, List.length_set, r.len]) ho fun j x q => ?_
  rcases set_get q with ⟨rfl, z⟩ | ⟨hne, z⟩
  · cases z
    have hl : j < σ.length := by
      have := (List.getElem?_eq_some_iff.mp q).1
      rw [List.length_set, ← r.len] at this
      exact this
    exact ⟨v, List.getElem?_set_self hl, DV.grow g d v dv⟩
  · obtain ⟨u, h1, h2⟩ := r.dat j x z
    exact ⟨u, by rw [List.getElem?_set_ne (Ne.symm hne)]; exact h1, DV.grow g x u h2⟩
def pset (po : Nat → Addr) (i : Nat) (q : Addr) : Nat → Addr := fun j => if j = i then q else po j
theorem pset_same {po : Nat → Addr} {i : Nat} {q : Addr} : pset po i q i = q := if_pos rfl
theorem pset_ne {po : Nat → Addr} {i j : Nat} {q : Addr} (h : j ≠ i) : pset po i q j = po j := if_neg h
/-- a slot gets a new list of its own -/
theorem SR.new {s : S} (hs : HS c H s) (r : SR c H0 B H σ δ po) (i : Nat) {ds : List D} {xs : List V} {q : Addr} (nq : H q = none) (kf : KF c (upd H q (.lst xs))) (dv : DVs c ds (Bo B δ po) H xs) :
    SR c H0 B (upd H q (.lst xs)) (σ.set i (some (.ref q))) (δ.set i (.o ds)) (pset po i q) ∧ Grow c (Bo B δ po) H (Bo B (δ.set i (.o ds)) (pset po i q)) (upd H q (.lst xs)) := by
  have kq : c.K.lookup q = none := kf q (by rw [upd_same]; simp)
  have hk : Keeps c H (upd H q (.lst xs)) := Keeps.new nq
  have g : Grow c (Bo B δ po) H (Bo B (δ.set i (.o ds)) (pset po i q)) (upd H q (.lst xs)) := ⟨fun a o e _ => (by rw [upd_ne (ne_of_none e nq)]; exact e), bo_st r, fun a z => by
    rcases z with z | ⟨j, ds', e', rfl⟩
    · exact .inl (.inl z)
    · by_cases hj : j = i
      · subst hj
        rw [pset_same]
        exact .inr ⟨nq, kq⟩
      · rw [pset_ne hj]
        rcases set_get e' with ⟨z, _⟩ | ⟨_, z⟩
        · exact absurd z hj
        · exact .inl (.inr ⟨j, ds', z, rfl⟩)⟩
  refine ⟨⟨by rw [List.length_set, List.length_set, r.len], r.keeps.trans hk, r.b0, kf, fun j ds' e => ?_, fun j k d1 d2 e1 e2 ek => ?_, fun j x e => ?_⟩, g⟩
  · rcases set_get e with ⟨rfl, z⟩ | ⟨hne, z⟩
    · cases z
      have hl : j < σ.length := by
        have := (List.getElem?_eq_some_iff.mp e).1
        rw [List.length_set, ← r.len] at this
        exact this
      refine ⟨xs, ?_, ?_, ?_, DVs.grow g ds xs dv⟩
      · rw [List.getElem?_set_self hl, pset_same]
      · rw [pset_same, upd_same]
      · rw [pset_same]
        cases e0 : H0 q with
        | none => rfl
        | some o =>
          have hst : ¬ c.Mut q := fun z => hs.mut z nq
          rw [r.keeps q o e0 hst] at nq
          cases nq
    · obtain ⟨ys, q1, q2, q3, q4⟩ := r.own j ds' z
      refine ⟨ys, ?_, ?_, ?_, DVs.grow g ds' ys q4⟩
      · rw [List.getElem?_set_ne (Ne.symm hne), pset_ne hne]
        exact q1
      · rw [pset_ne hne, upd_ne (ne_of_none q2 nq)]
        exact q2
      · rw [pset_ne hne]
        exact q3
  · by_cases hj : j = i
    · by_cases hk2 : k = i
      · rw [hj, hk2]
      · subst hj
        rw [pset_same, pset_ne hk2] at ek
        rcases set_get e2 with ⟨z, _⟩ | ⟨_, z⟩
        · exact absurd z hk2
        · obtain ⟨ys, q1, q2, _⟩ := r.own k d2 z
          rw [← ek, nq] at q2
          cases q2
    · rcases set_get e1 with ⟨z, _⟩ | ⟨_, z1⟩
      · exact absurd z hj
      · by_cases hk2 : k = i
        · subst hk2
          rw [pset_ne hj, pset_same] at ek
          obtain ⟨ys, q1, q2, _⟩ := r.own j d1 z1
          rw [ek, nq] at q2
          cases q2
        · rw [pset_ne hj, pset_ne hk2] at ek
          rcases set_get e2 with ⟨z, _⟩ | ⟨_, z2⟩
          · exact absurd z hk2
          · exact r.dist j k d1 d2 z1 z2 ek
  · rcases set_get e with ⟨_, z⟩ | ⟨hne, z⟩
    · cases z
    · obtain ⟨u, h1, h2⟩ := r.dat j x z
      exact ⟨u, by rw [List.getElem?_set_ne (Ne.symm hne)]; exact h1, DV.grow g x u h2⟩
end
end Mi
namespace Mi
open PySem PySem.Spec PyProof.Rows L2
section
variable {X : Cx} {st : Sto} {E : XK} {pos p : Pos} {a b e : Expr} {F F' : FE} {es : List Expr} {FAs : FA} {x : Str} {G G' : FS} {t0 : Stmt} {ts : List Stmt} {T : FT}
theorem sd_frz (i : Nat) (h1 : SD X st E ts G) : SD X st E ts (sFrz i G) := by
  obtain ⟨t1, p1, r1⟩ := h1
  refine ⟨_, p1, fun Dn σ δ H0 B H s po hs r h => ?_⟩
  obtain ⟨r', g⟩ := r.frz i
  exact r1 Dn σ (frz i δ) H0 B H s po hs r' (PostS.mono g h)
def sSet (i : Nat) (F : FE) : FS := fun δ s => rb (F δ s) fun d s1 => .ok (.nx (δ.set i (.d d))) s1
theorem s_set (i : Nat) {pos' : Pos} (hN : X.N.Nodup) (h1 : ED X st E e F) (hi : X.N[i]? = some x := by rfl) (hx : Loc X.env.scope x := by first | exact Or.inl rfl | exact Or.inr rfl) (hs : swapsWith e (some (.Name x pos')) pos.line X.env = pure false := by rfl)
    (hf : X.fn x = true ∨ X.env.scope.names.lookup x = some .local := by first | exact .inl rfl | exact .inr rfl) : S1 X st E (.Assign [.Name x pos'] e pos) (sSet i F) := by
  obtain ⟨t1, p1, r1⟩ := h1
  refine ⟨_, ps_set (i := i) hN hi hx p1 hs hf, fun Dn σ δ H0 B H s po hs r h => ?_⟩
  refine r1 σ δ _ H s _ (r.at hs) (PostS.ofE r.keeps h fun d s1 v H1 kf k hs1 dv h => ?_)
  obtain ⟨r2, g2⟩ := (r.eval hs kf k).set i dv
  exact h _ H1 po hs1 r2 (((r.bok hs).grow k).trans g2)
/-- x = [..]: a list of the def's own, to be appended to -/
def sOwn (i : Nat) (F : FA) : FS := fun δ s => rb (F δ s) fun ds s1 => if ds.length ≤ 100000 then .ok (.nx (δ.set i (.o ds))) s1 else .stuck
theorem s_own (i : Nat) {pos' pos2 : Pos} (hN : X.N.Nodup) (h1 : AD X st E es FAs) (hi : X.N[i]? = some x := by rfl) (hx : Loc X.env.scope x := by first | exact Or.inl rfl | exact Or.inr rfl) (hs : swapsWith (.List es pos2) (some (.Name x pos')) pos.line X.env = pure false := by rfl)
    (hf : X.fn x = true ∨ X.env.scope.names.lookup x = some .local := by first | exact .inl rfl | exact .inr rfl) : S1 X st E (.Assign [.Name x pos'] (.List es pos2) pos) (sOwn i FAs) := by
  obtain ⟨t1, p1, r1⟩ := h1
  refine ⟨_, ps_set (i := i) hN hi hx (pe_plus (pe_lst p1)) hs hf, fun Dn σ δ H0 B H s po hs r h => ?_⟩
  refine r1 σ δ _ H s _ (r.at hs) (PostS.ofE r.keeps h fun ds s1 vs H1 kf k hs1 dv h => ?_)
  split at h
  · rename_i hl
    refine ⟨size5 (by rw [dv.length]; exact hl), fun q nq kf2 => ?_⟩
    obtain ⟨r2, g2⟩ := SR.new hs1 (r.eval hs kf k) i nq kf2 dv
    exact h _ _ _ (hs1.new nq) r2 (((r.bok hs).grow k).trans g2)
  · exact False.elim h
/-- x.append(e) -/
def sApp (i : Nat) (F : FE) : FS := fun δ s => match δ[i]? with
  | some (.o ds) => rb (F δ s) fun d s1 => if ds.length < 100000 then .ok (.nx (δ.set i (.o (ds ++ [d])))) s1 else .stuck
  | _ => .stuck
theorem size5' {n : Nat} (h : n < 100000) : n < sizeLine := Nat.lt_of_lt_of_le h (by decide)
theorem kf_same {c : Cf} {H : Hp} {p : Addr} {o u : HO} (kf : KF c H) (h : H p = some o) : KF c (upd H p u) := fun a ha => by
  by_cases e : a = p
  · subst e
    exact kf a (by rw [h]; simp)
  · rw [upd_ne e] at ha
    exact kf a ha
theorem HS.other {c : Cf} {H : Hp} {s : S} {p : Addr} {xs : List V} {o : HO} (h : HS c H s) (hp : H p = some (.lst xs)) (n : ¬ c.Mut p) (n2 : ∀ a, c.st = some a → c.ca ≠ p) : HS c (upd H p o) s := ⟨fun a e => by
  obtain ⟨h1, h2, h3⟩ := h.store a e
  have na : a ≠ p := fun z => n (.inl (by rw [← z]; exact e))
  exact ⟨by rw [upd_ne na]; exact h1, by rw [upd_ne (n2 a e)]; exact h2, h3⟩, fun q hq => by
  obtain ⟨ps, e1, e2, e3⟩ := h.tabs q hq
  have nq : q.1 ≠ p := fun z => n (.inr (List.mem_map.mpr ⟨q, hq, z⟩))
  refine ⟨ps, by rw [upd_ne nq]; exact e1, e2, fun pos cv hc => ?_⟩
  obtain ⟨cc, q1, q2⟩ := e3 pos cv hc
  have nc : cc ≠ p := fun z => by
    rw [z, hp] at q2
    unfold LamX.CodeO at q2
    cases q2
  exact ⟨cc, q1, by rw [upd_ne nc]; exact q2⟩⟩
/-- the list in slot i changes -/
theorem SR.grown {c : Cf} {H0 H : Hp} {B : Bad} {σ : L2.St} {δ : Ev} {po : Nat → Addr} {s : S} (hs : HS c H s) (r : SR c H0 B H σ δ po) {i : Nat} {ds ds' : List D} {xs' : List V} (e : δ[i]? = some (SV.o ds)) (dv : DVs c ds' (Bo B δ po) H xs') :
    SR c H0 B (upd H (po i) (.lst xs')) σ (δ.set i (.o ds')) po ∧ Grow c (Bo B δ po) H (Bo B (δ.set i (.o ds')) po) (upd H (po i) (.lst xs')) ∧ HS c (upd H (po i) (.lst xs')) s := by
  obtain ⟨xs, q1, q2, q3, q4⟩ := r.own i ds e
  have hl : i < δ.length := (List.getElem?_eq_some_iff.mp e).1
  have bo : ∀ a, Bo B (δ.set i (.o ds')) po a → Bo B δ po a := fun a z => by
    rcases z with z | ⟨j, d2, e2, rfl⟩
    · exact .inl z
    · rcases set_get e2 with ⟨rfl, _⟩ | ⟨_, z⟩
      · exact .inr ⟨j, ds, e, rfl⟩
      · exact .inr ⟨j, d2, z, rfl⟩
  have g : Grow c (Bo B δ po) H (Bo B (δ.set i (.o ds')) po) (upd H (po i) (.lst xs')) := ⟨fun a o h n => (by
    rw [upd_ne (fun z => n (.inr ⟨i, ds, e, z⟩))]
    exact h), bo_st r, fun a z => .inl (bo a z)⟩
  have nca : ∀ a, c.st = some a → c.ca ≠ po i := fun a z q => r.b0.there c.ca (r.b0.ca a z) (by rw [q]; exact q3)
  refine ⟨⟨by rw [List.length_set, r.len], fun a o h n => ?_, r.b0, kf_same r.kf q2, fun j d2 e2 => ?_, fun j k d1 d2 e1 e2 ek => ?_, fun j x e2 => ?_⟩, g, hs.other q2 (r.nst e) nca⟩
  · have ha : a ≠ po i := fun z => by
      rw [z, q3] at h
      cases h
    rw [upd_ne ha]
    exact r.keeps a o h n
  · rcases set_get e2 with ⟨rfl, z⟩ | ⟨hne, z⟩
    · cases z
      exact ⟨xs', q1, upd_same, q3, DVs.grow g ds' xs' dv⟩
    · obtain ⟨ys, z1, z2, z3, z4⟩ := r.own j d2 z
      exact ⟨ys, z1, by rw [upd_ne (fun q => hne (r.dist j i d2 ds z e q))]; exact z2, z3, DVs.grow g d2 ys z4⟩
  · have f : ∀ (j : Nat) d, (δ.set i (.o ds'))[j]? = some (SV.o d) → ∃ d', δ[j]? = some (SV.o d') := fun j d q => by
      rcases set_get q with ⟨rfl, _⟩ | ⟨_, z⟩
      · exact ⟨ds, e⟩
      · exact ⟨d, z⟩
    obtain ⟨d1', z1⟩ := f j d1 e1
    obtain ⟨d2', z2⟩ := f k d2 e2
    exact r.dist j k d1' d2' z1 z2 ek
  · rcases set_get e2 with ⟨_, z⟩ | ⟨hne, z⟩
    · cases z
    · obtain ⟨v, h1, h2⟩ := r.dat j x z
      exact ⟨v, h1, DV.grow g x v h2⟩
theorem s_app (i : Nat) {pn apos : Pos} (h1 : ED X st E e F) (hi : X.N[i]? = some x := by rfl) (hv : Vis X.env.scope x := by first | exact Or.inl rfl | exact Or.inr (Or.inl rfl) | exact Or.inr (Or.inr rfl)) (hd : (x == ("__debug__" : Str)) = false := by decide)
    (hcd : (x == ("__classdict__" : Str)) = false := by decide) (hbase : attributeBase (.Name x pn) "append" X.env (eval (.Name x pn) X.env) = eval (.Name x pn) X.env := by rfl)
    (hfew : ((backTo p (starEach [e] X.env)).all (fun x => !x.1) && (backToKw p (keywordEach [] X.env)).all (fun x => x.1.isSome)
      && decide (([e] : List Expr).length + ([] : List Keyword).length + (if ([] : List Keyword).isEmpty then 0 else 1) < 30)) = true := by rfl)
    (hline : (apos.endLine == p.line) = true := by rfl) (hs0 : starEach [e] X.env = [(false, eval e X.env)] := by rfl) (hplain : (backTo p (starEach [] X.env)).any (·.1) = false := by rfl)
    (hsw : swapsWith (.Call (.Attribute (.Name x pn) "append" apos) [e] [] p) none pos.line X.env = pure false := by rfl) : S1 X st E (.Expr (.Call (.Attribute (.Name x pn) "append" apos) [e] [] p) pos) (sApp i F) := by
  obtain ⟨t1, p1, r1⟩ := h1
  refine ⟨_, ps_expr (pe_plus (pe_bm PySem.F.plainAttrs_list PySem.F.slot_list_append PySem.F.type_list_append mt_append (pe_var hi hv hd hcd) (pa_cons p1 pa_nil hs0) hbase hfew hline hs0 hplain)) hsw, fun Dn σ δ H0 B H s po hs r h => ?_⟩
  unfold sApp at h
  split at h
  · rename_i ds ei
    obtain ⟨xs, q1, q2, q3, q4⟩ := r.own i ds ei
    refine ⟨_, q1, .inl ⟨rfl, xs, .inl (.inl q2)⟩, ?_⟩
    refine r1 σ δ _ H s _ (r.at hs) (PostS.ofE r.keeps h fun d s1 v H1 kf k hs1 dv h => ?_)
    have r1' := r.eval hs kf k
    obtain ⟨xs1, w1, w2, w3, w4⟩ := r1'.own i ds ei
    split at h
    · rename_i hl
      obtain ⟨r2, g2, hs2⟩ := SR.grown hs1 r1' (ds' := ds ++ [d]) (xs' := xs1 ++ [v]) ei (w4.append ⟨v, [], rfl, dv, rfl⟩)
      refine ⟨po i, xs1, v, rfl, rfl, w2, size5' (by rw [w4.length]; exact hl), fun kf2 => ?_⟩
      exact h _ _ po hs2 r2 (((r.bok hs).grow k).trans g2)
    · exact False.elim h
  · exact False.elim h
/-- x.extend([..]) -/
def sExt (i : Nat) (F : FA) : FS := fun δ s => match δ[i]? with
  | some (.o ds) => rb (F δ s) fun es s1 => if es.length ≤ 50000 ∧ ds.length ≤ 50000 then .ok (.nx (δ.set i (.o (ds ++ es)))) s1 else .stuck
  | _ => .stuck
theorem s_ext (i : Nat) {pn apos pl : Pos} (h1 : AD X st E es FAs) (hi : X.N[i]? = some x := by rfl) (hv : Vis X.env.scope x := by first | exact Or.inl rfl | exact Or.inr (Or.inl rfl) | exact Or.inr (Or.inr rfl)) (hd : (x == ("__debug__" : Str)) = false := by decide)
    (hcd : (x == ("__classdict__" : Str)) = false := by decide) (hbase : attributeBase (.Name x pn) "extend" X.env (eval (.Name x pn) X.env) = eval (.Name x pn) X.env := by rfl)
    (hfew : ((backTo p (starEach [.List es pl] X.env)).all (fun x => !x.1) && (backToKw p (keywordEach [] X.env)).all (fun x => x.1.isSome)
      && decide (([Expr.List es pl] : List Expr).length + ([] : List Keyword).length + (if ([] : List Keyword).isEmpty then 0 else 1) < 30)) = true := by rfl)
    (hline : (apos.endLine == p.line) = true := by rfl) (hs0 : starEach [.List es pl] X.env = [(false, eval (.List es pl) X.env)] := by rfl) (hplain : (backTo p (starEach [] X.env)).any (·.1) = false := by rfl)
    (hsw : swapsWith (.Call (.Attribute (.Name x pn) "extend" apos) [.List es pl] [] p) none pos.line X.env = pure false := by rfl) : S1 X st E (.Expr (.Call (.Attribute (.Name x pn) "extend" apos) [.List es pl] [] p) pos) (sExt i FAs) := by
  obtain ⟨t1, p1, r1⟩ := h1
  refine ⟨_, ps_expr (pe_plus (pe_bm PySem.F.plainAttrs_list PySem.F.slot_list_extend PySem.F.type_list_extend mt_extend (pe_var hi hv hd hcd) (pa_cons (pe_lst p1) pa_nil hs0) hbase hfew hline hs0 hplain)) hsw, fun Dn σ δ H0 B H s po hs r h => ?_⟩
  unfold sExt at h
  split at h
  · rename_i ds ei
    obtain ⟨xs, q1, q2, q3, q4⟩ := r.own i ds ei
    refine ⟨_, q1, .inl ⟨rfl, xs, .inl (.inl q2)⟩, ?_⟩
    refine r1 σ δ _ H s _ (r.at hs) (PostS.ofE r.keeps h fun es s1 vs H1 kf k hs1 dv h => ?_)
    have r1' := r.eval hs kf k
    obtain ⟨xs1, w1, w2, w3, w4⟩ := r1'.own i ds ei
    split at h
    · rename_i hl
      refine ⟨size5 (by rw [dv.length]; omega), fun q nq => ?_⟩
      have npq : po i ≠ q := ne_of_none w2 nq
      have hk2 : Keeps (cf X st) H1 (upd H1 q (.lst vs)) := Keeps.new nq
      refine ⟨po i, q, xs1, vs, rfl, rfl, by rw [upd_ne npq]; exact w2, upd_same, size5 (by rw [w4.length, dv.length]; omega), fun kf2 => ?_⟩
      have kf3 : KF (cf X st) (upd H1 q (.lst vs)) := fun a ha => kf2 a (by
        by_cases z : a = po i
        · rw [z, upd_same]; simp
        · rw [upd_ne z]; exact ha)
      have r2 := r1'.eval hs1 kf3 hk2
      have hs2 := hs1.new (o := .lst vs) nq
      obtain ⟨r3, g3, hs3⟩ := SR.grown hs2 r2 (ds' := ds ++ es) (xs' := xs1 ++ vs) ei ((DVs.grow ((r1'.bok hs1).grow hk2) ds xs1 w4).append (DVs.grow ((r1'.bok hs1).grow hk2) es vs dv))
      exact h _ _ po hs3 r3 (((r.bok hs).grow (k.trans hk2)).trans g3)
    · exact False.elim h
  · exact False.elim h
def sIf (T : FT) (G G' : FS) : FS := fun δ s => rb (T δ s) fun b s1 => if b then G δ s1 else G' δ s1
theorem s_if {as bs : List Stmt} (h0 : TD X st E e T) (h1 : SD X st E as G) (h2 : SD X st E bs G') : S1 X st E (.If e as bs pos) (sIf T G G') := by
  obtain ⟨t0, p0, r0⟩ := h0
  obtain ⟨t1, p1, r1⟩ := h1
  obtain ⟨t2, p2, r2⟩ := h2
  refine ⟨_, ps_if p0 p1 p2, fun Dn σ δ H0 B H s po hs r h => ?_⟩
  refine r0 σ δ _ H s _ (r.at hs) (PostS.ofE r.keeps h fun k s1 v H1 kf kp hs1 dv h => ?_)
  have hg := PostS.mono ((r.bok hs).grow kp) h
  subst dv
  cases v with
  | true => exact r1 Dn σ δ H0 B H1 s1 po hs1 (r.eval hs kf kp) hg
  | false => exact r2 Dn σ δ H0 B H1 s1 po hs1 (r.eval hs kf kp) hg
/-- data that avoids the def's own lists avoids what was bad before -/
theorem DV.out {c : Cf} {H0 H : Hp} {B : Bad} {σ : L2.St} {δ : Ev} {po : Nat → Addr} (r : SR c H0 B H σ δ po) {d : D} {v : V} (h : DV c d (Bo B δ po) H v) : DV c d B H v :=
  DV.grow ⟨fun _ _ e _ => e, bo_st r, fun a q => .inl (.inl q)⟩ d v h
def sRet (F : FE) : FS := fun δ s => rb (F δ s) fun d s1 => .ok (.rt d) s1
theorem s_ret (h1 : ED X st E e F) : S1 X st E (.Return (some e) pos) (sRet F) := by
  obtain ⟨t1, p1, r1⟩ := h1
  refine ⟨_, ps_ret p1, fun Dn σ δ H0 B H s po hs r h => ?_⟩
  refine r1 σ δ _ H s _ (r.at hs) (PostS.ofE r.keeps h fun d s1 v H1 kf k hs1 dv h => ?_)
  exact h v H1 kf (r.keeps.trans k) hs1 (DV.out (r.eval hs kf k) dv)
def sRetN : FS := fun _ s => .ok (.rt .non) s
theorem s_retN : S1 X st E (.Return none pos) sRetN := ⟨_, ps_retN, fun Dn σ δ H0 B H s po hs r h => h .non H r.kf r.keeps hs rfl⟩
def sExpr (F : FE) : FS := fun δ s => rb (F δ s) fun _ s1 => .ok (.nx δ) s1
theorem s_expr (h1 : ED X st E e F) (hs : swapsWith e none pos.line X.env = pure false := by rfl) : S1 X st E (.Expr e pos) (sExpr F) := by
  obtain ⟨t1, p1, r1⟩ := h1
  refine ⟨_, ps_expr p1 hs, fun Dn σ δ H0 B H s po hs r h => ?_⟩
  refine r1 σ δ _ H s _ (r.at hs) (PostS.ofE r.keeps h fun d s1 v H1 kf k hs1 dv h => ?_)
  exact h σ H1 po hs1 (r.eval hs kf k) ((r.bok hs).grow k)
theorem s_pass : S1 X st E (.Pass pos) sNil := ⟨_, ps_pass, fun Dn σ δ H0 B H s po hs r h => h σ H po hs r (Grow.refl (bo_st r))⟩
def sBrk : FS := fun δ s => .ok (.bk δ) s
def sCnt : FS := fun δ s => .ok (.ct δ) s
theorem s_break : S1 X st E (.Break pos) sBrk := ⟨_, ps_break, fun Dn σ δ H0 B H s po hs r h => h σ H po hs r (Grow.refl (bo_st r))⟩
theorem s_continue : S1 X st E (.Continue pos) sCnt := ⟨_, ps_continue, fun Dn σ δ H0 B H s po hs r h => h σ H po hs r (Grow.refl (bo_st r))⟩
/-- x += e, ints -/
def sAug (i : Nat) (f : Int → Int → Int) (F : FE) : FS := fun δ s => match δ[i]? with
  | some (.d (.int n)) => rb (F δ s) fun d s1 => (match d with
    | .int m => .ok (.nx (δ.set i (.d (.int (f n m))))) s1
    | _ => .stuck)
  | _ => .stuck
theorem s_aug (i : Nat) {op : Operator} {f : Int → Int → Int} {pos' : Pos} (ho : PIp X op (ipI f)) (hN : X.N.Nodup) (h1 : ED X st E e F) (hi : X.N[i]? = some x := by rfl) (hx : Loc X.env.scope x := by first | exact Or.inl rfl | exact Or.inr rfl)
    (hf : X.fn x = true ∨ X.env.scope.names.lookup x = some .local := by first | exact .inl rfl | exact .inr rfl) : S1 X st E (.AugAssign (.Name x pos') op e pos) (sAug i f F) := by
  obtain ⟨t1, p1, r1⟩ := h1
  refine ⟨_, ps_aug (i := i) hN hi hx p1 ho hf, fun Dn σ δ H0 B H s po hs r h => ?_⟩
  unfold sAug at h
  split at h
  · rename_i n ei
    obtain ⟨v0, q1, q2⟩ := r.dat i _ ei
    rw [show v0 = .int n from q2] at q1
    refine ⟨_, q1, ?_⟩
    refine r1 σ δ _ H s _ (r.at hs) (PostS.ofE r.keeps h fun d s1 v H1 kf k hs1 dv h => ?_)
    cases d with
    | int m =>
      refine ⟨n, m, rfl, dv, ?_⟩
      obtain ⟨r2, g2⟩ := (r.eval hs kf k).set i (d := .int (f n m)) (v := .int (f n m)) rfl
      exact h _ H1 po hs1 r2 (((r.bok hs).grow k).trans g2)
    | _ => exact False.elim h
  · exact False.elim h

/-! ### raise -/
theorem pmk_own0 {C : Addr} {bmB : List Value} {B0 newId initId : String} (FF : ExcBaseFacts B0 newId initId bmB) (q : PySem.W.excIn X.K C bmB newId = true) (gC : X.mg x = some (.ref C)) (kC : PySem.W.keepIn X.K (.ref C) = true) (r : Raises X (.ref C)) (hg : Gl X x)
    (hdb : (x == ("__debug__" : Str)) = false := by decide) : L2N.PMk X (.Call (.Name x p) [] [] pos) (fun _ H Q => Q (.ref C) none H) := by
  intro pins s σ H Q I h
  refine wpAny_Call_Name_kw (ld_glob I hg gC ?_ hdb)
  refine PySem.W.callWith_K0 I.kIn kC ?_
  obtain ⟨bm, N, nm, qn, bs, hdct, sn, sub, ab, col, dd, k0, k1, k2, k3, k5, mN, hC, hN, hni, T⟩ := exc_obj I.kIn q
  refine wpAny_call_exc_subT FF T hC hN hni (fun h' e hm => ?_) (by show 0 ≤ sizeLine; rw [sizeLine_eq]; omega)
  exact L2N.mk_of I hm r h (I.hok.gone hm.new)
/-- what is known of an own error class without __init__ -/
structure ErrOk (K : PySem.W.Frag) (mg : Str → Option Value) (x : Str) : Prop where
  ex : ∃ C, mg x = some (.ref C) ∧ PySem.W.excIn K C [.type "ValueError", .type "Exception", .type "BaseException", .type "object"] "ValueError.__new__" = true ∧ PySem.W.keepIn K (.ref C) = true ∧ PySem.W.subIn K (.ref C) (.type "BaseException") = some true ∧ PySem.W.typeIn K (.ref C) = some (.type "type")
def sRaise (x : Str) : FS := fun _ s => .err x .non s
theorem s_raise {pos2 : Pos} (hc : X.calm = true) (tk : L2N.Takes X fun cls d _ H => E cls d H) (K0 : ErrOk X.K X.mg x) (hg : Gl X x := by rfl) (hdb : (x == ("__debug__" : Str)) = false := by decide) : S1 X st E (.Raise (some (.Call (.Name x p) [] [] pos2)) none pos) (sRaise x) := by
  obtain ⟨C, m, q, k, sb, ty⟩ := K0.ex
  refine ⟨_, L2N.ps_raise hc tk (pmk_own0 PySem.F.excBase_ValueError q m k (raises_own sb ty) hg hdb), fun Dn σ δ H0 B H s po hs r h => ?_⟩
  exact h C none H r.keeps hs m rfl

/-! ### targets -/
abbrev FG := D → Ev → Option Ev
def GD (X : Cx) (st : Sto) (tg : Expr) (T : FG) : Prop :=
  ∃ g, PG X tg g ∧ ∀ σ δ H0 B H po d v δ' (Q : L2.St → Hp → Prop), SR (cf X st) H0 B H σ δ po → DV (cf X st) d (Bo B δ po) H v → T d δ = some δ' →
    (∀ σ', SR (cf X st) H0 B H σ' δ' po → Grow (cf X st) (Bo B δ po) H (Bo B δ' po) H → Q σ' H) → g v σ H Q
def GsD (X : Cx) (st : Sto) (tgs : List Expr) (T : List D → Ev → Option Ev) : Prop :=
  ∃ g, PGs X tgs g ∧ ∀ σ δ H0 B H po ds vs δ' (Q : L2.St → Hp → Prop), SR (cf X st) H0 B H σ δ po → DVs (cf X st) ds (Bo B δ po) H vs → T ds δ = some δ' →
    (∀ σ', SR (cf X st) H0 B H σ' δ' po → Grow (cf X st) (Bo B δ po) H (Bo B δ' po) H → Q σ' H) → g vs σ H Q
def nName (i : Nat) : FG := fun d δ => some (δ.set i (.d d))
theorem gd_name (i : Nat) (hN : X.N.Nodup) (hi : X.N[i]? = some x := by rfl) (hx : Loc X.env.scope x := by first | exact Or.inl rfl | exact Or.inr rfl) (hf : X.fn x = true ∨ X.env.scope.names.lookup x = some .local := by first | exact .inl rfl | exact .inr rfl) : GD X st (.Name x pos) (nName i) := by
  refine ⟨_, pg_name (i := i) hN hi hx hf, fun σ δ H0 B H po d v δ' Q r dv e q => ?_⟩
  obtain rfl := Option.some.inj e
  obtain ⟨r2, g2⟩ := r.set i dv
  exact q _ r2 g2
def nNil : List D → Ev → Option Ev := fun ds δ => match ds with
  | [] => some δ
  | _ => none
def nCons (T : FG) (Ts : List D → Ev → Option Ev) : List D → Ev → Option Ev := fun ds δ => match ds with
  | d :: r => (T d δ).bind fun δ' => Ts r δ'
  | [] => none
theorem gd_nil : GsD X st [] nNil := by
  refine ⟨_, pgs_nil, fun σ δ H0 B H po ds vs δ' Q r dv e q => ?_⟩
  unfold nNil at e
  split at e
  · obtain rfl := Option.some.inj e
    exact ⟨dv, q σ r (Grow.refl (bo_st r))⟩
  · cases e
theorem gd_cons {T : FG} {Ts : List D → Ev → Option Ev} {tg : Expr} {tgs : List Expr} (h1 : GD X st tg T) (h2 : GsD X st tgs Ts) (hs : (assignEach (tg :: tgs) X.env).map (·.2) = assign tg X.env :: (assignEach tgs X.env).map (·.2) := by rfl) : GsD X st (tg :: tgs) (nCons T Ts) := by
  obtain ⟨g1, p1, r1⟩ := h1
  obtain ⟨g2, p2, r2⟩ := h2
  refine ⟨_, pgs_cons p1 p2 hs, fun σ δ H0 B H po ds vs δ' Q r dv e q => ?_⟩
  unfold nCons at e
  split at e
  · rename_i d rest
    obtain ⟨v, vr, rfl, hv, hr⟩ := dv
    obtain ⟨δ1, e1, e2⟩ := Option.bind_eq_some_iff.mp e
    refine ⟨v, vr, rfl, r1 σ δ H0 B H po d v δ1 _ r hv e1 fun σ' r' g' => ?_⟩
    exact r2 σ' δ1 H0 B H po rest vr δ' Q r' (DVs.grow g' rest vr hr) e2 fun σ2 r3 g3 => q σ2 r3 (g'.trans g3)
  · cases e
def nTup (n : Nat) (Ts : List D → Ev → Option Ev) : FG := fun d δ => match d with
  | .tup ds => if ds.length = n then Ts ds δ else none
  | _ => none
theorem gd_tup {tgs : List Expr} {k n : Nat} {Ts : List D → Ev → Option Ev} (hc : X.calm = true) (h1 : GsD X st tgs Ts) (hn : (assignEach tgs X.env).length = n := by rfl) (hst : (assignEach tgs X.env).findIdx? (·.1) = none := by rfl) : GD X st (.Tuple tgs k pos) (nTup n Ts) := by
  obtain ⟨g1, p1, r1⟩ := h1
  refine ⟨_, pg_tup hc p1 hn hst, fun σ δ H0 B H po d v δ' Q r dv e q => ?_⟩
  unfold nTup at e
  split at e
  · split at e
    · rename_i ds hl
      obtain ⟨a, xs, rfl, _, h2, h3⟩ := dv
      exact ⟨a, xs, rfl, h2.sq, by rw [h3.length]; exact hl, r1 σ δ H0 B H po ds xs δ' Q r h3 e q⟩
    · cases e
  · cases e
/-- target = value -/
def sTgt (F : FE) (T : FG) : FS := fun δ s => rb (F δ s) fun d s1 => match T d δ with
  | some δ' => .ok (.nx δ') s1
  | none => .stuck
theorem s_tgt {tg : Expr} {T : FG} (h1 : ED X st E e F) (h2 : GD X st tg T) (hs : swapsWithSole [tg] e pos.line X.env = pure false := by rfl) (hw : swappedStores [tg] e X.env = pure none := by rfl)
    (h3 : (assignEach [tg] X.env).map (·.2) = [assign tg X.env] := by rfl) : S1 X st E (.Assign [tg] e pos) (sTgt F T) := by
  obtain ⟨t1, p1, r1⟩ := h1
  obtain ⟨g2, p2, r2⟩ := h2
  refine ⟨_, ps_asg p1 p2 hs hw h3, fun Dn σ δ H0 B H s po hs r h => ?_⟩
  refine r1 σ δ _ H s _ (r.at hs) (PostS.ofE r.keeps h fun d s1 v H1 kf k hs1 dv h => ?_)
  split at h
  · rename_i δ' e'
    exact r2 σ δ H0 B H1 po d v δ' _ (r.eval hs kf k) dv e' fun σ' r' g' => h σ' H1 po hs1 r' (((r.bok hs).grow k).trans g')
  · exact False.elim h

/-! ### what is walked -/
/-- J walks the data ds, from H1 on -/
def Walks (c : Cf) (B : Bad) (J : It) (ds : List D) (H1 : Hp) : Prop := ∀ B' H', Grow c B H1 B' H' → ∀ i : Nat, (ds.length ≤ i → J.stop i H') ∧ ∀ d, ds[i]? = some d → J.go i H' ∧ ∀ x H'', J.yld i H' x H'' → H'' = H' ∧ DV c d B' H' x
abbrev relI (c : Cf) (B : Bad) : List D → Hp → It → Prop := fun ds H J => Walks c B J ds H
def ID (X : Cx) (st : Sto) (E : XK) (tg iter : Expr) (F : Ev → S → R (List D)) : Prop :=
  ∃ t, PI X tg iter t ∧ ∀ σ δ B H s Q, At (cf X st) B H s σ δ → Post (cf X st) (relI (cf X st) B) (F δ s) H Q E → t σ H Q
end
end Mi
namespace Mi
open PySem PySem.Spec PyProof.Rows L2
section
variable {X : Cx} {st : Sto} {E : XK} {pos p : Pos} {a b e tg : Expr} {F F' : FE} {es : List Expr} {FAs : FA} {x : Str} {G G' : FS} {t0 : Stmt} {ts : List Stmt} {T : FT}
abbrev FI := Ev → S → R (List D)
def iLst (F : FE) : FI := fun δ s => rb (F δ s) fun d s1 => match d with
  | .lst ds => .ok ds s1
  | _ => .stuck
def iTpl (F : FE) : FI := fun δ s => rb (F δ s) fun d s1 => match d with
  | .tup ds => .ok ds s1
  | _ => .stuck
theorem walks_l {c : Cf} {B : Bad} {H : Hp} {a : Addr} {xs : List V} {ds : List D} (nb : ¬ B a) (h : SqL c.K H a xs) (hd : DVs c ds B H xs) (un : ∀ H' ys, SqL c.K H' a xs → SqL c.K H' a ys → xs.length = ys.length → True := by intros; trivial) : Walks c B (Itl c.K a) ds H := fun B' H' g i => by
  have h' := (sql_grow g nb h).1
  have hd' := DVs.grow g ds xs hd
  refine ⟨fun hi => ⟨xs, h', by rw [hd.length]; exact hi⟩, fun d e => ?_⟩
  obtain ⟨v, e1, dv⟩ := dvs_at hd' e
  refine ⟨⟨xs, v, h', e1⟩, fun x H'' y => ⟨y.1, ?_⟩⟩
  have := y.2 xs h'
  rw [e1] at this
  obtain rfl := Option.some.inj this
  exact dv
theorem walks_t {c : Cf} {B : Bad} {H : Hp} {a : Addr} {xs : List V} {ds : List D} (nb : ¬ B a) (h : TupAt c.K H a xs) (hd : DVs c ds B H xs) : Walks c B (Itt c.K a) ds H := fun B' H' g i => by
  have h' := (sqt_grow g nb h).1
  have hd' := DVs.grow g ds xs hd
  refine ⟨fun hi => ⟨xs, h'.sq, by rw [hd.length]; exact hi⟩, fun d e => ?_⟩
  obtain ⟨v, e1, dv⟩ := dvs_at hd' e
  refine ⟨⟨xs, v, h'.sq, e1⟩, fun x H'' y => ⟨y.1, ?_⟩⟩
  have := y.2 xs h'.sq
  rw [e1] at this
  obtain rfl := Option.some.inj this
  exact dv
theorem id_lst (h1 : ED X st E e F) : ID X st E tg e (iLst F) := by
  obtain ⟨t1, p1, r1⟩ := h1
  refine ⟨_, pi_list p1, fun σ δ B H s Q a h => ?_⟩
  refine r1 σ δ B H s _ a (Post.seq h fun d s1 v H1 kf k hs1 dv h => ?_)
  split at h
  · obtain ⟨q, xs, rfl, nb, h2, h3⟩ := dv
    exact ⟨q, rfl, ⟨xs, h2⟩, h.fin kf hs1 (walks_l nb h2 h3)⟩
  · exact False.elim h
theorem id_tup (h1 : ED X st E e F) : ID X st E tg e (iTpl F) := by
  obtain ⟨t1, p1, r1⟩ := h1
  refine ⟨_, pi_tup p1, fun σ δ B H s Q a h => ?_⟩
  refine r1 σ δ B H s _ a (Post.seq h fun d s1 v H1 kf k hs1 dv h => ?_)
  split at h
  · obtain ⟨q, xs, rfl, nb, h2, h3⟩ := dv
    exact ⟨q, rfl, ⟨xs, h2.sq⟩, h.fin kf hs1 (walks_t nb h2 h3)⟩
  · exact False.elim h
def rgL (lo : Int) (n : Nat) : List D := (List.range n).map fun (i : Nat) => .int (lo + (i : Int))
def rg1 (ds : List D) (s : S) : R (List D) := match ds with
  | [.int j] => if -(2 ^ 62) ≤ j ∧ j < 2 ^ 62 then .ok (rgL 0 j.toNat) s else .stuck
  | _ => .stuck
def rg2 (ds : List D) (s : S) : R (List D) := match ds with
  | [.int i, .int j] => if -(2 ^ 62) ≤ i ∧ i < 2 ^ 62 ∧ -(2 ^ 62) ≤ j ∧ j < 2 ^ 62 then .ok (rgL i (j - i).toNat) s else .stuck
  | _ => .stuck
def iRng1 (F : FA) : FI := fun δ s => rb (F δ s) fun ds s1 => rg1 ds s1
def iRng2 (F : FA) : FI := fun δ s => rb (F δ s) fun ds s1 => rg2 ds s1
theorem walks_r {c : Cf} {B : Bad} {H : Hp} {lo : Int} {n : Nat} : Walks c B (Itr lo n) (rgL lo n) H := fun B' H' g i => by
  refine ⟨fun hi => by simpa [rgL, Itr] using hi, fun d e => ?_⟩
  unfold rgL at e
  rw [List.getElem?_map] at e
  obtain ⟨j, e1, rfl⟩ := Option.map_eq_some_iff.mp e
  have hl : i < n := by
    have := (List.getElem?_eq_some_iff.mp e1).1
    rwa [List.length_range] at this
  rw [List.getElem?_range hl] at e1
  obtain rfl := Option.some.inj e1
  exact ⟨hl, fun x H'' y => ⟨y.1, y.2⟩⟩
theorem id_range1 (h1 : AD X st E [a] FAs) (hm : X.mg "range" = none) (hg : Gl X "range" := by rfl) (hs : starEach [a] X.env = [(false, eval a X.env)] := by rfl) : ID X st E tg (.Call (.Name "range" p) [a] [] pos) (iRng1 FAs) := by
  obtain ⟨t1, p1, r1⟩ := h1
  refine ⟨_, pi_range1 hg hm p1 hs, fun σ δ B H s Q a h => ?_⟩
  refine r1 σ δ B H s _ a (Post.seq h fun ds s1 vs H1 kf k hs1 dv h => ?_)
  unfold rg1 at h
  split at h
  · split at h
    · rename_i hj
      obtain ⟨v, rfl, hv⟩ := dvs1 dv
      exact ⟨_, by rw [show v = .int _ from hv], hj.1, hj.2, h.fin kf hs1 walks_r⟩
    · exact False.elim h
  · exact False.elim h
theorem id_range2 (h1 : AD X st E [a, b] FAs) (hm : X.mg "range" = none) (hg : Gl X "range" := by rfl) (hs : starEach [a, b] X.env = [(false, eval a X.env), (false, eval b X.env)] := by rfl) (hs2 : starEach [b] X.env = [(false, eval b X.env)] := by rfl) : ID X st E tg (.Call (.Name "range" p) [a, b] [] pos) (iRng2 FAs) := by
  obtain ⟨t1, p1, r1⟩ := h1
  refine ⟨_, pi_range2 hg hm p1 hs hs2, fun σ δ B H s Q a h => ?_⟩
  refine r1 σ δ B H s _ a (Post.seq h fun ds s1 vs H1 kf k hs1 dv h => ?_)
  unfold rg2 at h
  split at h
  · split at h
    · rename_i hj
      obtain ⟨v, w, rfl, hv, hw⟩ := dvs2 dv
      exact ⟨_, _, by rw [show v = .int _ from hv, show w = .int _ from hw], hj, h.fin kf hs1 walks_r⟩
    · exact False.elim h
  · exact False.elim h

/-! ### for -/
def ob {α β : Type} (o : Option α) (k : α → R β) : R β := match o with
  | none => .stuck
  | some a => k a
def loopF (N : FG) (G : FS) : List D → Ev → S → R Fl
  | [], δ, s => .ok (.nx δ) s
  | d :: ds, δ, s => ob (N d δ) fun δ1 => rb (G δ1 s) fun fl s1 => match fl with
      | .nx δ' => loopF N G ds δ' s1
      | .ct δ' => loopF N G ds δ' s1
      | .bk δ' => .ok (.nx δ') s1
      | .rt d => .ok (.rt d) s1
def sFor (I : FI) (N : FG) (G : FS) : FS := fun δ s => rb (I δ s) fun ds s1 => loopF N G ds δ s1
theorem s_for {iter : Expr} {body : List Stmt} {I : FI} {N : FG} (hp : PassesOwn (model X.prog X.w) X.A X.env X.xe) (hc : X.calm = true) (h1 : ID X st E tg iter I) (h2 : GD X st tg N) (h3 : SD X st E body G)
    (hs : ∀ x, foldedSetIterable iter X.env x = pure x := by intro _; rfl) : S1 X st E (.For tg iter body [] pos) (sFor I N G) := by
  obtain ⟨t1, p1, r1⟩ := h1
  obtain ⟨g2, p2, r2⟩ := h2
  obtain ⟨t3, p3, r3⟩ := h3
  refine ⟨_, ps_for hp hc p1 p2 p3 hs, fun Dn σ δ H0 B H s po hs r h => ?_⟩
  refine r1 σ δ _ H s _ (r.at hs) (PostS.ofE r.keeps h fun ds s1 J H1 kf k hs1 wk h => ?_)
  have g0 := (r.bok hs).grow k
  have hg := PostS.mono g0 h
  refine ⟨fun i m σ' H' => m = ds.length - i ∧ i ≤ ds.length ∧ ∃ δ' s' po', HS (cf X st) H' s' ∧ SR (cf X st) H0 B H' σ' δ' po' ∧ Grow (cf X st) (Bo B δ po) H1 (Bo B δ' po') H' ∧ PostS (cf X st) H0 B (Bo B δ' po') H' (loopF N G (ds.drop i) δ' s') Dn E,
    ⟨ds.length, by simp, Nat.zero_le _, δ, s1, po, hs1, r.eval hs kf k, Grow.refl (bo_st r), hg⟩, ?_⟩
  rintro i m σ' H' ⟨rfl, hi, δ', s', po', hs', r', g', h'⟩
  obtain ⟨w1, w2⟩ := wk _ H' g' i
  by_cases hlt : i < ds.length
  · obtain ⟨go, yl⟩ := w2 ds[i] (List.getElem?_eq_getElem hlt)
    rw [List.drop_eq_getElem_cons hlt] at h'
    refine .inr ⟨go, fun σ2 H2 => ∃ δ2 s2 po2, HS (cf X st) H2 s2 ∧ SR (cf X st) H0 B H2 σ2 δ2 po2 ∧ Grow (cf X st) (Bo B δ po) H1 (Bo B δ2 po2) H2 ∧ PostS (cf X st) H0 B (Bo B δ2 po2) H2 (loopF N G (ds.drop (i + 1)) δ2 s2) Dn E, fun σ2 H2 q => ⟨ds.length - (i + 1), by omega, rfl, hlt, q⟩, fun x H'' y => ?_⟩
    obtain ⟨rfl, dv⟩ := yl x H'' y
    unfold loopF at h'
    cases e : N ds[i] δ' with
    | none =>
      rw [e] at h'
      exact False.elim h'
    | some δ1 =>
      rw [e] at h'
      simp only [ob] at h'
      refine r2 σ' δ' H0 B H'' po' ds[i] x δ1 _ r' dv e fun σ1 r1' g1 => ?_
      have h1 := PostS.mono g1 h'
      refine r3 _ σ1 δ1 H0 B H'' s' po' hs' r1' ?_
      cases eG : G δ1 s' with
      | ok f s2 =>
        rw [eG] at h1
        cases f with
        | nx δ2 => exact fun σ2 H2 po2 hs2 r2 g2 => ⟨δ2, s2, po2, hs2, r2, (g'.trans g1).trans g2, PostS.mono g2 h1⟩
        | ct δ2 => exact fun σ2 H2 po2 hs2 r2 g2 => ⟨δ2, s2, po2, hs2, r2, (g'.trans g1).trans g2, PostS.mono g2 h1⟩
        | bk δ2 => exact h1
        | rt d => exact h1
      | err x p s2 =>
        rw [eG] at h1
        exact h1
      | stuck =>
        rw [eG] at h1
        exact h1
  · have e : i = ds.length := by omega
    subst e
    rw [List.drop_length] at h'
    exact .inl ⟨w1 (Nat.le_refl _), h' σ' H' po' hs' r' (Grow.refl (bo_st r'))⟩

/-! ### while -/
def whileF (T : FT) (G : FS) : Nat → Ev → S → R Fl
  | 0, _, _ => .stuck
  | n + 1, δ, s => rb (T δ s) fun b s1 => if b then rb (G δ s1) fun fl s2 => match fl with
      | .nx δ' => whileF T G n δ' s2
      | .ct δ' => whileF T G n δ' s2
      | .bk δ' => .ok (.nx δ') s2
      | .rt d => .ok (.rt d) s2
    else .ok (.nx δ) s1
def sWhile (n : Nat) (T : FT) (G : FS) : FS := fun δ s => whileF T G n δ s
theorem s_while {body : List Stmt} (n : Nat) (hp : PassesOwn (model X.prog X.w) X.A X.env X.xe) (h1 : TD X st E e T) (h3 : SD X st E body G) : S1 X st E (.While e body [] pos) (sWhile n T G) := by
  obtain ⟨t1, p1, r1⟩ := h1
  obtain ⟨t3, p3, r3⟩ := h3
  refine ⟨_, ps_while hp p1 p3, fun Dn σ δ H0 B H s po hs r h => ?_⟩
  refine ⟨fun m σ' H' => ∃ δ' s' po', HS (cf X st) H' s' ∧ SR (cf X st) H0 B H' σ' δ' po' ∧ PostS (cf X st) H0 B (Bo B δ' po') H' (whileF T G m δ' s') Dn E, ⟨n, δ, s, po, hs, r, h⟩, ?_⟩
  rintro m σ' H' ⟨δ', s', po', hs', r', h'⟩
  cases m with
  | zero => exact False.elim h'
  | succ m =>
    unfold whileF at h'
    refine r1 σ' δ' _ H' s' _ (r'.at hs') (PostS.ofE r'.keeps h' fun b s1 v H1 kf k hs1 dv h => ?_)
    have hg := PostS.mono ((r'.bok hs').grow k) h
    have r1' := r'.eval hs' kf k
    subst dv
    cases v with
    | false => exact hg σ' H1 po' hs1 r1' (Grow.refl (bo_st r1'))
    | true =>
      refine ⟨fun σ2 H2 => ∃ δ2 s2 po2, HS (cf X st) H2 s2 ∧ SR (cf X st) H0 B H2 σ2 δ2 po2 ∧ PostS (cf X st) H0 B (Bo B δ2 po2) H2 (whileF T G m δ2 s2) Dn E, fun σ2 H2 q => ⟨m, by omega, q⟩, ?_⟩
      refine r3 _ σ' δ' H0 B H1 s1 po' hs1 r1' ?_
      have hg : PostS (cf X st) H0 B (Bo B δ' po') H1 (rb (G δ' s1) fun fl s2 => match fl with
        | .nx δ' => whileF T G m δ' s2
        | .ct δ' => whileF T G m δ' s2
        | .bk δ' => .ok (.nx δ') s2
        | .rt d => .ok (.rt d) s2) Dn E := hg
      cases eG : G δ' s1 with
      | ok f s2 =>
        rw [eG] at hg
        cases f with
        | nx δ2 => exact fun σ2 H2 po2 hs2 r2 g2 => ⟨δ2, s2, po2, hs2, r2, PostS.mono g2 hg⟩
        | ct δ2 => exact fun σ2 H2 po2 hs2 r2 g2 => ⟨δ2, s2, po2, hs2, r2, PostS.mono g2 hg⟩
        | bk δ2 => exact hg
        | rt d => exact hg
      | err x p s2 =>
        rw [eG] at hg
        exact hg
      | stuck =>
        rw [eG] at hg
        exact hg

/-! ### comprehensions -/
/-- the reading that F itself is -/
def tCan (c : Cf) (E : XK) (F : FE) : TE := fun σ H Q => KF c H → ∃ δ B s, At c B H s σ δ ∧ Post c (relD c B) (F δ s) H Q E
theorem ED.can (h1 : ED X st E e F) : PE X e (tCan (cf X st) E F) := by
  obtain ⟨t1, p1, r1⟩ := h1
  refine ⟨fun pins s σ H Q I h => ?_⟩
  obtain ⟨δ, B, s', a, h⟩ := h (inv_kf I)
  exact p1.run pins s σ H Q I (r1 σ δ B H s' Q a h)
def tCanT (c : Cf) (E : XK) (F : FT) : TT := fun σ H Q => KF c H → ∃ δ B s, At c B H s σ δ ∧ Post c relB (F δ s) H Q E
theorem TD.can (h1 : TD X st E e T) : PT X e (tCanT (cf X st) E T) := by
  obtain ⟨t1, p1, r1⟩ := h1
  refine ⟨fun pins s σ H Q I h => ?_⟩
  obtain ⟨δ, B, s', a, h⟩ := h (inv_kf I)
  exact p1.run pins s σ H Q I (r1 σ δ B H s' Q a h)
/-- the tests of a comprehension: none, one -/
def TDs (X : Cx) (st : Sto) (E : XK) (ifs : List Expr) (F : FT) : Prop := PTs X ifs (tCanT (cf X st) E F)
def tAll : FT := fun _ s => .ok true s
theorem tds_nil : TDs X st E [] tAll := ⟨fun pins s σ H Q I h => by
  obtain ⟨δ, B, s', a, h⟩ := h (inv_kf I)
  exact pts_nil.run pins s σ H Q I (h.fin a.b.kf a.s rfl)⟩
theorem tds_one (h1 : TD X st E e T) : TDs X st E [e] T := pts_one h1.can
def lcF (i : Nat) (T : FT) (F : FE) : List D → List D → Ev → S → R D
  | [], acc, _, s => .ok (.lst acc) s
  | d :: ds, acc, δ, s => match T (δ.set i (.d d)) s with
    | .ok true s1 => (match F (δ.set i (.d d)) s1 with
      | .ok y s2 => if acc.length < 100000 then lcF i T F ds (acc ++ [y]) δ s2 else .stuck
      | _ => .stuck)
    | .ok false s1 => lcF i T F ds acc δ s1
    | _ => .stuck
def eLc (i : Nat) (I : FI) (T : FT) (F : FE) : FE := fun δ s => rb (I δ s) fun ds s1 => lcF i T F ds [] (δ.set i .u) s1
theorem wipe1 (σ : L2.St) (i : Nat) : wipe σ [i] = σ.set i none := rfl
theorem Sl.grow {c : Cf} {B B' : Bad} {H H' : Hp} {σ : L2.St} {δ : Ev} (h : Sl c B H σ δ) (g : Grow c B H B' H') : Sl c B' H' σ δ := fun i x e => by
  obtain ⟨v, h1, h2⟩ := h i x e
  exact ⟨v, h1, DV.grow g x v h2⟩
theorem lc_both (i : Nat) {elt iter : Expr} {ifs : List Expr} {scope : Scope} {I : FI} {N : List Str} (hc : X.calm = true) (hN : X.N.Nodup) (h1 : ID X st E (.Name x p) iter I) (ok : BlkOk X.N X.env.scope scope [(x, i)])
    (hg : ∀ (s : Shared) (H : Hp) (C : Addr) (cl : List (Str × Addr)) (fp : List Addr), PG (X.blk s H scope (compEnvC scope cl C X.env) fp) (.Name x p) (gName i))
    (ht : ∀ (s : Shared) (H : Hp) (C : Addr) (cl : List (Str × Addr)) (fp : List Addr), TDs (X.blk s H scope (compEnvC scope cl C X.env) fp) st E0 ifs T)
    (he : ∀ (s : Shared) (H : Hp) (C : Addr) (cl : List (Str × Addr)) (fp : List Addr), ED (X.blk s H scope (compEnvC scope cl C X.env) fp) st E0 elt F) (hs : ∀ x, foldedSetIterable iter X.env x = pure x := by intro _; rfl) :
    ∃ t : TE, PE X (.ListComp elt [⟨.Name x p, iter, ifs, 0⟩] scope pos) (tP X.K t) ∧
      (∀ (y : Str) (py : Pos) (j : Nat) (spos : Pos), X.N[j]? = some y → X.env.scope.names.lookup y = some .local → swapsWith (.ListComp elt [⟨.Name x p, iter, ifs, 0⟩] scope pos) (some (.Name y py)) spos.line X.env = pure true → PS X (.Assign [.Name y py] (.ListComp elt [⟨.Name x p, iter, ifs, 0⟩] scope pos) spos) (tAsg t (gName j))) ∧
      ∀ σ δ B H s Q, At (cf X st) B H s σ δ → Post (cf X st) (relD (cf X st) B) (eLc i I T F δ s) H Q E → tP X.K t σ H Q := by
  obtain ⟨t1, p1, r1⟩ := h1
  refine ⟨_, pe_plus (pe_lc (own := [(x, i)]) (g := gName i) (tt := tCanT (cf X st) E0 T) (te := tCan (cf X st) E0 F) hc hN p1 ok hg (fun s H C cl fp => ht s H C cl fp) (fun s H C cl fp => (he s H C cl fp).can) hs),
    fun y py j spos hy hl hsw => ps_setLc (own := [(x, i)]) (g := gName i) (tt := tCanT (cf X st) E0 T) (te := tCan (cf X st) E0 F) hc hN hy hl hsw p1 ok hg (fun s H C cl fp => ht s H C cl fp) (fun s H C cl fp => (he s H C cl fp).can) hs, fun σ δ B H s Q a h => ?_⟩
  refine r1 σ δ B H s _ a (Post.seq h fun ds s1 J H1 kf k hs1 wk h => ?_)
  have a1 := a.keep kf k hs1
  intro Dq nD
  have nst : ¬ (cf X st).Mut Dq := fun z => hs1.mut z nD
  have nca : ∀ b, (cf X st).st = some b → (cf X st).ca ≠ Dq := fun b z q => by
    have := (hs1.store b z).2.1
    rw [q, nD] at this
    cases this
  have nB : ¬ B Dq := a1.b.fresh nD
  refine ⟨fun j m H' => m = ds.length - j ∧ j ≤ ds.length ∧ ∃ s' acc vs, HS (cf X st) H' s' ∧ Keeps (cf X st) H1 H' ∧ H' Dq = some (.lst vs) ∧ DVs (cf X st) acc (fun b => B b ∨ b = Dq) H' vs ∧ Post (cf X st) (relD (cf X st) B) (lcF i T F (ds.drop j) acc (δ.set i .u) s') H1 (fun v H'' => (∀ (a : Addr), H'' a ≠ none → X.K.lookup a = none) → Q v H'') E,
    ⟨ds.length, by simp, Nat.zero_le _, s1, [], [], hs1.new nD, Keeps.new nD, upd_same, rfl, ?_⟩, ?_⟩
  · cases e : lcF i T F (List.drop 0 ds) [] (List.set δ i SV.u) s1 with
    | ok d s2 =>
      rw [List.drop_zero] at e
      rw [e] at h
      exact fun v H2 kf2 k2 hs2 r2 _ => h v H2 kf2 k2 hs2 r2
    | err y q s2 =>
      rw [List.drop_zero] at e
      rw [e] at h
      exact h
    | stuck =>
      rw [List.drop_zero] at e
      rw [e] at h
      exact h
  rintro j m H' ⟨rfl, hj, s', acc, vs, hs', k', hD, dacc, h'⟩
  have gB : Grow (cf X st) B H1 B H' := a1.b.grow k'
  obtain ⟨w1, w2⟩ := wk B H' gB j
  by_cases hlt : j < ds.length
  · obtain ⟨go, yl⟩ := w2 ds[j] (List.getElem?_eq_getElem hlt)
    rw [List.drop_eq_getElem_cons hlt] at h'
    refine .inr ⟨go, fun H2 => ∃ s2 acc2 vs2, HS (cf X st) H2 s2 ∧ Keeps (cf X st) H1 H2 ∧ H2 Dq = some (.lst vs2) ∧ DVs (cf X st) acc2 (fun b => B b ∨ b = Dq) H2 vs2 ∧ Post (cf X st) (relD (cf X st) B) (lcF i T F (ds.drop (j + 1)) acc2 (δ.set i .u) s2) H1 (fun v H'' => (∀ (a : Addr), H'' a ≠ none → X.K.lookup a = none) → Q v H'') E,
      fun H2 q => ⟨ds.length - (j + 1), by omega, rfl, hlt, q⟩, fun x' H'' y => ?_⟩
    obtain ⟨rfl, _⟩ := yl x' H'' y
    refine ⟨(by
      show ((σ.set i none).set i (some x')).set i none = σ.set i none
      rw [List.set_set, List.set_set]), fun kf2 => ?_⟩
    -- under what is known of the written part
    have kD : (cf X st).K.lookup Dq = none := kf2 Dq (by rw [hD]; simp)
    have gD : Grow (cf X st) B H1 (fun b => B b ∨ b = Dq) H'' := ⟨gB.keep, a1.b.st, fun b z => by
      rcases z with z | rfl
      · exact .inl z
      · exact .inr ⟨nD, kD⟩⟩
    have dvx : DV (cf X st) ds[j] (fun b => B b ∨ b = Dq) H'' x' := ((((wk _ H'' gD j).2 ds[j] (List.getElem?_eq_getElem hlt)).2 x' H'' y)).2
    have bD : ∀ {H2 : Hp} {s2 : S}, KF (cf X st) H2 → Keeps (cf X st) H1 H2 → HS (cf X st) H2 s2 → (∃ xs, H2 Dq = some (.lst xs)) → BOk (cf X st) H2 (fun b => B b ∨ b = Dq) := fun {H2 s2} q1 q2 q3 q4 => by
      have b1 := a1.b.keep q1 q2 q3
      exact ⟨fun b z => z.elim (b1.kind b) fun z => by rw [z]; exact .inl q4, fun b z => .inl (b1.st b z), fun b z => .inl (b1.ca b z), q1⟩
    have sl : Sl (cf X st) (fun b => B b ∨ b = Dq) H'' ((σ.set i none).set i (some x')) ((δ.set i .u).set i (.d ds[j])) := fun q d e => by
      rcases set_get e with ⟨rfl, z⟩ | ⟨hne, z⟩
      · cases z
        have hl : q < σ.length := by
          have h1 := (List.getElem?_eq_some_iff.mp e).1
          rw [List.length_set, List.length_set, ← a1.len] at h1
          exact h1
        exact ⟨x', by rw [List.getElem?_set_self (by rw [List.length_set]; exact hl)], dvx⟩
      · rcases set_get z with ⟨_, z⟩ | ⟨_, z⟩
        · cases z
        · obtain ⟨v, h1, h2⟩ := a1.sl q d z
          exact ⟨v, by rw [List.getElem?_set_ne (Ne.symm hne), List.getElem?_set_ne (Ne.symm hne)]; exact h1, DV.grow gD d v h2⟩
    have a2 : At (cf X st) (fun b => B b ∨ b = Dq) H'' s' ((σ.set i none).set i (some x')) ((δ.set i .u).set i (.d ds[j])) := ⟨bD kf2 k' hs' ⟨_, hD⟩, hs', sl, by rw [List.length_set, List.length_set, List.length_set, List.length_set, a1.len]⟩
    unfold lcF at h'
    refine ⟨_, _, s', a2, ?_⟩
    cases eT : T ((δ.set i .u).set i (.d ds[j])) s' with
    | stuck =>
      rw [eT] at h'
      exact False.elim h'
    | err y q s2 =>
      rw [eT] at h'
      exact False.elim h'
    | ok bb s2 =>
      rw [eT] at h'
      intro b2 H3 kf3 k3 hs3 e3
      obtain rfl : b2 = bb := e3
      have hD3 : H3 Dq = some (.lst vs) := k3 _ _ hD nst
      have dacc3 := DVs.grow (a2.b.grow k3) acc vs dacc
      cases b2 with
      | false => exact ⟨s2, acc, vs, hs3, k'.trans k3, hD3, dacc3, h'⟩
      | true =>
        have a3 := a2.keep kf3 k3 hs3
        intro _
        refine ⟨_, _, s2, a3, ?_⟩
        cases eF : F ((δ.set i .u).set i (.d ds[j])) s2 with
        | stuck =>
          simp only [eF] at h'
          exact False.elim h'
        | err y q s4 =>
          simp only [eF] at h'
          exact False.elim h'
        | ok y s4 =>
          simp only [eF] at h'
          intro v H4 kf4 k4 hs4 dv4
          split at h'
          · rename_i hacc
            have hD4 : H4 Dq = some (.lst vs) := k4 _ _ hD3 nst
            have dacc4 := DVs.grow (a3.b.grow k4) acc vs dacc3
            have gU : Grow (cf X st) (fun b => B b ∨ b = Dq) H4 (fun b => B b ∨ b = Dq) (upd H4 Dq (.lst (vs ++ [v]))) := ⟨fun b o z n => (by rw [upd_ne (fun q => n (.inr q))]; exact z), fun b z => .inl (a1.b.st b z), fun _ z => .inl z⟩
            have kk : Keeps (cf X st) H1 (upd H4 Dq (.lst (vs ++ [v]))) := fun b o z n => by
              rw [upd_ne (ne_of_none z nD)]
              exact ((k'.trans k3).trans k4) b o z n
            refine ⟨vs, hD4, size5' (by rw [dacc4.length]; exact hacc), s4, acc ++ [y], vs ++ [v], hs4.other hD4 nst nca, kk, upd_same, DVs.grow gU _ _ (dacc4.append ⟨v, [], rfl, dv4, rfl⟩), h'⟩
          · exact False.elim h'
  · have e : j = ds.length := by omega
    subst e
    rw [List.drop_length] at h'
    refine .inl ⟨w1 (Nat.le_refl _), fun kf' => ?_⟩
    refine h' (.ref Dq) H' kf' k' hs' ⟨Dq, vs, rfl, nB, .inl (.inl hD), DVs.grow ⟨fun _ _ z _ => z, fun b z => .inl (a1.b.st b z), fun b z => .inl (.inl z)⟩ acc vs dacc⟩ kf'
theorem ed_lc (i : Nat) {elt iter : Expr} {ifs : List Expr} {scope : Scope} {I : FI} {N : List Str} (hc : X.calm = true) (hN : X.N.Nodup) (h1 : ID X st E (.Name x p) iter I) (ok : BlkOk X.N X.env.scope scope [(x, i)])
    (hg : ∀ (s : Shared) (H : Hp) (C : Addr) (cl : List (Str × Addr)) (fp : List Addr), PG (X.blk s H scope (compEnvC scope cl C X.env) fp) (.Name x p) (gName i))
    (ht : ∀ (s : Shared) (H : Hp) (C : Addr) (cl : List (Str × Addr)) (fp : List Addr), TDs (X.blk s H scope (compEnvC scope cl C X.env) fp) st E0 ifs T)
    (he : ∀ (s : Shared) (H : Hp) (C : Addr) (cl : List (Str × Addr)) (fp : List Addr), ED (X.blk s H scope (compEnvC scope cl C X.env) fp) st E0 elt F) (hs : ∀ x, foldedSetIterable iter X.env x = pure x := by intro _; rfl) :
    ED X st E (.ListComp elt [⟨.Name x p, iter, ifs, 0⟩] scope pos) (eLc i I T F) := by
  obtain ⟨t, a, _, c⟩ := lc_both (N := N) i hc hN h1 ok hg ht he hs
  exact ⟨_, a, c⟩
end
end Mi
namespace Mi
open PySem PySem.Spec PyProof.Rows L2
def ev0 (m : Nat) (ds : List D) : Ev := ds.map SV.d ++ List.replicate (m - ds.length) SV.u
def fnM (m : Nat) (G : FS) : List D → S → R D := fun ds s => rb (G (ev0 m ds) s) fun fl s1 => match fl with
  | .nx _ => .ok .non s1
  | .rt d => .ok d s1
  | _ => .stuck
abbrev cx (P : Program) (w : World) (K : PySem.W.Frag) (mg : Str → Option Value) (base : Heap) (N : List Str) (qual : Str) (stm : Stmt) (f : Addr) (cdv : Value) (A : Around) (outer : List Env) (s : Shared) (H : Hp) (E : XK) : Cx :=
  cxOf (L2N.CX P w) P w K mg base N qual (defScope stm) f cdv A outer s H E
theorem ev0_d {m : Nat} {ds : List D} {i : Nat} {x : D} (e : (ev0 m ds)[i]? = some (SV.d x)) : ds[i]? = some x := by
  unfold ev0 at e
  by_cases h : i < ds.length
  · rw [List.getElem?_append_left (by simpa using h), List.getElem?_map] at e
    obtain ⟨y, e1, e2⟩ := Option.map_eq_some_iff.mp e
    cases e2
    exact e1
  · rw [List.getElem?_append_right (by simpa using h), List.getElem?_replicate] at e
    split at e
    · cases e
    · cases e
theorem ev0_o {m : Nat} {ds : List D} {i : Nat} {x : List D} (e : (ev0 m ds)[i]? = some (SV.o x)) : False := by
  unfold ev0 at e
  by_cases h : i < ds.length
  · rw [List.getElem?_append_left (by simpa using h), List.getElem?_map] at e
    obtain ⟨y, e1, e2⟩ := Option.map_eq_some_iff.mp e
    cases e2
  · rw [List.getElem?_append_right (by simpa using h), List.getElem?_replicate] at e
    split at e <;> cases e
theorem def_fnC {P : Program} {w : World} {K : PySem.W.Frag} {mg : Str → Option Value} {base : Heap} {Tb : List (Addr × Str)} {x qual : Str} {stm : Stmt} {f : Addr} {fd : FuncData} {N ps : List Str} {k : Nat} {G : FS} (F : Fun K x qual stm f fd) (sc : FnScope N ps (defScope stm))
    (hb : ∀ (st : Sto), st.T = Tb → ∀ (cdv : Value) (A : Around) (outer : List Env) (s : Shared) (H : Hp) (E : XK), fd.code = cdv → Room k (A.deeper (envOfC qual (defScope stm) s.heap.objs.size f cdv)) → SD (cx P w K mg base N qual stm f cdv A outer s H E) st E (defBody stm) G) :
    FnOk P w K mg base (L2N.CX P w) (k + 1) f fd ps (spM P w K mg base Tb ps.length (fnM N.length G)) := by
  obtain ⟨oc, od, kV, doc, pm, an, cdv, ct, osl, rfl, lk, hcd⟩ := F.ex
  refine fn_of lk hcd sc (fun vs H Q E h => ?_) (fun A outer s H vs Q E hr h => ?_)
  · obtain ⟨st, s, ds, B, _, hl, b, hs, dv, _⟩ := h
    rw [dv.length, hl]
  · obtain ⟨st, S0, ds, B, hT, hl, b, hs, dv, h⟩ := h
    obtain ⟨t, p, r⟩ := hb st hT cdv A outer s H E rfl hr
    refine ⟨t, p, ?_⟩
    have hN : ps.length ≤ N.length := by
      have h := sc.pre
      rw [← h, List.length_take]
      exact Nat.min_le_right _ _
    have hvl := dv.length
    refine r _ (L2.start N vs) (ev0 N.length ds) H B H S0 (fun _ => 0) hs ⟨?_, Keeps.refl _ H, b, b.kf, fun i x e => (ev0_o e).elim, fun i j x y e => (ev0_o e).elim, fun i x e => ?_⟩ ?_
    · unfold L2.start ev0
      simp only [List.length_append, List.length_map, List.length_replicate]
      omega
    · obtain ⟨v, e1, e2⟩ := dvs_at dv (ev0_d e)
      refine ⟨v, ?_, ?_⟩
      · unfold L2.start
        have hi := (List.getElem?_eq_some_iff.mp e1).1
        rw [List.getElem?_append_left (by simpa using hi), List.getElem?_map, e1]
        rfl
      · refine DV.grow ⟨fun _ _ z _ => z, b.st, fun a z => ?_⟩ x v e2
        rcases z with z | ⟨j, d, e, _⟩
        · exact .inl z
        · exact (ev0_o e).elim
    · have h : Post (cf (cx P w K mg base N qual stm f cdv A outer s H E) st) (relD _ B) (rb (G (ev0 N.length ds) S0) fun fl s1 => match fl with
          | .nx _ => .ok .non s1
          | .rt d => .ok d s1
          | _ => .stuck) H Q E := h
      cases e : G (ev0 N.length ds) S0 with
      | ok fl s1 =>
        rw [e] at h
        cases fl with
        | nx δ => exact fun σ' H' po hs' r' g' => h .non H' r'.kf r'.keeps hs' rfl
        | rt d => exact h
        | bk δ => exact False.elim h
        | ct δ => exact False.elim h
      | err y q s1 =>
        rw [e] at h
        exact h
      | stuck =>
        rw [e] at h
        exact h
theorem def_fn {P : Program} {w : World} {K : PySem.W.Frag} {mg : Str → Option Value} {base : Heap} {Tb : List (Addr × Str)} {x qual : Str} {stm : Stmt} {f : Addr} {fd : FuncData} {N ps : List Str} {k : Nat} {G : FS} (F : Fun K x qual stm f fd) (sc : FnScope N ps (defScope stm))
    (hb : ∀ (st : Sto), st.T = Tb → ∀ (cdv : Value) (A : Around) (outer : List Env) (s : Shared) (H : Hp) (E : XK), Room k (A.deeper (envOfC qual (defScope stm) s.heap.objs.size f cdv)) → SD (cx P w K mg base N qual stm f cdv A outer s H E) st E (defBody stm) G) :
    FnOk P w K mg base (L2N.CX P w) (k + 1) f fd ps (spM P w K mg base Tb ps.length (fnM N.length G)) :=
  def_fnC F sc fun st hT cdv A outer s H E _ hr => hb st hT cdv A outer s H E hr
theorem def_mk {P : Program} {w : World} {K : PySem.W.Frag} {mg : Str → Option Value} {base : Heap} {Tb : List (Addr × Str)} {x : Str} {stm : Stmt} {f : Addr} {fd : FuncData} {ps : List Str} {k n : Nat} {dfl : List D} {us : List Value} {dvs : List V} {Fm : List D → S → R D} (F : Fun K x x stm f fd) (hm : mg x = some (.ref f))
    (FO : FnOk P w K mg base (L2N.CX P w) k f fd ps (spM P w K mg base Tb n Fm)) (hb : Binds K fd ps us) (hd : Vals dvs us) (hf : flats dfl = some dvs) : DefOk P w K mg base Tb x k n dfl Fm := ⟨⟨f, fd, ps, us, dvs, FO, hm, F.kp, hb, hd, hf⟩⟩
theorem DefOk.mono {P : Program} {w : World} {K : PySem.W.Frag} {mg : Str → Option Value} {base : Heap} {Tb : List (Addr × Str)} {x : Str} {j k n : Nat} {dfl : List D} {Fm : List D → S → R D} (h : DefOk P w K mg base Tb x j n dfl Fm) (hjk : j ≤ k) : DefOk P w K mg base Tb x k n dfl Fm := by
  obtain ⟨f, fd, ps, us, dvs, FO, r⟩ := h.ex
  exact ⟨⟨f, fd, ps, us, dvs, FO.mono hjk, r⟩⟩
/-- around a def's body errors pass -/
theorem cx_passes {P : Program} {w : World} {K : PySem.W.Frag} {mg : Str → Option Value} {base : Heap} {N : List Str} {qual : Str} {stm : Stmt} {f : Addr} {cdv : Value} {A : Around} {outer : List Env} {s : Shared} {H : Hp} {E : XK} :
    Passes (L2N.CX P w) (cx P w K mg base N qual stm f cdv A outer s H E) E := L2N.passes_call (X := cx P w K mg base N qual stm f cdv A outer s H E) (W := fun cls d _ H => E cls d H) (L2N.takes_of rfl rfl rfl rfl) fun _ _ _ _ h => h
end Mi
namespace Mi
open PySem PySem.Spec PyProof.Rows L2
theorem hu64 {k : Nat} {A : Around} (hr : Room k A) : A.units + 64 < cLine := by have := hr.un; omega
/-- what a module's constant holds -/
structure GlobK (K : PySem.W.Frag) (mg : Str → Option Value) (x : Str) (d : D) : Prop where
  ex : ∃ v u, mg x = some u ∧ RelV v u ∧ ∀ (c : Cf) B H, c.K = K → BOk c H B → DV c d B H v
theorem ed_globK {X : Cx} {st : Sto} {E : XK} {pos : Pos} {x : Str} {d : D} (g : GlobK X.K X.mg x d) (hg : Gl X x) (hd : (x == ("__debug__" : Str)) = false := by decide) : ED X st E (.Name x pos) (eC d) := by
  obtain ⟨v, u, hm, r, h⟩ := g.ex
  exact ed_glob hg hm r (fun B H b => h _ B H rfl b) hd
abbrev fuel : Nat := 1000000
end Mi
namespace Mi
open PySem PySem.Spec PyProof.Rows L2 LamX
/-! ### the cells of a def's own, known or not -/
open Classical in
/-- the objects of P, as they stand in h, told too -/
noncomputable def withP (P : Addr → Prop) (h : Heap) (H : Hp) : Hp := fun b => if P b then some (objH b ((h.get? b).getD default)) else H b
open Classical in
/-- .. told no more -/
noncomputable def lessP (P : Addr → Prop) (H : Hp) : Hp := fun b => if P b then none else H b
section
variable {P : Addr → Prop} {h : Heap} {H : Hp} {a : Addr}
theorem withP_in (p : P a) : withP P h H a = some (objH a ((h.get? a).getD default)) := if_pos p
theorem withP_out (p : ¬ P a) : withP P h H a = H a := if_neg p
theorem lessP_in (p : P a) : lessP P H a = none := if_pos p
theorem lessP_out (p : ¬ P a) : lessP P H a = H a := if_neg p
end
/-! data without calls in it -/
mutual
def noT : D → Bool
  | .tup l => noTs l
  | .lst l => noTs l
  | .thk _ _ => false
  | .exc _ => false
  | _ => true
def noTs : List D → Bool
  | [] => true
  | d :: ds => noT d && noTs ds
end
/-! data, where some objects that are no data are told no more -/
theorem less_rd {c : Cf} {P : Addr → Prop} {H : Hp} {a : Addr} {u : HO} (hP : ∀ b, P b → H b = none ∨ ∃ φ, H b = some (.ext φ)) (hu : ∀ φ, u ≠ .ext φ) (h : Rd H a u) : Rd (lessP P H) a u := by
  have out : ∀ o, H a = some o → (∀ φ, o ≠ .ext φ) → ¬ P a := fun o e n p => by
    rcases hP a p with z | ⟨φ, z⟩
    · rw [e] at z
      cases z
    · rw [e] at z
      exact n φ (Option.some.inj z)
  rcases h with h | ⟨o, h⟩
  · exact .inl (by rw [lessP_out (out u h hu)]; exact h)
  · exact .inr ⟨o, by rw [lessP_out (out _ h fun φ z => by cases z)]; exact h⟩
mutual
theorem DV.less {c : Cf} {B : Bad} {P : Addr → Prop} {H : Hp} (hP : ∀ b, P b → H b = none ∨ ∃ φ, H b = some (.ext φ)) : ∀ (d : D) (v : V), noT d = true → DV c d B H v → DV c d B (lessP P H) v
  | .non, _, _, h => h
  | .bl _, _, _, h => h
  | .int _, _, _, h => h
  | .str _, _, _, h => h
  | .ty _, _, _, h => h
  | .sto, _, _, h => h
  | .exc _, _, n, _ => by cases n
  | .cls _, _, _, h => h
  | .tup l, _, n, ⟨a, xs, e, hb, hs, ht⟩ => ⟨a, xs, e, hb, hs.elim (fun z => .inl (by
      have := less_rd (c := c) hP (fun φ q => by cases q) (Rd.of z)
      have np : ¬ P a := fun p => by
        rcases hP a p with q | ⟨φ, q⟩ <;> rw [z] at q <;> cases q
      rw [lessP_out np]
      exact z)) .inr, DVs.less hP l xs n ht⟩
  | .lst l, _, n, ⟨a, xs, e, hb, hs, ht⟩ => ⟨a, xs, e, hb, hs.elim (fun z => .inl (less_rd (c := c) hP (fun φ q => by cases q) z)) .inr, DVs.less hP l xs n ht⟩
  | .thk _ _, _, n, _ => by cases n
theorem DVs.less {c : Cf} {B : Bad} {P : Addr → Prop} {H : Hp} (hP : ∀ b, P b → H b = none ∨ ∃ φ, H b = some (.ext φ)) : ∀ (l : List D) (vs : List V), noTs l = true → DVs c l B H vs → DVs c l B (lessP P H) vs
  | [], _, _, h => h
  | d :: ds, _, n, ⟨v, r, e, h1, h2⟩ => by
    have n2 : (noT d && noTs ds) = true := n
    rw [Bool.and_eq_true] at n2
    exact ⟨v, r, e, DV.less hP d v n2.1 h1, DVs.less hP ds r n2.2 h2⟩
end
section
variable {X : Cx} {pins : List (Addr × Obj)} {σ : L2.St} {H HZ : Hp} {s s1 : Shared}
/-- a lambda is made: its object is told, it is new -/
theorem lam_new {T : List (Addr × Str)} {c P : Addr} {params : Arguments} {body : Expr} {scope : Scope} {pos : Pos} {E : Value → Shared → Prop} {Q : Value → Shared → Prop} (I : Inv X pins σ H s) (TB : TabB X.base X.mg c P) (hcode : X.env.code = .ref c)
    (hm : (P, X.env.qual ++ "<lambda>") ∈ T) (hu : ∀ p ∈ T, p.1 = P → p.2 = X.env.qual ++ "<lambda>") (hT : Tabs T H) (hdef : defaultsOf params X.env = ([], [])) (hfree : ∀ y ∈ scope.names, y.2 = .free → ∃ c, X.env.cells.lookup y.1 = some c)
    (h : ∀ (f c' : Addr) (pm ctv : Value) (H1 : Hp) (s' : Shared), Inv X pins σ (upd H1 f (objH f (PySem.W.kla_obj "<lambda>" (X.env.qual ++ "<lambda>") params body scope (cloFrom X.env.cells scope.names []) pm c' ctv))) s' → (∀ b o, H b = some o → b ≠ P → H1 b = some o) → Tabs T H1 → H1 f = none →
      H1 c' = some (CodeO c' (X.env.qual ++ "<lambda>")) → Q (.ref f) s') :
    wpAny (model X.prog X.w) X.A (eval (.Lambda params body scope pos) X.env) Q E s := by
  obtain ⟨ps, hP, ht, ha⟩ := hT _ hm
  have bP : s.heap.BuiltinsAt X.mg P := TB.bm.keeps I.bk
  have hP' : s.heap.get? P = some { cls := .none, data := .fields ps } := I.hok P _ hP
  refine PySem.W.kla_eval hdef ?_
  cases hc : codeAmong pos ps.toList with
  | some cv =>
    obtain ⟨c', e, hco⟩ := ha pos cv hc
    subst e
    refine PySem.W.kla_makeFunctionHit (mg := X.mg) (c := c) (P := P) (ps := ps) (closure_ok hfree) I.ok.glob (I.mod.glob.keeps I.bk) hcode (TB.code.keeps I.bk) hP' ht hc bP fun ctv h' tk hx hsz => ?_
    have new := Heap.get?_push_size h' (o := PySem.W.kla_obj "<lambda>" (X.env.qual ++ "<lambda>") params body scope (cloFrom X.env.cells scope.names []) ((X.mg "__name__").getD .none) c' ctv) rfl
    exact h h'.objs.size c' ((X.mg "__name__").getD .none) ctv H _ (I.laid (t' := tk) (fun b o e => Heap.get?_push_of_some _ (hx b o e)) hsz (objH_ok new)) (fun _ _ e _ => e) hT (I.hok.fresh hsz) hco
  | none =>
    refine PySem.W.kla_makeFunction (mg := X.mg) (c := c) (P := P) (ps := ps) (closure_ok hfree) I.ok.glob (I.mod.glob.keeps I.bk) hcode (TB.code.keeps I.bk) hP' ht hc TB.gP bP fun c' ctv h' tk hx hge hlt hrec htb => ?_
    obtain ⟨c2, oc, vs, t, e2, hoc, hd, hv⟩ := hrec
    cases e2
    have nC : H c' = none := I.hok.fresh hge
    have hsz : s.heap.objs.size ≤ h'.objs.size := Nat.le_trans hge (Nat.le_of_lt hlt)
    have I1 := inv_table (t' := tk) (more := #[rawInt pos.line, rawInt pos.col, .ref c']) (h' := h') I hP (fun b o hb e => hx b o hb e) htb hge ⟨oc, vs, t, hoc, hd, hv⟩
    have hE : ExtN H (upd (upd H P (.tbl (ps ++ #[rawInt pos.line, rawInt pos.col, .ref c']))) c' (CodeO c' (X.env.qual ++ "<lambda>"))) := fun b o e n => by
      have n1 : b ≠ c' := ne_of_none e nC
      have n2 : b ≠ P := fun z => n ps (Option.some.inj (e.symm.trans (by rw [z]; exact hP)))
      rw [upd_ne n1, upd_ne n2]
      exact e
    have eL : (ps ++ #[rawInt pos.line, rawInt pos.col, .ref c']).toList = ps.toList ++ [rawInt pos.line, rawInt pos.col, .ref c'] := by simp
    have new := Heap.get?_push_size h' (o := PySem.W.kla_obj "<lambda>" (X.env.qual ++ "<lambda>") params body scope (cloFrom X.env.cells scope.names []) ((X.mg "__name__").getD .none) c' ctv) rfl
    refine h h'.objs.size c' ((X.mg "__name__").getD .none) ctv _ _ (I1.laid (t' := tk) (fun b o e => Heap.get?_push_of_some _ e) (Nat.le_refl _) (objH_ok new)) (fun b o e n2 => by
      rw [upd_ne (ne_of_none e nC), upd_ne n2]
      exact e) (fun p hp => ?_) (I1.hok.fresh (Nat.le_refl _)) upd_same
    by_cases hb : p.1 = P
    · rw [hu p hp hb, hb]
      refine ⟨_, by rw [upd_ne (ne_of_none hP nC), upd_same], by rw [eL]; exact PySem.TriplesOk_snoc _ _ _ _ ht, fun p' cv hcv => ?_⟩
      rw [eL] at hcv
      rcases among_app _ ht hcv with z | z
      · obtain ⟨c0, e1, e2⟩ := ha p' cv z
        exact ⟨c0, e1, hE _ _ e2 codeO_ne⟩
      · exact ⟨c', z, upd_same⟩
    · obtain ⟨ps', a1, a2, a3⟩ := hT p hp
      refine ⟨ps', by rw [upd_ne (ne_of_none a1 nC), upd_ne hb]; exact a1, a2, fun p' cv hcv => ?_⟩
      obtain ⟨c0, e1, e2⟩ := a3 p' cv hcv
      exact ⟨c0, e1, hE _ _ e2 codeO_ne⟩
end
/-- the lambda's context; what it lets out has no context of its own -/
def lamX (X : Cx) (A : Around) (outer : List Env) (s : Shared) (H : Hp) (E : XK) (scope : Scope) (f c' : Addr) : Cx :=
  { lamCx X A outer s H E scope f c' with xe := fun e s' => wpAny (model X.prog X.w) (A.deeper (lamEnv X scope s.heap.objs.size f c')) (leaving (lamEnv X scope s.heap.objs.size f c') e) (fun _ s2 => L2N.CX X.prog X.w outer H s E e s2) (fun e2 s2 => L2N.CX X.prog X.w outer H s E e2 s2) s' }
section
variable {X : Cx} {pins : List (Addr × Obj)} {σ : L2.St} {H HZ : Hp} {s s1 : Shared}
/-- the lambda's frame, entered at s1: its names are the maker's cells, which stand as they stood -/
theorem lam_in {A : Around} {outer : List Env} {E : XK} {scope : Scope} {f c' : Addr} {h1 : Heap} {tk : Nat} (I : Inv X pins σ H s) (L : LamS X.env.scope scope) (e0 : Env0 X.prog X.w X.K X.mg X.base A outer s1 HZ) (hd : A.handled = none)
    (hcell : ∀ x c v, X.env.cells.lookup x = some c → s.heap.IsCell c v → s1.heap.IsCell c v) (hfree : ∀ x c, X.env.cells.lookup x = some c → HZ c = none)
    (hns : h1.Ns s1.heap.objs.size fun y => ([] : List (Str × Value)).reverse.lookup y) (kp : ∀ b o, s1.heap.get? b = some o → h1.get? b = some o) :
    Inv (lamX X A outer s1 HZ E scope f c') [] σ HZ { s1 with heap := h1, toks := tk } := by
  have hf := L.has I.ok
  -- a cell of the lambda is one of the maker's
  have back : ∀ {y c}, (cloFrom X.env.cells scope.names []).lookup y = some c → X.env.cells.lookup y = some c := fun {y c} e => by
    rcases cloFrom_mem (PySem.mem_of_lookup e) with hm | ⟨h1, h2⟩
    · cases hm
    · obtain ⟨c1, hc⟩ := hf _ h1 rfl
      have hc2 : X.env.cells.lookup y = some c1 := hc
      rw [hc2] at h2
      rw [hc2, h2]
      rfl
  have there : ∀ {y}, scope.names.lookup y = some .free → ∃ c, (cloFrom X.env.cells scope.names []).lookup y = some c := fun {y} hl => mem_lookup (cloFrom_has (cells := X.env.cells) (acc := []) (PySem.mem_of_lookup hl))
  have stays : ∀ {x c v}, X.env.cells.lookup x = some c → s.heap.IsCell c v → h1.IsCell c v := fun {x c v} e z => (hcell x c v e z).keeps kp
  have noex : ∀ b : Addr, b ∉ (lamX X A outer s1 HZ E scope f c').ex := fun b z => absurd (show b ∈ ([] : List Addr) from z) (by simp)
  have okc : (lamX X A outer s1 HZ E scope f c').Ok := by
    refine ⟨e0.mod, L.kind, rfl, rfl, Nat.le_refl _, fun y z c e1 e2 => I.ok.inj y z c (back e1) (back e2), fun y hy => ?_, fun y c z _ => ?_, fun _ => hd, Around.frames_deeper e0.frames, .inr ⟨rfl, rfl⟩, fun b z => absurd z (noex b), e0.bs, e0.bsz, fun b _ _ => noex b, fun b z => absurd z (noex b), e0.funs, e0.frf⟩
    · have hy2 : scope.names.lookup y = some .cell ∨ scope.names.lookup y = some .free := hy
      rcases hy2 with q | q
      · exact absurd rfl (L.own _ (PySem.mem_of_lookup q)).2
      · exact there q
    · exact absurd (show false = true from z) Bool.false_ne_true
  refine ⟨okc, rfl, e0.bare, Un.kept kp, ⟨_, hns, fun i y v e1 e2 e3 => ?_⟩, fun y c e => ?_, e0.hok.fresh (Nat.le_refl _), fun y c e => hfree y c (back e), fun q hq => absurd (show q ∈ ([] : List (Addr × Obj)) ++ [] from hq) (by simp), e0.hok.kept kp, I.len⟩
  · have e4 : Vis scope y := e3
    rcases e4 with k | k | k
    · exact absurd rfl (L.own _ (PySem.mem_of_lookup k)).1
    · exact absurd rfl (L.own _ (PySem.mem_of_lookup k)).2
    · obtain ⟨m, hn, hl⟩ := I.loc
      have hvis : Vis X.env.scope y := (L.free _ (PySem.mem_of_lookup k) rfl).elim (fun k => .inr (.inl k)) fun k => .inr (.inr k)
      obtain ⟨u, r, q⟩ := hl i y v e1 e2 hvis
      obtain ⟨c2, h2⟩ := there k
      refine ⟨u, r, .inr ⟨.inr k, c2, h2, ?_⟩⟩
      rcases q with ⟨k2, _⟩ | ⟨_, c3, e5, z⟩
      · have k3 : X.env.scope.names.lookup y = some .local := k2
        rcases L.free _ (PySem.mem_of_lookup k) rfl with k4 | k4 <;> rw [show X.env.scope.names.lookup y = _ from k4] at k3 <;> cases k3
      · rw [back h2] at e5
        obtain rfl := Option.some.inj e5
        exact stays (back h2) z
  · obtain ⟨v, z⟩ := I.cell y c (back e)
    exact ⟨v, stays (back e) z⟩
/-- the maker's cells -/
def CellOf (X : Cx) (c : Addr) : Prop := ∃ x, X.env.cells.lookup x = some c
/-- a def's own cells are younger than all that was there at its entry -/
theorem cell_new (hfn : ∀ x, X.fn x = true) (I : Inv X pins σ H s) {c : Addr} (h : CellOf X c) : X.s_0.heap.objs.size ≤ c := let ⟨x, e⟩ := h; I.ok.cab x c (hfn x) e
theorem cell_obj (I : Inv X pins σ H s) {c : Addr} (h : CellOf X c) : ∃ o v, s.heap.get? c = some o ∧ o.data = .cell v ∧ H c = none := by
  obtain ⟨x, e⟩ := h
  obtain ⟨v, o, ho, hd⟩ := I.cell x c e
  exact ⟨o, v, ho, hd, I.freeC x c e⟩
theorem cell_frame (hfn : ∀ x, X.fn x = true) (I : Inv X pins σ H s) {c : Addr} (h : CellOf X c) : c ∉ frs X.stack := fun z => by
  rcases List.mem_cons.mp (I.stkSub c z) with e | e
  · obtain ⟨x, q⟩ := h
    exact I.cne x c q e
  · obtain ⟨_, o, ho, _⟩ := I.ok.funs.mem e
    exact absurd (Nat.lt_of_lt_of_le (Heap.lt_size ho) (cell_new hfn I h)) (Nat.lt_irrefl _)
theorem cell_base (hfn : ∀ x, X.fn x = true) (I : Inv X pins σ H s) {c : Addr} (h : CellOf X c) {o : Obj} : X.base.get? c ≠ some o := fun e => absurd (Nat.lt_of_lt_of_le (Heap.lt_size e) (Nat.le_trans I.ok.bsz (cell_new hfn I h))) (Nat.lt_irrefl _)
/-- the heap with the maker's cells told -/
theorem with_env0 (hfn : ∀ x, X.fn x = true) (I : Inv X pins σ H s) : Env0 X.prog X.w X.K X.mg X.base X.A X.stack s (withP (CellOf X) s.heap H) where
  frames := I.env0.frames
  mod := I.env0.mod
  bs := fun b o e => ⟨(I.env0.bs b o e).1, by rw [withP_out fun z => cell_base hfn I z e]; exact (I.env0.bs b o e).2⟩
  bsz := I.env0.bsz
  funs := I.env0.funs
  frf := fun b hb => by
    rw [withP_out fun z => cell_frame hfn I z hb]
    exact I.env0.frf b hb
  hok := fun b o e => by
    by_cases p : CellOf X b
    · rw [withP_in p] at e
      obtain ⟨ob, v, h1, _, _⟩ := cell_obj I p
      rw [h1] at e
      obtain rfl := Option.some.inj e
      exact objH_ok h1
    · rw [withP_out p] at e
      refine (I.hok b o e).stay (fun _ _ _ q => q) (fun d q => ?_) fun d xs q => ?_
      · rw [withP_out fun z => by
          obtain ⟨_, _, _, _, n⟩ := cell_obj I z
          rw [q] at n
          cases n]
        exact q
      · rw [withP_out fun z => by
          obtain ⟨_, _, _, _, n⟩ := cell_obj I z
          rw [q] at n
          cases n]
        exact q
  bare := I.env0.bare
/-- tracked objects that are told no more are still there -/
theorem HOk.less {P : Program} {w : World} {h : Heap} {p : Addr → Prop} (x : HOk P w H h) (hP : ∀ b, p b → H b = none ∨ ∃ o, H b = some (objH b o)) : HOk P w (lessP p H) h := fun b o e => by
  have np : ¬ p b := fun z => by
    rw [lessP_in z] at e
    cases e
  rw [lessP_out np] at e
  have out : ∀ d u, H d = some u → (∀ o, u ≠ objH d o) → ¬ p d := fun d u q n z => by
    rcases hP d z with y | ⟨o', y⟩
    · rw [q] at y
      cases y
    · rw [q] at y
      exact n o' (Option.some.inj y)
  refine (x b o e).stay (fun _ _ _ q => q) (fun d q => ?_) fun d xs q => ?_
  · rw [lessP_out (out d _ q fun o z => by unfold objH at z; cases z)]
    exact q
  · rw [lessP_out (out d _ q fun o z => by unfold objH at z; cases z)]
    exact q
end
end Mi
namespace Mi
open PySem PySem.Spec PyProof.Rows L2 LamX
open Classical in
/-- what is told behind, and the objects of P as they were told ahead -/
noncomputable def backP (P : Addr → Prop) (H' H5 : Hp) : Hp := fun b => match H5 b with
  | some o => some o
  | none => if P b then H' b else none
section
variable {P : Addr → Prop} {H' H5 : Hp} {a : Addr}
theorem backP_some {o : HO} (h : H5 a = some o) : backP P H' H5 a = some o := by
  unfold backP
  rw [h]
theorem backP_in (p : P a) (h : H5 a = none) : backP P H' H5 a = H' a := by
  unfold backP
  rw [h]
  exact if_pos p
theorem backP_out (p : ¬ P a) : backP P H' H5 a = H5 a := by
  unfold backP
  cases h : H5 a with
  | some o => rfl
  | none => exact if_neg p
end
/-- a slot's data, if there is no call in it -/
def capt (δ : Ev) : Ev := δ.map fun v => match v with
  | .d x => if noT x then .d x else .u
  | _ => .u
theorem capt_d {δ : Ev} {i : Nat} {x : D} (e : (capt δ)[i]? = some (SV.d x)) : δ[i]? = some (SV.d x) ∧ noT x = true := by
  unfold capt at e
  rw [List.getElem?_map] at e
  obtain ⟨v, e1, e2⟩ := Option.map_eq_some_iff.mp e
  split at e2
  · split at e2
    · rename_i hn
      cases e2
      exact ⟨e1, hn⟩
    · cases e2
  · cases e2
/-- the objects of P, told as they stand, may be told no more and told again: an error in the air -/
theorem cx_back {P : Program} {w : World} {outer : List Env} {p : Addr → Prop} {H' : Hp} {s : Shared} {E : XK} {u : Value} {s' : Shared} (hP : ∀ b, p b → ∃ o, H' b = some (objH b o) ∧ s.heap.get? b = some o) (hfr : ∀ b ∈ frs outer, H' b = none)
    (h : L2N.CX P w outer (lessP p H') s (fun cls d H5 => (∀ b, p b → H5 b = none) → E cls d (backP p H' H5)) u s') : L2N.CX P w outer H' s E u s' := by
  obtain ⟨a, B, H5, cls, d, rfl, fl, hok, ub, na, os, ag, hE⟩ := h
  have nfr : ∀ b, p b → b ∉ frs outer := fun b pb hb => by
    obtain ⟨o, e, _⟩ := hP b pb
    rw [hfr b hb] at e
    cases e
  have inB : ∀ b, p b → ∃ o, H' b = some (objH b o) ∧ B.get? b = some o := fun b pb => by
    obtain ⟨o, e, q⟩ := hP b pb
    exact ⟨o, e, ub.keep b o q (lessP_in pb) (nfr b pb)⟩
  have n5 : ∀ b, p b → H5 b = none := fun b pb => by
    obtain ⟨o, e, q⟩ := hP b pb
    exact ub.free b o q (lessP_in pb)
  have np : ∀ b, H' b = none → ¬ p b := fun b e pb => by
    obtain ⟨o, q, _⟩ := hP b pb
    rw [e] at q
    cases q
  have other : ∀ b u, H' b = some u → (∀ o, u ≠ objH b o) → ¬ p b := fun b u e n pb => by
    obtain ⟨o, q, _⟩ := hP b pb
    rw [e] at q
    exact n o (Option.some.inj q)
  have up : ∀ b u, H5 b = some u → backP p H' H5 b = some u := fun b u e => backP_some e
  refine ⟨a, B, backP p H' H5, cls, d, rfl, fl, fun b o e => ?_, ⟨fun b o q e hb => ub.keep b o q (by rw [lessP_out (np b e)]; exact e) hb, ub.slot, fun b o q e => ?_, ub.there, fun b xs e => ?_, fun b o xs e => ?_, fun b ps e => ?_⟩, ?_, os, ag, hE n5⟩
  · by_cases pb : p b
    · rw [backP_in pb (n5 b pb)] at e
      obtain ⟨ob, e1, e2⟩ := inB b pb
      rw [e1] at e
      obtain rfl := Option.some.inj e
      exact objH_ok e2
    · rw [backP_out pb] at e
      exact (hok b o e).stay (fun _ _ _ q => q) (fun d q => up d _ q) fun d xs q => up d _ q
  · rw [backP_out (np b e)]
    exact ub.free b o q (by rw [lessP_out (np b e)]; exact e)
  · have n := other b _ e fun o z => by unfold objH at z; cases z
    exact up b _ (ub.tups b xs (by rw [lessP_out n]; exact e))
  · have n := other b _ e fun o z => by unfold objH at z; cases z
    exact up b _ (ub.frzs b o xs (by rw [lessP_out n]; exact e))
  · have n := other b _ e fun o z => by unfold objH at z; cases z
    obtain ⟨m, q⟩ := ub.tbls b ps (by rw [lessP_out n]; exact e)
    exact ⟨m, up b _ q⟩
  · by_cases pa : p a
    · obtain ⟨o, _, q⟩ := inB a pa
      rw [fl.2.1] at q
      cases q
    · rw [backP_out pa]
      exact na
/-- .. a value handed back -/
theorem ce_back {P : Program} {w : World} {outer : List Env} {p : Addr → Prop} {H' : Hp} {s : Shared} {Q : VK} {u : Value} {s' : Shared} (hP : ∀ b, p b → ∃ o, H' b = some (objH b o) ∧ s.heap.get? b = some o) (hfr : ∀ b ∈ frs outer, H' b = none)
    (h : CE outer P w (lessP p H') s (fun v H5 => (∀ b, p b → H5 b = none) → Q v (backP p H' H5)) u s') : CE outer P w H' s Q u s' := by
  obtain ⟨v, H5, os, ag, un, hok, rv, hq⟩ := h
  have nfr : ∀ b, p b → b ∉ frs outer := fun b pb hb => by
    obtain ⟨o, e, _⟩ := hP b pb
    rw [hfr b hb] at e
    cases e
  have in5 : ∀ b, p b → ∃ o, H' b = some (objH b o) ∧ s'.heap.get? b = some o := fun b pb => by
    obtain ⟨o, e, q⟩ := hP b pb
    exact ⟨o, e, un.keep b o q (lessP_in pb) (nfr b pb) (by simp)⟩
  have n5 : ∀ b, p b → H5 b = none := fun b pb => by
    obtain ⟨o, e, q⟩ := hP b pb
    exact un.free b o q (lessP_in pb) (by simp)
  have np : ∀ b, H' b = none → ¬ p b := fun b e pb => by
    obtain ⟨o, q, _⟩ := hP b pb
    rw [e] at q
    cases q
  have other : ∀ b u, H' b = some u → (∀ o, u ≠ objH b o) → ¬ p b := fun b u e n pb => by
    obtain ⟨o, q, _⟩ := hP b pb
    rw [e] at q
    exact n o (Option.some.inj q)
  have up : ∀ b u, H5 b = some u → backP p H' H5 b = some u := fun b u e => backP_some e
  refine ⟨v, backP p H' H5, os, ag, ⟨fun b o q e hb hx => un.keep b o q (by rw [lessP_out (np b e)]; exact e) hb hx, fun b o q e hb hx => un.slot b o q (by rw [lessP_out (np b e)]; exact e) hb hx, fun b o q e hx => ?_, un.there, fun b xs e => ?_, fun b o xs e => ?_, fun b ps e => ?_⟩, fun b o e => ?_, rv, hq n5⟩
  · rw [backP_out (np b e)]
    exact un.free b o q (by rw [lessP_out (np b e)]; exact e) hx
  · have n := other b _ e fun o z => by unfold objH at z; cases z
    exact up b _ (un.tups b xs (by rw [lessP_out n]; exact e))
  · have n := other b _ e fun o z => by unfold objH at z; cases z
    exact up b _ (un.frzs b o xs (by rw [lessP_out n]; exact e))
  · have n := other b _ e fun o z => by unfold objH at z; cases z
    obtain ⟨m, q⟩ := un.tbls b ps (by rw [lessP_out n]; exact e)
    exact ⟨m, up b _ q⟩
  · by_cases pb : p b
    · rw [backP_in pb (n5 b pb)] at e
      obtain ⟨ob, e1, e2⟩ := in5 b pb
      rw [e1] at e
      obtain rfl := Option.some.inj e
      exact objH_ok e2
    · rw [backP_out pb] at e
      exact (hok b o e).stay (fun _ _ _ q => q) (fun d q => up d _ q) fun d xs q => up d _ q
end Mi
namespace Mi
open PySem PySem.Spec PyProof.Rows L2 LamX
def outc (e : Option Str) (p : D) (s : S) : R D := match e with
  | none => .ok p s
  | some x => .err x p s
section
variable {X : Cx} {st : Sto} {pins : List (Addr × Obj)} {σ : L2.St} {δ : Ev} {B : Bad} {H : Hp} {s : Shared} {S0 : S}
theorem with_grow (I : Inv X pins σ H s) (hst : ∀ a, (cf X st).Mut a → B a) : Grow (cf X st) B H B (withP (CellOf X) s.heap H) := ⟨fun a o e _ => by
  rw [withP_out fun z => by
    obtain ⟨_, _, _, _, n⟩ := cell_obj I z
    rw [e] at n
    cases n]
  exact e, hst, fun _ q => .inl q⟩
/-- the lambda at f, called at any later time -/
theorem lam_thk (hfn : ∀ x, X.fn x = true) (I : Inv X pins σ H s) (a : At (cf X st) B H S0 σ δ) {f c' : Addr} {pm ctv : Value} {params : Arguments} {body : Expr} {scope : Scope} (L : LamS X.env.scope scope) (nb : ¬ B f)
    (hf : H f = some (objH f (PySem.W.kla_obj "<lambda>" (X.env.qual ++ "<lambda>") params body scope (cloFrom X.env.cells scope.names []) pm c' ctv))) (hco : H c' = some (CodeO c' (X.env.qual ++ "<lambda>")))
    (hbind : ∀ (q : Str) (cl : List (Str × Addr)) (pm cv ctv : Value), bindArgs (PySem.W.kla_fn "<lambda>" q params body scope cl pm cv ctv) ⟨[], []⟩ = pure []) {Fb : FE}
    (hbody : ∀ (A : Around) (outer : List Env) (sh : Shared) (H : Hp) (E : XK) (f c' : Addr), Room 59 (A.deeper (lamEnv X scope sh.heap.objs.size f c')) → ED (lamX X A outer sh H E scope f c') st E body Fb) {e : Option Str} {p : D} (hp : ∀ S1, Fb (capt δ) S1 = outc e p S1) (hnp : noT p = true) :
    DV (cf X st) (.thk e p) B (withP (CellOf X) s.heap H) (.ref f) := by
  have nf : ¬ CellOf X f := fun z => by
    obtain ⟨_, _, _, _, n⟩ := cell_obj I z
    rw [hf] at n
    cases n
  have ncl : ∀ b, CellOf X b → ¬ B b := fun b z q => by
    obtain ⟨_, _, _, _, n⟩ := cell_obj I z
    exact a.b.there b q n
  have gw := with_grow (st := st) I a.b.st
  refine ⟨f, _, _, _, _, rfl, nb, by rw [withP_out nf]; exact hf, fun A outer sh H' B' S1 Q E hr e0 g b hs post => ?_⟩
  -- what stands there now
  have of1 := objH_get e0.hok (g.keep f _ (by rw [withP_out nf]; exact hf) nb)
  have cells : ∀ b, CellOf X b → ∃ o v, s.heap.get? b = some o ∧ o.data = .cell v ∧ H' b = some (objH b o) ∧ sh.heap.get? b = some o := fun b z => by
    obtain ⟨o, v, h1, h2, h3⟩ := cell_obj I z
    have h4 : H' b = some (objH b o) := g.keep b _ (by rw [withP_in z, h1]; rfl) (ncl b z)
    exact ⟨o, v, h1, h2, h4, objH_get e0.hok h4⟩
  have ncc : ¬ CellOf X c' := fun z => by
    obtain ⟨_, _, _, _, n⟩ := cell_obj I z
    rw [hco] at n
    cases n
  have nbc : ¬ B c' := fun q => by
    rcases a.b.kind c' q with ⟨xs, z⟩ | ⟨ps, z⟩
    · rw [hco] at z
      unfold CodeO at z
      cases z
    · rw [hco] at z
      unfold CodeO at z
      cases z
  obtain ⟨⟨oc, vs, t, hoc, hdc, hvc⟩, _, _⟩ := e0.hok c' _ (g.keep c' _ (by rw [withP_out ncc]; exact hco) nbc)
  have hP : ∀ b, CellOf X b → ∃ o, H' b = some (objH b o) ∧ sh.heap.get? b = some o := fun b z => by
    obtain ⟨o, v, _, _, h3, h4⟩ := cells b z
    exact ⟨o, h3, h4⟩
  have e4 : Env0 X.prog X.w X.K X.mg X.base A outer sh (lessP (CellOf X) H') := ⟨e0.frames, e0.mod, fun b o q => by
    obtain ⟨h1, h2⟩ := e0.bs b o q
    refine ⟨h1, ?_⟩
    by_cases z : CellOf X b
    · exact lessP_in z
    · rw [lessP_out z]
      exact h2, e0.bsz, e0.funs, fun b hb => by
    have n : H' b = none := e0.frf b hb
    by_cases z : CellOf X b
    · exact lessP_in z
    · rw [lessP_out z]
      exact n, Mi.HOk.less e0.hok fun b z => (by
        obtain ⟨o, h1, _⟩ := hP b z
        exact .inr ⟨o, h1⟩), e0.bare⟩
  -- what is known in the lambda's frame
  have nk : ∀ b u, H' b = some u → (∀ o, u ≠ objH b o) → lessP (CellOf X) H' b = some u := fun b u q n => by
    rw [lessP_out fun z => by
      obtain ⟨o, h1, _⟩ := hP b z
      rw [q] at h1
      exact n o (Option.some.inj h1)]
    exact q
  have kf4 : KF (cf X st) (lessP (CellOf X) H') := fun d q => b.kf d fun z => by
    by_cases zc : CellOf X d
    · exact q (lessP_in zc)
    · rw [lessP_out zc] at q
      exact q z
  have hs4 : HS (cf X st) (lessP (CellOf X) H') S1 := ⟨fun d q => by
    obtain ⟨h1, h2, h3⟩ := hs.store d q
    exact ⟨nk _ _ h1 fun o z => (by unfold objH at z; cases z), nk _ _ h2 fun o z => (by unfold objH at z; cases z), h3⟩, fun q hq => by
    obtain ⟨ps, q1, q2, q3⟩ := hs.tabs q hq
    refine ⟨ps, nk _ _ q1 fun o z => (by unfold objH at z; cases z), q2, fun pos cv hc => ?_⟩
    obtain ⟨c0, z1, z2⟩ := q3 pos cv hc
    refine ⟨c0, z1, ?_⟩
    rw [lessP_out fun z => by
      obtain ⟨o, v, _, h2, _, h4⟩ := cells c0 z
      obtain ⟨⟨o2, vs2, t2, w1, w2, w3⟩, _, _⟩ := e0.hok c0 _ z2
      rw [h4] at w1
      obtain rfl := Option.some.inj w1
      rw [h2] at w2
      cases w2]
    exact z2⟩
  have b4 : BOk (cf X st) (lessP (CellOf X) H') B' := ⟨fun d q => by
    rcases b.kind d q with ⟨xs, z⟩ | ⟨ps, z⟩
    · exact .inl ⟨xs, nk _ _ z fun o z => (by unfold objH at z; cases z)⟩
    · exact .inr ⟨ps, nk _ _ z fun o z => (by unfold objH at z; cases z)⟩, b.st, b.ca, kf4⟩
  have a4 : At (cf X st) B' (lessP (CellOf X) H') S1 σ (capt δ) := ⟨b4, hs4, fun i x q => by
    obtain ⟨q1, q2⟩ := capt_d q
    obtain ⟨v, h1, h2⟩ := a.sl i x q1
    exact ⟨v, h1, DV.less (fun d z => by
      obtain ⟨o, q1, _⟩ := hP d z
      exact .inr ⟨_, q1⟩) x v q2 (DV.grow (gw.trans g) x v h2)⟩, by
    unfold capt
    rw [List.length_map, a.len]⟩
  have keepB : ∀ H5 : Hp, Keeps (cf X st) (lessP (CellOf X) H') H5 → (∀ d, CellOf X d → H5 d = none) → Keeps (cf X st) H' (backP (CellOf X) H' H5) := fun H5 k5 n5 d o q n => by
    by_cases z : CellOf X d
    · rw [backP_in z (n5 d z)]
      exact q
    · exact backP_some (k5 d o (by rw [lessP_out z]; exact q) n)
  have postB : Post (cf X st) (relD (cf X st) B') (Fb (capt δ) S1) (lessP (CellOf X) H') (fun v H5 => (∀ d, CellOf X d → H5 d = none) → Q v (backP (CellOf X) H' H5)) (fun cls d H5 => (∀ d, CellOf X d → H5 d = none) → E cls d (backP (CellOf X) H' H5)) := by
    rw [hp S1]
    cases e with
    | none =>
      intro v H5 kf5 k5 hs5 dv n5
      refine post v _ (fun d q => ?_) (keepB H5 k5 n5) (hs5.keep fun d o q => backP_some q) (DV.grow ⟨fun d o q _ => backP_some q, b.st, fun _ q => .inl q⟩ p v dv)
      by_cases z : CellOf X d
      · rw [backP_in z (n5 d z)] at q
        exact b.kf d q
      · rw [backP_out z] at q
        exact kf5 d q
    | some x =>
      intro C dd H5 k5 hs5 m pay n5
      refine post C dd _ (keepB H5 k5 n5) (hs5.keep fun d o q => backP_some q) m ?_
      cases p <;> first | exact pay | skip
      obtain ⟨d, h1, h2⟩ := pay
      exact ⟨d, h1, backP_some h2⟩
  -- the call
  have lim : sh.heap.NoLimit := e0.mod.nolimit.keeps fun d o q => (e0.bs d o q).1
  refine codeAny_mono (R := CR (L2N.CX X.prog X.w) outer X.prog X.w (lessP (CellOf X) H') sh (fun v H5 => (∀ d, CellOf X d → H5 d = none) → Q v (backP (CellOf X) H' H5)) (fun cls d H5 => (∀ d, CellOf X d → H5 d = none) → E cls d (backP (CellOf X) H' H5))) ?_ fun r s' hq => ?_
  · refine PySem.W.kla_callFunE hr.depth of1 rfl L.co L.gen rfl ⟨c', oc, vs, t, rfl, hoc, hdc, hvc⟩ ?_
    rw [hbind]
    refine wpAny_pure (wpAny_newFunctionEnv (fun y hy => (L.own y hy).2) (fun y hy => absurd hy (by simp)) (fun h1 hns hsb => ⟨lim.fresh _ hsb, ?_⟩) L.kind)
    show codeAny _ _ (.expr body (lamEnv X scope sh.heap.objs.size f c')) _ _
    have kp : ∀ d o, sh.heap.get? d = some o → h1.get? d = some o := fun d o q => hsb.extBut d o (Nat.ne_of_lt (Heap.lt_size q)) (Heap.get?_push_of_some _ q)
    have J := lam_in (E := fun cls d H5 => (∀ d, CellOf X d → H5 d = none) → E cls d (backP (CellOf X) H' H5)) (f := f) (c' := c') (tk := sh.toks + ([] : List (Str × Value)).length) I L e4 hr.hd (fun y d v q z => by
      obtain ⟨o, w1, w2⟩ := z
      obtain ⟨o2, v2, u1, _, _, u4⟩ := cells d ⟨y, q⟩
      rw [w1] at u1
      obtain rfl := Option.some.inj u1
      exact ⟨o, u4, w2⟩) (fun y d q => lessP_in ⟨y, q⟩) hns kp
    obtain ⟨tt, pp, rr⟩ := hbody A outer sh (lessP (CellOf X) H') (fun cls d H5 => (∀ d, CellOf X d → H5 d = none) → E cls d (backP (CellOf X) H' H5)) f c' (hr.deeper _)
    refine PySem.W.kla_codeExpr (wpAny_mono (pp.run [] _ σ (lessP (CellOf X) H') _ J (rr σ (capt δ) B' _ S1 _ a4 postB)) (fun v s' hq => ?_) fun e s' hq => hq)
    obtain ⟨w', H5, J', rv, q⟩ := hq
    exact ⟨w', H5, J'.os, J'.bare, J'.base, J'.hok, rv, q⟩
  · cases r with
    | error e => exact cx_back hP e0.frf hq
    | ok fl =>
      cases fl with
      | ret u => exact ce_back hP e0.frf hq
      | next => exact hq
      | brk => exact hq
      | cont => exact hq
end
end Mi
namespace Mi
open PySem PySem.Spec PyProof.Rows L2 LamX
theorem outc_inj {e e' : Option Str} {p p' : D} {s : S} (h : outc e p s = outc e' p' s) : e = e' ∧ p = p' := by
  cases e <;> cases e' <;> simp only [outc, R.ok.injEq, R.err.injEq, reduceCtorEq, and_true] at h
  · exact ⟨rfl, h⟩
  · exact ⟨by rw [h.1], h.2⟩
open Classical in
/-- what a body does, whatever the store: a call of it -/
noncomputable def thkOf (r : S → R D) : Option D :=
  if h : ∃ ep : Option Str × D, noT ep.2 = true ∧ ∀ s, r s = outc ep.1 ep.2 s then some (.thk (choose h).1 (choose h).2) else none
theorem thkOf_eq {r : S → R D} {e : Option Str} {p : D} (n : noT p = true) (h : ∀ s, r s = outc e p s) : thkOf r = some (.thk e p) := by
  have hx : ∃ ep : Option Str × D, noT ep.2 = true ∧ ∀ s, r s = outc ep.1 ep.2 s := ⟨(e, p), n, h⟩
  unfold thkOf
  rw [dif_pos hx]
  obtain ⟨h1, h2⟩ := outc_inj (((Classical.choose_spec hx).2 ⟨[], 0, 0, 0, 0⟩).symm.trans (h ⟨[], 0, 0, 0, 0⟩))
  rw [h1, h2]
theorem thkOf_some {r : S → R D} {t : D} (h : thkOf r = some t) : ∃ e p, t = .thk e p ∧ noT p = true ∧ ∀ s, r s = outc e p s := by
  unfold thkOf at h
  split at h
  · rename_i hx
    exact ⟨_, _, (Option.some.inj h).symm, (Classical.choose_spec hx).1, (Classical.choose_spec hx).2⟩
  · cases h
def plainR (r : R D) : R D := match r with
  | .ok d s => if noT d then .ok d s else .stuck
  | _ => .stuck
noncomputable def eLam (n : Nat) (dfl : List D) (Fm : List D → S → R D) (Fb : FE) (F : FA) : FE := fun δ s => match thkOf (Fb (capt δ)) with
  | none => .stuck
  | some t => rb (F δ s) fun ds s1 => if (t :: ds ++ dfl).length = n then plainR (Fm (t :: ds ++ dfl) s1) else .stuck
/-- what the making of lambdas asks of a def's frame: its code object, its table -/
structure LamOk (X : Cx) (st : Sto) : Prop where
  ex : ∃ c P, TabB X.base X.mg c P ∧ X.env.code = .ref c ∧ (P, X.env.qual ++ "<lambda>") ∈ st.T ∧ ∀ p ∈ st.T, p.1 = P → p.2 = X.env.qual ++ "<lambda>"
theorem lamCx_passes {X : Cx} {A : Around} {outer : List Env} {s : Shared} {H : Hp} {E : XK} {scope : Scope} {f c' : Addr} : Passes (L2N.CX X.prog X.w) (lamX X A outer s H E scope f c') E :=
  L2N.passes_call (X := lamX X A outer s H E scope f c') (W := fun cls d _ H => E cls d H) (L2N.takes_of rfl rfl rfl rfl) fun _ _ _ _ h => h
section
variable {X : Cx} {st : Sto} {E : XK} {pos p lpos : Pos} {es : List Expr} {FAs : FA} {x : Str} {k n : Nat} {dfl : List D} {Fm : List D → S → R D} {params : Arguments} {body : Expr} {scope : Scope} {Fb : FE}
/-- the call behind its arguments: the lambda's cells are told for its time -/
theorem lam_call {pins : List (Addr × Obj)} {σ : L2.St} {δ : Ev} {B : Bad} {H2 : Hp} {s2 : Shared} {S2 : S} {f0 f c' : Addr} {fd : FuncData} {ps : List Str} {us0 us : List Value} {dvs vs : List V} {ds : List D} {pm ctv : Value} {e : Option Str} {q : D} {Q : VK}
    (FO : FnOk X.prog X.w X.K X.mg X.base (L2N.CX X.prog X.w) k f0 fd ps (spM X.prog X.w X.K X.mg X.base st.T n Fm)) (hr : Room k X.A) (hb : Binds X.K fd ps us0) (hd : Vals dvs us0) (hf : flats dfl = some dvs) (hfn : ∀ x, X.fn x = true) (L : LamS X.env.scope scope)
    (hbind : ∀ (q : Str) (cl : List (Str × Addr)) (pm cv ctv : Value), bindArgs (PySem.W.kla_fn "<lambda>" q params body scope cl pm cv ctv) ⟨[], []⟩ = pure [])
    (hbody : ∀ (A : Around) (outer : List Env) (sh : Shared) (H : Hp) (E : XK) (f c' : Addr), Room 59 (A.deeper (lamEnv X scope sh.heap.objs.size f c')) → ED (lamX X A outer sh H E scope f c') st E body Fb)
    (I : Inv X pins σ H2 s2) (a : At (cf X st) B H2 S2 σ δ) (hfo : H2 f = some (objH f (PySem.W.kla_obj "<lambda>" (X.env.qual ++ "<lambda>") params body scope (cloFrom X.env.cells scope.names []) pm c' ctv))) (hco : H2 c' = some (CodeO c' (X.env.qual ++ "<lambda>"))) (nb : ¬ B f)
    (hout : ∀ S1, Fb (capt δ) S1 = outc e q S1) (nq : noT q = true) (rv : Vals vs us) (dv : DVs (cf X st) ds B H2 vs)
    (h : Post (cf X st) (relD (cf X st) B) (if (.thk e q :: ds ++ dfl).length = n then plainR (Fm (.thk e q :: ds ++ dfl) S2) else .stuck) H2 Q E) :
    wpAny (model X.prog X.w) X.A (call (.ref f0) (.ref f :: us)) (EP X pins σ Q) X.xe s2 := by
  have dvt := lam_thk hfn I a L nb hfo hco hbind hbody hout nq
  have gw := with_grow (st := st) I a.b.st
  split at h
  · rename_i hl
    have r2 : Vals (.ref f :: vs ++ dvs) (.ref f :: us ++ us0) := Vals.append (xs := .ref f :: vs) (us := .ref f :: us) (.cons rfl rv) hd
    have dva : DVs (cf X st) (.thk e q :: ds ++ dfl) B (withP (CellOf X) s2.heap H2) (.ref f :: vs ++ dvs) := DVs.append (ds := .thk e q :: ds) ⟨_, vs, rfl, dvt, DVs.grow gw ds vs dv⟩ (flats_dv' hf)
    have ncell : ∀ b, H2 b ≠ none → ¬ CellOf X b := fun b z w => by
      obtain ⟨_, _, _, _, n⟩ := cell_obj I w
      exact z n
    have wo : ∀ b o, H2 b = some o → withP (CellOf X) s2.heap H2 b = some o := fun b o z => by
      rw [withP_out (ncell b (by rw [z]; simp))]
      exact z
    cases eF : Fm (.thk e q :: ds ++ dfl) S2 with
    | stuck =>
      rw [eF] at h
      exact False.elim h
    | err y q2 s3 =>
      rw [eF] at h
      exact False.elim h
    | ok d s3 =>
      rw [eF] at h
      have h : Post (cf X st) (relD (cf X st) B) (if noT d then .ok d s3 else .stuck) H2 Q E := h
      split at h
      · rename_i nd
        have bw : BOk (cf X st) (withP (CellOf X) s2.heap H2) B := ⟨fun b z => by
          rcases a.b.kind b z with ⟨xs, w⟩ | ⟨ps, w⟩
          · exact .inl ⟨xs, wo b _ w⟩
          · exact .inr ⟨ps, wo b _ w⟩, a.b.st, a.b.ca, fun b z => by
          by_cases w : CellOf X b
          · cases kk : (cf X st).K.lookup b with
            | none => rfl
            | some o => exact absurd (I.mod.kin b o kk) (cell_base hfn I w)
          · rw [withP_out w] at z
            exact a.b.kf b z⟩
        have hl2 : (.ref f :: us ++ us0).length = ps.length := by
          rw [← r2.length, dva.length, hl]
          have z := FO.len (.ref f :: vs ++ dvs) (withP (CellOf X) s2.heap H2) (fun v H' => KF (cf X st) H' ∧ Keeps (cf X st) (withP (CellOf X) s2.heap H2) H' ∧ HS (cf X st) H' s3 ∧ DV (cf X st) d B H' v) E0 ⟨st, S2, _, B, rfl, hl, bw, a.s.keep wo, dva, by
            rw [eF]
            exact fun v H' k1 k2 k3 k4 => ⟨k1, k2, k3, k4⟩⟩
          rw [← z, dva.length, hl]
        refine wpAny_call (codeAny_mono (FO.run X.A X.stack s2 (withP (CellOf X) s2.heap H2) ⟨.ref f :: us, []⟩ (.ref f :: us ++ us0) (.ref f :: vs ++ dvs) (fun v H' => KF (cf X st) H' ∧ Keeps (cf X st) (withP (CellOf X) s2.heap H2) H' ∧ HS (cf X st) H' s3 ∧ DV (cf X st) d B H' v) E0 hr (with_env0 hfn I) (hb s2 _ I.kIn hl2) r2 ⟨st, S2, _, B, rfl, hl, bw, a.s.keep wo, dva, by
          rw [eF]
          exact fun v H' k1 k2 k3 k4 => ⟨k1, k2, k3, k4⟩⟩) fun r s3' hq => ?_)
        cases r with
        | error y =>
          obtain ⟨_, _, _, _, _, _, _, _, _, _, _, _, z⟩ := hq
          exact z.elim
        | ok fl =>
          cases fl with
          | next => exact False.elim hq
          | brk => exact False.elim hq
          | cont => exact False.elim hq
          | ret u =>
            obtain ⟨v, H', os, bare, un, hok, ru, kf', kp', hs', dv'⟩ := hq
            -- the cells stand as they stood
            have nm : ∀ b, CellOf X b → ¬ (cf X st).Mut b := fun b w m => ncell b (a.s.mut m) w
            have cs : ∀ b, CellOf X b → ∃ o, s2.heap.get? b = some o ∧ H' b = some (objH b o) := fun b w => by
              obtain ⟨o, _, h1, _, _⟩ := cell_obj I w
              exact ⟨o, h1, kp' b _ (by rw [withP_in w, h1]; rfl) (nm b w)⟩
            have lo : ∀ b o, H' b = some o → (∀ o', o ≠ objH b o') → lessP (CellOf X) H' b = some o := fun b o z n => by
              rw [lessP_out fun w => by
                obtain ⟨o', _, z2⟩ := cs b w
                rw [z] at z2
                exact n o' (Option.some.inj z2)]
              exact z
            have un2 : Un (frs X.stack) [] H2 (lessP (CellOf X) H') s2.heap s3'.heap := by
              refine ⟨fun b o z n hb hx => ?_, fun b o z n hb hx => un.slot b o z (by rw [withP_out fun w => cell_frame hfn I w hb]; exact n) hb hx, fun b o z n hx => ?_, un.there, fun b xs z => ?_, fun b o xs z => ?_, fun b pp z => ?_⟩
              · by_cases w : CellOf X b
                · obtain ⟨o', z1, z2⟩ := cs b w
                  rw [z] at z1
                  obtain rfl := Option.some.inj z1
                  exact objH_get hok z2
                · exact un.keep b o z (by rw [withP_out w]; exact n) hb hx
              · by_cases w : CellOf X b
                · exact lessP_in w
                · rw [lessP_out w]
                  exact un.free b o z (by rw [withP_out w]; exact n) hx
              · exact lo b _ (un.tups b xs (wo b _ z)) fun o w => (by unfold objH at w; cases w)
              · exact lo b _ (un.frzs b o xs (wo b _ z)) fun o w => (by unfold objH at w; cases w)
              · obtain ⟨m, z2⟩ := un.tbls b pp (wo b _ z)
                exact ⟨m, lo b _ z2 fun o w => (by unfold objH at w; cases w)⟩
            have hP : ∀ b, CellOf X b → H' b = none ∨ ∃ o, H' b = some (objH b o) := fun b w => by
              obtain ⟨o, _, z⟩ := cs b w
              exact .inr ⟨o, z⟩
            have I3 := I.call' os un2 (Mi.HOk.less hok hP) bare (fun b z => absurd z (by simp))
            have hs3 : HS (cf X st) (lessP (CellOf X) H') s3 := ⟨fun b z => by
              obtain ⟨w1, w2, w3⟩ := hs'.store b z
              exact ⟨lo _ _ w1 fun o w => (by unfold objH at w; cases w), lo _ _ w2 fun o w => (by unfold objH at w; cases w), w3⟩, fun pq hpq => by
              obtain ⟨pp, z1, z2, z3⟩ := hs'.tabs pq hpq
              refine ⟨pp, lo _ _ z1 fun o w => (by unfold objH at w; cases w), z2, fun pos cv hc => ?_⟩
              obtain ⟨c0, y1, y2⟩ := z3 pos cv hc
              refine ⟨c0, y1, ?_⟩
              rw [lessP_out fun w => by
                obtain ⟨o, v, w1, w2, _⟩ := cell_obj I w
                obtain ⟨o', w3, w4⟩ := cs c0 w
                rw [w1] at w3
                obtain rfl := Option.some.inj w3
                obtain ⟨⟨o2, vs2, t2, u1, u2, u3⟩, _, _⟩ := hok c0 _ y2
                rw [objH_get hok w4] at u1
                obtain rfl := Option.some.inj u1
                rw [w2] at u2
                cases u2]
              exact y2⟩
            refine ⟨v, lessP (CellOf X) H', I3, ru, h v _ (inv_kf I3) (fun b o z m => ?_) hs3 (DV.less (fun b w => (hP b w).imp id fun ⟨o, z⟩ => ⟨_, z⟩) d v nd dv')⟩
            rw [lessP_out (ncell b (by rw [z]; simp))]
            exact kp' b o (wo b o z) m
      · exact False.elim h
  · exact False.elim h
theorem ed_lam (Dk : DefOk X.prog X.w X.K X.mg X.base st.T x k n dfl Fm) (hr : Room k X.A) (lk : LamOk X st) (hfn : ∀ x, X.fn x = true) (L : LamS X.env.scope scope) (hdef : defaultsOf params X.env = ([], []))
    (hbind : ∀ (q : Str) (cl : List (Str × Addr)) (pm cv ctv : Value), bindArgs (PySem.W.kla_fn "<lambda>" q params body scope cl pm cv ctv) ⟨[], []⟩ = pure [])
    (hbody : ∀ (A : Around) (outer : List Env) (sh : Shared) (H : Hp) (E : XK) (f c' : Addr), Room 59 (A.deeper (lamEnv X scope sh.heap.objs.size f c')) → Passes (L2N.CX X.prog X.w) (lamX X A outer sh H E scope f c') E → ED (lamX X A outer sh H E scope f c') st E body Fb)
    (h1 : AD X st E es FAs) (hg : Gl X x := by rfl) (hdb : (x == ("__debug__" : Str)) = false := by decide) (he : starEach (.Lambda params body scope lpos :: es) X.env = (false, eval (.Lambda params body scope lpos) X.env) :: starEach es X.env := by rfl)
    (hpl : (backTo pos (starEach es X.env)).any (·.1) = false := by rfl) : ED X st E (.Call (.Name x p) (.Lambda params body scope lpos :: es) [] pos) (eLam n dfl Fm Fb FAs) := by
  refine ⟨tCan (cf X st) E (eLam n dfl Fm Fb FAs), ⟨fun pins s σ H Q I hw => ?_⟩, fun σ δ B H s Q a h _ => ⟨δ, B, s, a, h⟩⟩
  obtain ⟨δ, B, S0, a, h⟩ := hw (inv_kf I)
  obtain ⟨f0, fd, ps, us0, dvs, FO, hm, hk, hb, hd, hf⟩ := Dk.ex
  obtain ⟨c, P, TB, hcode, hT, hu⟩ := lk.ex
  obtain ⟨t1, p1, r1⟩ := h1
  unfold eLam at h
  cases ht : thkOf (Fb (capt δ)) with
  | none =>
    rw [ht] at h
    exact False.elim h
  | some t =>
    rw [ht] at h
    obtain ⟨e, q, rfl, nq, hout⟩ := thkOf_some ht
    refine wpAny_Call_Name_kw (ld_glob I hg hm ?_ hdb)
    refine PySem.W.callWith_K (h₀ := X.base) I.ok.mod.kin hk ?_ he hpl
    rw [he]
    show wpAny _ _ (spliced ((false, eval (.Lambda params body scope lpos) X.env) :: backTo pos (starEach es X.env))) _ _ s
    refine Calls.spliced_cons (lam_new (T := st.T) I TB hcode hT hu a.s.tabs hdef (L.has I.ok) fun f c' pm ctv H1 s1 I1 kp T1 nf hco => ?_)
    -- the rest of the arguments, where the lambda stands
    have mP : (cf X st).Mut P := .inr (List.mem_map.mpr ⟨_, hT, rfl⟩)
    have kp1 : Keeps (cf X st) H (upd H1 f (objH f (PySem.W.kla_obj "<lambda>" (X.env.qual ++ "<lambda>") params body scope (cloFrom X.env.cells scope.names []) pm c' ctv))) := fun b o z n => by
      have z1 := kp b o z fun w => n (by rw [w]; exact mP)
      rw [upd_ne (ne_of_none z1 nf)]
      exact z1
    have hs1 : HS (cf X st) (upd H1 f (objH f (PySem.W.kla_obj "<lambda>" (X.env.qual ++ "<lambda>") params body scope (cloFrom X.env.cells scope.names []) pm c' ctv))) S0 := by
      have up : ∀ b o, H1 b = some o → upd H1 f (objH f (PySem.W.kla_obj "<lambda>" (X.env.qual ++ "<lambda>") params body scope (cloFrom X.env.cells scope.names []) pm c' ctv)) b = some o := fun b o z => by
        rw [upd_ne (ne_of_none z nf)]
        exact z
      have nP : ∀ b xs, H b = some (.lst xs) → b ≠ P := fun b xs z w => by
        obtain ⟨ps, z2, _⟩ := a.s.tabs _ hT
        rw [w, z2] at z
        cases z
      refine ⟨fun b z => ?_, T1.ext up⟩
      obtain ⟨w1, w2, w3⟩ := a.s.store b z
      exact ⟨up _ _ (kp _ _ w1 (nP _ _ w1)), up _ _ (kp _ _ w2 (nP _ _ w2)), w3⟩
    have a1 := a.keep (inv_kf I1) kp1 hs1
    have ho := a1.b
    have nb : ¬ B f := fun z => by
      rcases ho.kind f z with ⟨xs, w⟩ | ⟨ps, w⟩
      · rw [upd_same] at w
        unfold objH at w
        cases w
      · rw [upd_same] at w
        unfold objH at w
        cases w
    have fH : (upd H1 f (objH f (PySem.W.kla_obj "<lambda>" (X.env.qual ++ "<lambda>") params body scope (cloFrom X.env.cells scope.names []) pm c' ctv))) f = some (objH f (PySem.W.kla_obj "<lambda>" (X.env.qual ++ "<lambda>") params body scope (cloFrom X.env.cells scope.names []) pm c' ctv)) := upd_same
    have cH : (upd H1 f (objH f (PySem.W.kla_obj "<lambda>" (X.env.qual ++ "<lambda>") params body scope (cloFrom X.env.cells scope.names []) pm c' ctv))) c' = some (CodeO c' (X.env.qual ++ "<lambda>")) := by
      rw [upd_ne (ne_of_none hco nf)]
      exact hco
    have h := Post.mono kp1 h
    revert I1 a1 fH cH h
    generalize (upd H1 f (objH f (PySem.W.kla_obj "<lambda>" (X.env.qual ++ "<lambda>") params body scope (cloFrom X.env.cells scope.names []) pm c' ctv))) = Hf
    intro I1 a1 fH cH h
    refine thn (p1.run pos pins s1 σ Hf (fun vs H2 => ∃ ds S2, At (cf X st) B H2 S2 σ δ ∧ Keeps (cf X st) Hf H2 ∧ DVs (cf X st) ds B H2 vs ∧
      Post (cf X st) (relD (cf X st) B) (if (.thk e q :: ds ++ dfl).length = n then plainR (Fm (.thk e q :: ds ++ dfl) S2) else .stuck) H2 Q E) I1 (r1 σ δ B Hf S0 _ a1 (Post.seq h fun ds S2 vs H2 kf2 k2 hs2 dv2 h2 => ⟨ds, S2, a1.keep kf2 k2 hs2, k2, dv2, h2⟩))) fun us s2 hx => ?_
    obtain ⟨vs, H2, I2, rv, ds, S2, a2, k2, dv2, h2⟩ := hx
    have nbc : ¬ B c' := fun z => by
      rcases a1.b.kind c' z with ⟨xs, w⟩ | ⟨pp, w⟩ <;> rw [cH] at w <;> unfold CodeO at w <;> cases w
    exact ⟨I2.kIn, lam_call FO hr hb hd hf hfn L hbind (fun A outer sh H E f c' hr => hbody A outer sh H E f c' hr lamCx_passes) I2 a2 (k2 f _ fH fun m => nb (a1.b.st f m)) (k2 c' _ cH fun m => nbc (a1.b.st c' m)) nb hout nq rv dv2 h2⟩
end
end Mi
section
set_option maxHeartbeats 1000000
namespace Mi
open PySem PySem.Spec PyProof.Rows L2

/-! ### the end of a list's iterator while an exception is handled -/
theorem next_end_hot {prog : Program} {w : World} {A : Around} {E : Value → Shared → Prop} {s : Shared} {it l x1 : Addr} {j : Nat} {items : Array Value} {Q : Option Value → Shared → Prop} (hot : HotX.HotAt A x1 s.heap) (hne : x1 ≠ it)
    (hit : s.heap.IsListIter it l j) (hl : s.heap.IsList l items) (hx : items[j]? = none) (hQ : ∀ h', (∀ b o, b ≠ it → s.heap.get? b = some o → h'.get? b = some o) → Q none { s with heap := h' }) : wpAny (model prog w) A (pyNext (.ref it)) Q E s := by
  obtain ⟨o, ho, hc, hd⟩ := id hit
  obtain ⟨ol, hol, _, nl, hdl⟩ := hl
  obtain ⟨hh, o1, vs1, h1, d1, c1⟩ := hot
  unfold pyNext
  refine wpAny_bind (wpAny_attempt (wpAny_callSpecial?_slot (name := Str.ofString "__next__") hit.typeIs slot_listiter_next (wpAny_call_entry slot_listiter_next hit.typeIs entry_listiter_next ?_ (args_listiter_next _))))
  show wpAny _ _ (do let q ← field (.ref it) 0; _) _ _ s
  refine wpAny_bind (wpAny_field ho hd (x := .ref l) rfl (show wpAny _ _ (ite ((Value.ref l == Value.none) = true) _ _) _ _ s from ?_))
  rw [if_neg (by simp)]
  show wpAny _ _ (do let q ← field (.ref it) 1; _) _ _ s
  refine wpAny_bind (wpAny_field ho hd (x := .int j 0) rfl (wpAny_bind (wpAny_seqItems hol hdl ?_)))
  simp only [Int.toNat_natCast, hx]
  refine wpAny_bind (wpAny_rule (wpAny_bind (wpAny_setField ho hd (by simp) (show wpAny _ _ (do let q ← newExc (.type "StopIteration") []; _) _ _ _ from wpAny_bind ?_))))
  simp only [newExc, newTuple]
  refine wpAny_bind (wpAny_newObj_type (wpAny_bind (m := firstArgMember _ _) (wpAny_of_eq (a := Value.none) (by first | rfl | (simp only [firstArgMember]; rfl)) (wpAny_newObj_type ?_ (by size_fits)))) (by size_fits))
  have old1 : ∀ b u, b ≠ it → s.heap.get? b = some u → (s.heap.update it (Obj.mapFields (·.setIfInBounds 0 .none))).get? b = some u := fun b u n e => (Heap.get?_update_other _ _ (Ne.symm n)).trans e
  refine HotX.raiseNew_hot ⟨hh, o1, vs1, Heap.get?_push_of_some _ (Heap.get?_push_of_some _ (old1 _ _ hne h1)), d1, c1⟩ (Nat.ne_of_lt (Heap.lt_size (Heap.get?_push_of_some _ (old1 _ _ hne h1)))) (Heap.get?_push_size _ rfl) rfl (by first | (simp; done) | (simp; omega) | (simp only [Array.size_append]; simp; omega)) ?_
  refine wpAny_bind (wpAny_isInstance (T := "StopIteration") (b := true) ⟨_, Heap.get?_update_self _ (Heap.get?_push_size _ rfl) rfl, rfl⟩ isSubtype_stop (wpAny_pure (hQ _ fun b u n e => ?_)))
  rw [Heap.get?_update_other _ _ (Nat.ne_of_gt (Heap.lt_size (Heap.get?_push_of_some _ (old1 b u n e))))]
  exact Heap.get?_push_of_some _ (Heap.get?_push_of_some _ (old1 b u n e))

/-! ### a comprehension over a list while an exception is handled -/
/-- Wv: what stands ahead of each turn, the new list at Dq within -/
def tLh (K : PySem.W.Frag) (i : Nat) (t1 : TE) (tt : TT) (te : TE) : TE := fun σ H Q => t1 σ H fun v H1 => ∃ a xs, v = .ref a ∧ SqL K H1 a xs ∧ ∀ Dq, H1 Dq = none → ∃ Wv : Nat → Hp → Prop, Wv 0 (upd H1 Dq (.lst [])) ∧ (∀ j H', Wv j H' → SqL K H' a xs) ∧ (∀ H', Wv xs.length H' → Q (.ref Dq) H') ∧
  ∀ j y H', xs[j]? = some y → Wv j H' → tt ((σ.set i none).set i (some y)) H' fun b H3 => if b = true then te ((σ.set i none).set i (some y)) H3 fun z H4 => ∃ acc, H4 Dq = some (.lst acc) ∧ acc.length < sizeLine ∧ Wv (j + 1) (upd H4 Dq (.lst (acc ++ [z]))) else Wv (j + 1) H3
theorem lc_hot {X : Cx} {elt iter : Expr} {ifs : List Expr} {scope : Scope} {x : Str} {px pos : Pos} {i : Nat} {t1 te : TE} {tt : TT} (hc : L2H.HotC X) (hN : X.N.Nodup) (p1 : PE X iter t1) (ok : BlkOk X.N X.env.scope scope [(x, i)])
    (hg : ∀ (s : Shared) (H : Hp) (C : Addr) (cl : List (Str × Addr)) (fp : List Addr), PG (X.blk s H scope (compEnvC scope cl C X.env) fp) (.Name x px) (gName i))
    (ht : ∀ (s : Shared) (H : Hp) (C : Addr) (cl : List (Str × Addr)) (fp : List Addr), PTs (X.blk s H scope (compEnvC scope cl C X.env) fp) ifs tt)
    (he : ∀ (s : Shared) (H : Hp) (C : Addr) (cl : List (Str × Addr)) (fp : List Addr), PE (X.blk s H scope (compEnvC scope cl C X.env) fp) elt te) (hs : ∀ x, foldedSetIterable iter X.env x = pure x := by intro _; rfl) :
    PE X (.ListComp elt [⟨.Name x px, iter, ifs, 0⟩] scope pos) (tLh X.K i t1 tt te) := by
  refine ⟨fun pins s σ H Q I h => ?_⟩
  obtain ⟨p, ⟨hh, v1, dp, cp⟩, hp⟩ := hc
  rw [eval_ListComp]
  have clo := closure_ok (scope := scope) (env := X.env) fun y hy e => (ok.free y hy e).elim (fun k => I.ok.has _ (.inl k)) fun k => I.ok.has _ (.inr k)
  refine wpAny_comprehension_free (use := none) rfl hs clo ok.kind (fun y hy e => e ▸ ok.uniq y hy) (thn (p1.run pins s σ H _ I h) fun v s1 h1 => ?_)
  obtain ⟨v', H1, I1, r1, a, xs, rfl, hq, go⟩ := h1
  cases r1
  obtain ⟨its0, rv0, pl0, _⟩ := I1.list hq
  refine wpAny_pyIter_list pl0.isList (wpAny_newObj_type (newEnv_comp ?_) (by show 0 ≤ sizeLine; decide))
  -- the iterator, the new list
  generalize hit : s1.heap.objs.size = it
  generalize hh2 : s1.heap.push { cls := Value.type "list_iterator", data := .fields #[.ref a, .int 0 0] } = h2
  have k2 : ∀ b o, s1.heap.get? b = some o → h2.get? b = some o := fun b o e => by
    rw [← hh2]
    exact Heap.get?_push_of_some _ e
  have z2 : h2.objs.size = it + 1 := by rw [← hh2, Heap.size_push, hit]
  have i2 : h2.IsListIter it a 0 := by
    rw [← hh2, ← hit]
    exact ⟨_, Heap.get?_push_size _ rfl, rfl, rfl⟩
  generalize hDq : h2.objs.size = Dq
  have nD : H1 Dq = none := I1.hok.fresh (by rw [← hDq, z2, ← hit]; exact Nat.le_succ _)
  obtain ⟨Wv, w0, wl, wq, wt⟩ := go Dq nD
  generalize hh3 : h2.push { cls := Value.type "list", data := .seq ([] : List Value).toArray } = h3
  have k3 : ∀ b o, s1.heap.get? b = some o → h3.get? b = some o := fun b o e => by
    rw [← hh3]
    exact Heap.get?_push_of_some _ (k2 b o e)
  have i3 : h3.IsListIter it a 0 := i2.at fun o e => by
    rw [← hh3]
    exact Heap.get?_push_of_some _ e
  have z3 : h3.objs.size = it + 2 := by rw [← hh3, Heap.size_push, z2]
  have I3 : Inv X pins σ (upd H1 Dq (.lst [])) { s1 with heap := h3 } := I1.laid (t' := s1.toks) k3 (by rw [← hDq, z2, ← hit]; exact Nat.le_succ _) ⟨Nat.zero_le _, [], 0, .nil, by
    rw [← hh3, ← hDq]
    exact Heap.get?_push_size _ rfl⟩
  have nI : it ≠ Dq := by rw [← hDq, z2]; exact Nat.ne_of_lt (Nat.lt_succ_self _)
  have fI : FpOk X pins (upd H1 Dq (.lst [])) it := by
    have q := I1.fpOk (b := it) (Nat.le_of_eq hit) (I1.hok.fresh (Nat.le_of_eq hit))
    exact ⟨by rw [upd_ne nI]; exact q.1, q.2⟩
  have f3 : ∀ b ∈ [it], FpOk X pins (upd H1 Dq (.lst [])) b ∧ b < h3.objs.size := fun b hb => by
    obtain rfl : b = it := by simpa using hb
    exact ⟨fI, by rw [z3]; exact Nat.lt_of_lt_of_le (Nat.lt_succ_self _) (Nat.le_succ _)⟩
  have I4 := block_start I3 ok hN f3
  have pg := hg { s1 with heap := h3 } (upd H1 Dq (.lst [])) h3.objs.size (cellsFrom (h3.objs.size + 1) scope.names (cloFrom X.env.cells scope.names [])) [it]
  have pt := ht { s1 with heap := h3 } (upd H1 Dq (.lst [])) h3.objs.size (cellsFrom (h3.objs.size + 1) scope.names (cloFrom X.env.cells scope.names [])) [it]
  have pe := he { s1 with heap := h3 } (upd H1 Dq (.lst [])) h3.objs.size (cellsFrom (h3.objs.size + 1) scope.names (cloFrom X.env.cells scope.names [])) [it]
  have P3 := I3.pin p (List.mem_append_left _ hp)
  show codeAny _ _ (.compStart (.ListComp elt [⟨.Name x px, iter, ifs, 0⟩] scope pos) 0 (.ref it) (.ref Dq) (compEnvC scope (cellsFrom (h3.objs.size + 1) scope.names (cloFrom X.env.cells scope.names [])) h3.objs.size X.env)) (compPost (model X.prog X.w) X.A X.xe none _ (.ref Dq) h3.objs.size) { s1 with heap := pushCells (h3.push { cls := .type "dict", data := .dict #[] }) scope.names }
  generalize hce : compEnvC scope (cellsFrom (h3.objs.size + 1) scope.names (cloFrom X.env.cells scope.names [])) h3.objs.size X.env = ce at I4 pg pt pe ⊢
  have cL : ce.locals = h3.objs.size := by rw [← hce]; rfl
  have I5 : Inv (X.blk { s1 with heap := h3 } (upd H1 Dq (.lst [])) scope ce [it]) [p] (σ.set i none) (upd H1 Dq (.lst [])) { s1 with heap := pushCells (h3.push { cls := .type "dict", data := .dict #[] }) scope.names } := I4.pins_of fun q hq => by
    obtain rfl : q = p := by simpa using hq
    refine ⟨pushCells_keeps _ _ _ _ (Heap.get?_push_of_some _ P3.1), P3.2.1, ?_, fun z => ?_, P3.2.2.2.2⟩
    · show q.1 ≠ ce.locals
      rw [cL]
      exact Nat.ne_of_lt (Heap.lt_size P3.1)
    · rcases List.mem_cons.mp (I3.stkSub q.1 z) with z | z
      · exact P3.2.2.1 z
      · exact P3.2.2.2.1 z
  have i5 : (pushCells (h3.push { cls := .type "dict", data := .dict #[] }) scope.names).IsListIter it a 0 := i3.at fun o e => pushCells_keeps _ _ _ _ (Heap.get?_push_of_some _ e)
  generalize hs5 : ({ s1 with heap := pushCells (h3.push { cls := .type "dict", data := .dict #[] }) scope.names } : Shared) = s5 at I5 ⊢
  replace i5 : s5.heap.IsListIter it a 0 := by rw [← hs5]; exact i5
  have npi : p.1 ≠ it := fI.2.2.2.2.2 p (List.mem_append_left _ hp)
  -- the iterator's object, and p, are out of reach
  have stat : ∀ {σ' : L2.St} {H' : Hp} {s' : Shared}, Inv (X.blk { s1 with heap := h3 } (upd H1 Dq (.lst [])) scope ce [it]) [p] σ' H' s' → H' it = none → FpOk (X.blk { s1 with heap := h3 } (upd H1 Dq (.lst [])) scope ce [it]) [p] H' it := fun {σ' H' s'} I' n =>
    ⟨n, (I'.ok.exf it List.mem_cons_self).1, I'.ok.exfs it List.mem_cons_self, .inl List.mem_cons_self, fun y c e => (I'.ok.exf it List.mem_cons_self).2 y c e, fun q hq => by
      obtain rfl : q = p := by simpa using (show q ∈ ([] : List (Addr × Obj)) ++ [p] from hq)
      exact npi⟩
  have loop : codeAny (model X.prog X.w) X.A (.compLoop (.ListComp elt [⟨.Name x px, iter, ifs, 0⟩] scope pos) 0 (.ref it) (.ref Dq) ce) (compPost (model X.prog X.w) X.A X.xe none (fun u s' => ∃ v H', Inv X pins σ H' s' ∧ RelV v u ∧ Q v H') (.ref Dq) h3.objs.size) s5 := by
    refine compLoop_any (fun n s' => ∃ j H', n = xs.length - j ∧ j ≤ xs.length ∧ Inv (X.blk { s1 with heap := h3 } (upd H1 Dq (.lst [])) scope ce [it]) [p] (σ.set i none) H' s' ∧ s'.heap.IsListIter it a j ∧ H' it = none ∧ Wv j H') ?_ xs.length ⟨0, _, rfl, Nat.zero_le _, I5, i5, fI.1, w0⟩
    rintro n s6 ⟨j, H6, rfl, hj, I6, i6, n6, w6⟩
    obtain ⟨its, rv, pl, _⟩ := I6.list (wl j H6 w6)
    obtain ⟨f0, f1, f2, f4, f5, f6⟩ := stat I6 n6
    by_cases hlt : j < xs.length
    · have hx : xs[j]? = some xs[j] := List.getElem?_eq_getElem hlt
      obtain ⟨u, hu, ru⟩ := rv.get hx
      refine wpAny_pyNext_list_item i6 pl.isList (x := u) (by simpa using hu) fun h7 i7 sb => ?_
      have I7 : Inv (X.blk { s1 with heap := h3 } (upd H1 Dq (.lst [])) scope ce [it]) [p] (σ.set i none) H6 { s6 with heap := h7 } := I6.turned (t' := s6.toks) (fun b o hb e => (sb.2 b hb).trans e) f0 f1 f4 f5 f6
      obtain ⟨o7, e7, c7, d7⟩ := id i7
      refine go_of (s := { s6 with heap := h7 }) e7 c7 d7 (by decide) ?_
      have I7' := I7.pinned (fp := [it]) (fun b hb => by
        obtain rfl : b = it := by simpa using hb
        exact stat I7 n6) fun b hb => ⟨o7, by
          obtain rfl : b = it := by simpa using hb
          exact e7, fun v z => by rw [d7] at z; cases z⟩
      have hm : (it, o7) ∈ pinsAt [it] h7 := mem_pinsAt List.mem_cons_self e7
      refine thnF (pg.run _ _ _ H6 xs[j] u (fun σ' H' => σ' = (σ.set i none).set i (some xs[j]) ∧ H' = H6) I7' ru ⟨rfl, rfl⟩) fun _ s8 ⟨σ8, H8, I8, e8, e8'⟩ => ?_
      subst e8 e8'
      -- a turn's end
      have fin : ∀ {s' : Shared} {H' : Hp}, Inv (X.blk { s1 with heap := h3 } (upd H1 Dq (.lst [])) scope ce [it]) ([p] ++ pinsAt [it] h7) ((σ.set i none).set i (some xs[j])) H' s' → Wv (j + 1) H' → ∃ m, m < xs.length - j ∧ ∃ j H', m = xs.length - j ∧ j ≤ xs.length ∧ Inv (X.blk { s1 with heap := h3 } (upd H1 Dq (.lst [])) scope ce [it]) [p] (σ.set i none) H' s' ∧ s'.heap.IsListIter it a j ∧ H' it = none ∧ Wv j H' := fun {s' H'} J w => by
        have z := J.pin (it, o7) (List.mem_append_right _ (List.mem_append_right _ hm))
        refine ⟨xs.length - (j + 1), by omega, j + 1, H', rfl, hlt, (J.unpinned (pins := [p])).weak (by simp) (fun q v e => ?_), i7.at fun o e => (by rw [e7] at e; cases e; exact z.1), z.2.1, w⟩
        by_cases hq : i = q
        · subst hq
          have hl := (List.getElem?_eq_some_iff.mp e).1
          rw [List.getElem?_set_self (by simpa using hl)] at e
          cases e
        · rw [List.getElem?_set_ne hq, ← e]
      refine thnF (pt.run _ s8 _ H8 _ I8 (wt j xs[j] H8 hx w6)) fun b s9 ⟨H9, I9, q9⟩ => ?_
      cases b with
      | false =>
        rw [if_neg (by simp)] at q9 ⊢
        exact fin I9 q9
      | true =>
        rw [if_pos rfl] at q9 ⊢
        refine thnF (pe.run _ s9 _ H9 _ I9 q9) fun zu s10 ⟨yv, H10, I10, r10, acc, hD, hz, nx⟩ => ?_
        exact app_ok (X := X.blk { s1 with heap := h3 } (upd H1 Dq (.lst [])) scope ce [it]) I10 hD hz r10 fun s11 I11 => fin I11 nx
    · obtain rfl : j = xs.length := by omega
      have P6 := I6.pin p (List.mem_append_right _ List.mem_cons_self)
      refine next_end_hot (x1 := p.1) ⟨hh, p.2, v1, P6.1, dp, cp⟩ npi i6 pl.isList (by simp [rv.length]) fun h7 k7 => ?_
      have I7 : Inv (X.blk { s1 with heap := h3 } (upd H1 Dq (.lst [])) scope ce [it]) [p] (σ.set i none) H6 { s6 with heap := h7 } := I6.turned (t' := s6.toks) (fun b o hb e => k7 b o hb e) f0 f1 f4 f5 f6
      have I8 : Inv X pins σ H6 { s6 with heap := h7 } := I3.call' (ch := [it]) I7.os I7.base I7.hok I7.bare fun b hb => by
        obtain rfl : b = it := by simpa using hb
        exact ⟨fI.2.2.2.1, fI.2.1, fI.2.2.2.2.1, fI.2.2.2.2.2⟩
      have nC : H6 h3.objs.size = none := by rw [← cL]; exact I7.free
      obtain ⟨m, hn, _⟩ := I7.loc
      refine ⟨m, (by rw [← cL]; exact hn), fun h8 sb8 => ⟨.ref Dq, H6, ?_, rfl, wq H6 w6⟩⟩
      obtain ⟨g0, g1, g2, g4, g5, g6⟩ := I3.fpOk (b := h3.objs.size) (Nat.le_refl _) nC
      exact I8.turned (t' := s6.toks) (fun b o hb e => (sb8.2 b hb).trans e) g0 g1 g4 g5 g6
  exact codeAny_compStart_list loop (wpAny_pyIter_listiter i5 loop)
end Mi
end
namespace Mi
open PySem PySem.Spec PyProof.Rows L2
/-- [F for x in F1 if T], F1 a list -/
def eLcL (i : Nat) (F1 : FE) (T : FT) (F : FE) : FE := fun δ s => rb (F1 δ s) fun d s1 => match d with
  | .lst ds => lcF i T F ds [] (δ.set i .u) s1
  | _ => .stuck
section
variable {X : Cx} {st : Sto} {E E0 : XK} {F1 F : FE} {T : FT} {x : Str} {p pos : Pos}
theorem ed_lcH (i : Nat) {elt iter : Expr} {ifs : List Expr} {scope : Scope} (hc : L2H.HotC X) (hN : X.N.Nodup) (h1 : ED X st E iter F1) (ok : BlkOk X.N X.env.scope scope [(x, i)])
    (hg : ∀ (s : Shared) (H : Hp) (C : Addr) (cl : List (Str × Addr)) (fp : List Addr), PG (X.blk s H scope (compEnvC scope cl C X.env) fp) (.Name x p) (gName i))
    (ht : ∀ (s : Shared) (H : Hp) (C : Addr) (cl : List (Str × Addr)) (fp : List Addr), TDs (X.blk s H scope (compEnvC scope cl C X.env) fp) st E0 ifs T)
    (he : ∀ (s : Shared) (H : Hp) (C : Addr) (cl : List (Str × Addr)) (fp : List Addr), ED (X.blk s H scope (compEnvC scope cl C X.env) fp) st E0 elt F) (hs : ∀ x, foldedSetIterable iter X.env x = pure x := by intro _; rfl) :
    ED X st E (.ListComp elt [⟨.Name x p, iter, ifs, 0⟩] scope pos) (eLcL i F1 T F) := by
  obtain ⟨t1, p1, r1⟩ := h1
  refine ⟨_, pe_plus (lc_hot (i := i) (tt := tCanT (cf X st) E0 T) (te := tCan (cf X st) E0 F) hc hN p1 ok hg (fun s H C cl fp => ht s H C cl fp) (fun s H C cl fp => (he s H C cl fp).can) hs), fun σ δ B H s Q a h => ?_⟩
  refine r1 σ δ B H s _ a (Post.seq h fun d s1 v H1 kf k hs1 dv h => ?_)
  have a1 := a.keep kf k hs1
  split at h
  case h_2 => exact False.elim h
  rename_i ds
  obtain ⟨q, xs, rfl, nb, h2, h3⟩ := dv
  have hlen := h3.length
  refine ⟨q, xs, rfl, h2, fun Dq nD => ?_⟩
  have nst : ¬ (cf X st).Mut Dq := fun z => hs1.mut z nD
  have nca : ∀ b, (cf X st).st = some b → (cf X st).ca ≠ Dq := fun b z q => by
    have := (hs1.store b z).2.1
    rw [q, nD] at this
    cases this
  have nB : ¬ B Dq := a1.b.fresh nD
  refine ⟨fun j H' => ∃ s' acc vs, HS (cf X st) H' s' ∧ Keeps (cf X st) H1 H' ∧ H' Dq = some (.lst vs) ∧ DVs (cf X st) acc (fun b => B b ∨ b = Dq) H' vs ∧ Post (cf X st) (relD (cf X st) B) (lcF i T F (ds.drop j) acc (δ.set i .u) s') H1 (fun v H'' => (∀ (a : Addr), H'' a ≠ none → X.K.lookup a = none) → Q v H'') E,
    ⟨s1, [], [], hs1.new nD, Keeps.new nD, upd_same, rfl, ?_⟩, fun j H' ⟨s', acc, vs, hs', k', _⟩ => (sql_grow (a1.b.grow k') nb h2).1, fun H' ⟨s', acc, vs, hs', k', hD, dacc, h'⟩ kf' => ?_, ?_⟩
  · cases e : lcF i T F (List.drop 0 ds) [] (List.set δ i SV.u) s1 with
    | ok d s2 =>
      rw [List.drop_zero] at e
      rw [e] at h
      exact fun v H2 kf2 k2 hs2 r2 _ => h v H2 kf2 k2 hs2 r2
    | err y q s2 =>
      rw [List.drop_zero] at e
      rw [e] at h
      exact h
    | stuck =>
      rw [List.drop_zero] at e
      rw [e] at h
      exact h
  · rw [hlen, List.drop_length] at h'
    exact h' (.ref Dq) H' kf' k' hs' ⟨Dq, vs, rfl, nB, .inl (.inl hD), DVs.grow ⟨fun _ _ z _ => z, fun b z => .inl (a1.b.st b z), fun b z => .inl (.inl z)⟩ acc vs dacc⟩ kf'
  rintro j y H'' hy ⟨s', acc, vs, hs', k', hD, dacc, h'⟩
  have hlt : j < ds.length := by rw [← hlen]; exact (List.getElem?_eq_some_iff.mp hy).1
  obtain ⟨y', hy', dy⟩ := dvs_at h3 (List.getElem?_eq_getElem hlt)
  rw [hy] at hy'
  obtain rfl := Option.some.inj hy'
  rw [List.drop_eq_getElem_cons hlt] at h'
  intro kf2
  have gB : Grow (cf X st) B H1 B H'' := a1.b.grow k'
  -- under what is known of the written part
  have kD : (cf X st).K.lookup Dq = none := kf2 Dq (by rw [hD]; simp)
  have gD : Grow (cf X st) B H1 (fun b => B b ∨ b = Dq) H'' := ⟨gB.keep, a1.b.st, fun b z => by
    rcases z with z | rfl
    · exact .inl z
    · exact .inr ⟨nD, kD⟩⟩
  have dvx : DV (cf X st) ds[j] (fun b => B b ∨ b = Dq) H'' y := DV.grow gD _ _ dy
  have bD : ∀ {H2 : Hp} {s2 : S}, KF (cf X st) H2 → Keeps (cf X st) H1 H2 → HS (cf X st) H2 s2 → (∃ xs, H2 Dq = some (.lst xs)) → BOk (cf X st) H2 (fun b => B b ∨ b = Dq) := fun {H2 s2} q1 q2 q3 q4 => by
    have b1 := a1.b.keep q1 q2 q3
    exact ⟨fun b z => z.elim (b1.kind b) fun z => by rw [z]; exact .inl q4, fun b z => .inl (b1.st b z), fun b z => .inl (b1.ca b z), q1⟩
  have sl : Sl (cf X st) (fun b => B b ∨ b = Dq) H'' ((σ.set i none).set i (some y)) ((δ.set i .u).set i (.d ds[j])) := fun q d e => by
    rcases set_get e with ⟨rfl, z⟩ | ⟨hne, z⟩
    · cases z
      have hl : q < σ.length := by
        have h1 := (List.getElem?_eq_some_iff.mp e).1
        rw [List.length_set, List.length_set, ← a1.len] at h1
        exact h1
      exact ⟨y, by rw [List.getElem?_set_self (by rw [List.length_set]; exact hl)], dvx⟩
    · rcases set_get z with ⟨_, z⟩ | ⟨_, z⟩
      · cases z
      · obtain ⟨v, h1, h2⟩ := a1.sl q d z
        exact ⟨v, by rw [List.getElem?_set_ne (Ne.symm hne), List.getElem?_set_ne (Ne.symm hne)]; exact h1, DV.grow gD d v h2⟩
  have a2 : At (cf X st) (fun b => B b ∨ b = Dq) H'' s' ((σ.set i none).set i (some y)) ((δ.set i .u).set i (.d ds[j])) := ⟨bD kf2 k' hs' ⟨_, hD⟩, hs', sl, by rw [List.length_set, List.length_set, List.length_set, List.length_set, a1.len]⟩
  unfold lcF at h'
  refine ⟨_, _, s', a2, ?_⟩
  cases eT : T ((δ.set i .u).set i (.d ds[j])) s' with
  | stuck =>
    rw [eT] at h'
    exact False.elim h'
  | err y q s2 =>
    rw [eT] at h'
    exact False.elim h'
  | ok bb s2 =>
    rw [eT] at h'
    intro b2 H3 kf3 k3 hs3 e3
    obtain rfl : b2 = bb := e3
    have hD3 : H3 Dq = some (.lst vs) := k3 _ _ hD nst
    have dacc3 := DVs.grow (a2.b.grow k3) acc vs dacc
    cases b2 with
    | false => exact ⟨s2, acc, vs, hs3, k'.trans k3, hD3, dacc3, h'⟩
    | true =>
      have a3 := a2.keep kf3 k3 hs3
      intro _
      refine ⟨_, _, s2, a3, ?_⟩
      cases eF : F ((δ.set i .u).set i (.d ds[j])) s2 with
      | stuck =>
        simp only [eF] at h'
        exact False.elim h'
      | err y q s4 =>
        simp only [eF] at h'
        exact False.elim h'
      | ok y s4 =>
        simp only [eF] at h'
        intro v H4 kf4 k4 hs4 dv4
        split at h'
        · rename_i hacc
          have hD4 : H4 Dq = some (.lst vs) := k4 _ _ hD3 nst
          have dacc4 := DVs.grow (a3.b.grow k4) acc vs dacc3
          have gU : Grow (cf X st) (fun b => B b ∨ b = Dq) H4 (fun b => B b ∨ b = Dq) (upd H4 Dq (.lst (vs ++ [v]))) := ⟨fun b o z n => (by rw [upd_ne (fun q => n (.inr q))]; exact z), fun b z => .inl (a1.b.st b z), fun _ z => .inl z⟩
          have kk : Keeps (cf X st) H1 (upd H4 Dq (.lst (vs ++ [v]))) := fun b o z n => by
            rw [upd_ne (ne_of_none z nD)]
            exact ((k'.trans k3).trans k4) b o z n
          refine ⟨vs, hD4, size5' (by rw [dacc4.length]; exact hacc), s4, acc ++ [y], vs ++ [v], hs4.other hD4 nst nca, kk, upd_same, DVs.grow gU _ _ (dacc4.append ⟨v, [], rfl, dv4, rfl⟩), h'⟩
        · exact False.elim h'
end
end Mi
namespace Mi
open PySem PySem.Spec PyProof.Rows L2
structure IsTab (K : PySem.W.Frag) (mg : Str → Option Value) : Prop where
  own : ∀ x C, errN x = true → mg x = some (.ref C) → ExcC K C
  rel : ∀ x y b C C2, isE x y = some b → mg x = some (.ref C) → mg y = some (.ref C2) → PySem.W.kitOne K (.ref C) (.ref C2) = some b
  exm : ∀ x y b C C2, isE x y = some b → mg x = some (.ref C) → mg y = some (.ref C2) → PySem.W.exmOne K (.ref C) (.ref C2) = some b
  val : ∀ x C, errN x = true → mg x = some (.ref C) → PySem.W.kitOne K (.ref C) (.type "ValueError") = some true
/-- the error that is handled: its object stands, out of reach -/
def HotE (X : Cx) (st : Sto) : Prop := ∀ a x, st.ex = some (a, x) → ∃ oe C, (a, oe) ∈ X.pn ∧ X.mg x = some (.ref C) ∧ L2N.Zn (.ref C) none oe ∧ ∃ vs, oe.data = .fields vs
def gIsiE : List D → Option D
  | [.exc x, .cls y] => (isE x y).map .bl
  | [.exc x, .ty n] => if errN x = true ∧ n = "ValueError" then some (.bl true) else none
  | _ => none
/-- isinstance(e, c), e the error that is handled -/
def rIsX (X : Cx) : List V → Hp → VK → Prop := fun xs H Q => ∃ (a : Addr) (oe : Obj) (C : Addr) (c : V) (cv : Value) (b : Bool), xs = [.ref a, c] ∧ (a, oe) ∈ X.pn ∧ L2N.Zn (.ref C) none oe ∧ (∃ vs, oe.data = .fields vs) ∧ ExcC X.K C ∧ (∀ u, RelV c u → u = cv) ∧ PySem.W.kitOne X.K (.ref C) cv = some b ∧ Q (.bl b) H
theorem call_isX {X : Cx} : CallR X (.builtin "isinstance") (rIsX X) := by
  rintro pins s σ H xs us Q I r ⟨a, ⟨oc, od, dt, sl⟩, C, c, cv, b, rfl, hp, ⟨z1, z2, _⟩, ⟨vs, hv⟩, EC, hcv, e, q⟩
  dsimp only at z1 z2 hv
  subst z1 z2 hv
  obtain ⟨u1, r1, rfl, q1, r2⟩ : ∃ u1 r1, us = u1 :: r1 ∧ RelV (.ref a) u1 ∧ Vals [c] r1 := by cases r; exact ⟨_, _, rfl, ‹_›, ‹_›⟩
  obtain ⟨u2, rfl, q2⟩ : ∃ u2, r1 = [u2] ∧ RelV c u2 := by
    cases r2 with
    | cons x y =>
      cases y
      exact ⟨_, rfl, x⟩
  obtain rfl : u1 = Value.ref a := q1
  obtain rfl := hcv _ q2
  exact PySem.W.kia_one (PySem.W.handS_kitx_exc EC.hg EC.hk EC.hs EC.hd EC.ha EC.hn EC.ht EC.hm) I.kIn (H := fun h => PySem.W.InstAt h a _ C none) ⟨(I.pin _ (List.mem_append_left _ hp)).1, rfl, rfl, trivial⟩ e (fun z => nomatch z) fun tk => ⟨.bl b, H, I.kept (t' := tk) fun _ _ z => z, rfl, q⟩
section
variable {X : Cx} {st : Sto} {E : XK} {pos : Pos}
theorem cd_isiE (hx : HotE X st) (T : IsTab X.K X.mg) : CallD X st (.builtin "isinstance") gIsiE := by
  refine ⟨_, call_isX, fun B H s vs ds d3 Q b hs h1 e h => ?_⟩
  unfold gIsiE at e
  split at e
  · rename_i x y
    obtain ⟨v, w, rfl, ⟨a, ea, rfl⟩, C2, m2, rfl⟩ := dvs2 h1
    obtain ⟨k, e1, rfl⟩ := Option.map_eq_some_iff.mp e
    obtain ⟨oe, C, hp, mC, hz, hf⟩ := hx a x ea
    have ex : errN x = true := by
      unfold isE at e1
      split at e1
      · rename_i q
        rw [Bool.and_eq_true] at q
        exact q.1
      · cases e1
    exact ⟨a, oe, C, .ref C2, .ref C2, k, rfl, hp, hz, hf, T.own x C ex mC, fun u r => r, T.rel x y k C C2 e1 mC m2, h _ H (Keeps.refl _ H) hs rfl⟩
  · rename_i x n
    split at e
    · rename_i q
      obtain rfl := Option.some.inj e
      obtain ⟨v, w, rfl, ⟨a, ea, rfl⟩, hw⟩ := dvs2 h1
      obtain ⟨oe, C, hp, mC, hz, hf⟩ := hx a x ea
      obtain ⟨ex, rfl⟩ := q
      obtain rfl : w = .ty "ValueError" := hw
      exact ⟨a, oe, C, _, .type "ValueError", true, rfl, hp, hz, hf, T.own x C ex mC, fun u r => r, T.val x C ex mC, h _ H (Keeps.refl _ H) hs rfl⟩
    · cases e
  · cases e
/-- an own class as a value -/
theorem ed_cls {x : Str} (hm : ∃ C, X.mg x = some (.ref C)) (hg : Gl X x := by rfl) (hd : (x == ("__debug__" : Str)) = false := by decide) : ED X st E (.Name x pos) (eC (.cls x)) := by
  obtain ⟨C, hm⟩ := hm
  exact ed_glob (v := .ref C) hg hm rfl (fun B H b => ⟨C, hm, rfl⟩) hd
end
end Mi
section
set_option maxHeartbeats 1000000
namespace Mi
open PySem PySem.Spec PyProof.Rows L2

/-! ### the call of a lambda that a slot holds -/
def tThk (P : Program) (w : World) (K : PySem.W.Frag) (mg : Str → Option Value) (base : Heap) (i : Nat) (W : WX) : TE := fun σ H Q => ∃ (f : Addr) (oc : Value) (od : Option Addr) (fd : FuncData) (sl : Array (Option Value)), σ[i]? = some (some (.ref f)) ∧ H f = some (objH f ⟨oc, od, .func fd, sl⟩) ∧
  ∀ (A : Around) (outer : List Env) (sh : Shared), Room 60 A → Env0 P w K mg base A outer sh H → codeAny (model P w) A (.call (.ref f) ⟨[], []⟩) (CR (L2N.CX P w) outer P w H sh Q (WE W σ)) sh
theorem pe_thk {X : Cx} {i : Nat} {a : Str} {p1 p2 : Pos} {W : WX} (tk : L2N.Takes X W) (hr : Room 60 X.A) (hN : X.N[i]? = some a) (hv : Vis X.env.scope a) (hd : (a == ("__debug__" : Str)) = false := by decide) (hcd : (a == ("__classdict__" : Str)) = false := by decide) :
    PE X (.Call (.Name a p1) [] [] p2) (tThk X.prog X.w X.K X.mg X.base i W) := by
  refine ⟨fun pins s σ H Q I ⟨f, oc, od, fd, sl, hs, ho, run⟩ => ?_⟩
  refine wpAny_Call_Name_kw (thn ((pe_var (pos := p1) hN hv hd hcd).run pins s σ H (fun v H1 => v = .ref f ∧ H1 = H) I ⟨.ref f, hs, rfl, rfl⟩) fun u s1 ⟨v, H1, I1, r1, e1, e2⟩ => ?_)
  subst e1 e2
  obtain rfl : u = Value.ref f := r1
  have hget := objH_get I1.hok ho
  refine PySem.W.callWith_F0 ⟨oc, od, fd, sl, hget⟩ (wpAny_call (codeAny_mono (run X.A X.stack s1 hr I1.env0) fun r s2 hq => ?_))
  cases r with
  | error e => exact L2N.passAt tk σ pins _ s1 e s2 I1 hq
  | ok fl =>
    cases fl with
    | ret u => exact I1.after hq
    | next => exact hq.elim
    | brk => exact hq.elim
    | cont => exact hq.elim

/-! ### several except clauses, all with the one name -/
/-- the ends of a suite: the name goes -/
def endsN (n : Nat) (Dn : Ends) : Ends := { nx := fun σ H => Dn.nx (σ.set n none) H, rt := Dn.rt, bk := fun σ H => Dn.bk (σ.set n none) H, ct := fun σ H => Dn.ct (σ.set n none) H }
abbrev SuT := Addr → Value → Option Addr → TS
def wN (K : PySem.W.Frag) (Wout : WX) (Dn : Ends) (n : Nat) : List (Value × SuT) → WX
  | [] => Wout
  | (c, ts) :: r => fun cls d σ H => ∃ b, PySem.W.exmOne K cls c = some b ∧ (b = true → ∀ a, H a = none → ts a cls d (endsN n Dn) (σ.set n (some (.ref a))) H) ∧ (b = false → wN K Wout Dn n r cls d σ H)
inductive ClsOk (X : Cx) (nm : Str) : List ExceptHandler → List (Value × SuT) → Prop
  | nil : ClsOk X nm [] []
  | cons {x : Str} {c : Value} {ts : SuT} {b₀ : Stmt} {suite : List Stmt} {np pos' : Pos} {hds : List ExceptHandler} {l : List (Value × SuT)} (hc : Names X x c)
      (su : ∀ (a : Addr) (oe : Obj) (cls : Value) (d : Option Addr) (pn : List (Addr × Obj)), L2N.Zn cls d oe → (∃ vs, oe.data = .fields vs) → PSs (X.suite a ((a, oe) :: pn)) (b₀ :: suite) (ts a cls d)) (r : ClsOk X nm hds l) :
      ClsOk X nm (.ExceptHandler (some (.Name x np)) (some nm) (b₀ :: suite) pos' :: hds) ((c, ts) :: l)
theorem ps_tryN {X : Cx} {body : List Stmt} {h₀ : ExceptHandler} {hds : List ExceptHandler} {l : List (Value × SuT)} {pos : Pos} {tb : WX → TS} {Wout : WX} {n : Nat} {nm : Str} (hs : X.stack = X.env :: X.outer) (hf : X.env.frame = some X.env.locals) (hN : X.N.Nodup) (hi : X.N[n]? = some nm) (hln : X.env.kindOf nm = some .local)
    (tk : L2N.Takes X Wout) (hb : ∀ (W : WX) (pn : List (Addr × Obj)) (xe : Value → Shared → Prop), L2N.Takes (X.tr pn xe) W → PassesOwn (model X.prog X.w) X.A X.env xe → PSs (X.tr pn xe) body (tb W)) (hh : ClsOk X nm (h₀ :: hds) l) :
    PS X (.Try body (h₀ :: hds) [] [] pos) (fun Dn σ H => tb (wN X.K Wout Dn n l) Dn σ H) := by
  refine ⟨fun pins s σ H Dn I h => ?_⟩
  have ok := I.ok
  have hfr : X.A.frames = some (X.env :: X.outer) := by rw [ok.frames, hs]
  refine wpAny_Try_except (wpAny_mono ((hb (wN X.K Wout Dn n l) (X.pn ++ pins) _ (fun u s' xx => ?_) PassesOwn.looking).run [] s σ H Dn (I.toTry _) h) (fun f s1 hsp => ?_) fun _ _ he => he)
  · obtain ⟨a, B, sI, pins', σ', H', cls, d, rfl, J', nb, up, sky, na, os, ag, w⟩ := xx
    have J : Inv X pins σ' H' sI := J'.ofTry ok
    rw [hs] at sky
    show wpAny _ X.A (noteFrame (Value.ref a) X.env) _ _ _
    refine L2N.Sky.land L2N.Zn.steady hfr hf sky fun h3 fl3 up3 => ?_
    have J3 : Inv X pins σ' H' (Shared.mk h3 s'.gens s'.drawn s'.toks s'.os) := J.landed nb fl3.1 (up.trans up3) os ag
    obtain ⟨oe3, vs3, he3, hz3, hd3⟩ := fl3.there
    -- the error is no frame of ours
    have nfr : a ∉ frs (X.env :: X.outer) := fun hm => by
      obtain ⟨_, o', e', hnf⟩ := fl3.2.2.1.mem hm
      rw [he3] at e'
      cases e'
      exact hnf _ hd3
    have nL : a ≠ X.env.locals := fun z => nfr (List.mem_filterMap.mpr ⟨X.env, .head _, by rw [hf, z]⟩)
    have nF : a ∉ X.fs := fun hm => by
      obtain ⟨en, hen, q⟩ := List.mem_filterMap.mp hm
      exact nfr (List.mem_filterMap.mpr ⟨en, .tail _ hen, q⟩)
    have S3 := J3.suite he3 hd3 na nL nF
    have go : ∀ {hds' : List ExceptHandler} {l' : List (Value × SuT)}, ClsOk X nm hds' l' → wN X.K Wout Dn n l' cls d σ' H' → wpAny (model X.prog X.w) X.A (handleBy (.ref a) X.env hds') (SP X pins Dn) X.xe { s' with heap := h3 } := by
      intro hds' l' hk
      induction hk with
      | nil =>
        intro w
        obtain ⟨_, _, _, oe, vs, T, oT, ts', he, hz, hd, h1, hr⟩ := id fl3
        refine wpAny_handleBy_nil ?_
        unfold PySem.passOn
        refine wpAny_bind (wpAny_field he hd h1 ?_)
        rw [if_neg (by simp)]
        have fin : wpAny (model X.prog X.w) X.A (setFlight (.ref a) X.env.frame) (fun _ s4 => wpAny (model X.prog X.w) X.A (throw (.ref a) : Sem Flow) (SP X pins Dn) X.xe s4) X.xe { s' with heap := h3 } := by
          rw [hf]
          exact HandSPX.setFlight_upZ fl3 fun h4 hh4 up4 => wpAny_throw (tk _ _ ⟨a, B, sI, pins, σ', H', cls, d, rfl, J, nb, (up.trans up3).trans up4, .inr (.inr (by rw [hs]; exact hh4)), na, os, ag, w⟩)
        first
          | exact wpAny_bind (wpAny_pure (wpAny_bind fin))
          | exact wpAny_bind fin
      | @cons x c ts b₀ suite np pos' hds2 l2 hc su r ih =>
        rintro ⟨b, hb1, hyes, hno⟩
        refine wpAny_handleBy_cons (codeAny_handlers_test ?_) fun q => by cases q
        have LM := PySem.W.exm_one (M := model X.prog X.w) J3.kIn (fun A Q E s k q => wpAny_typeOf_ref (k _ _ he3) (by rw [hz3.1]; exact q)) hb1
        have test : ∀ {Q : Value → Shared → Prop} {E : Value → Shared → Prop}, Q c { s' with heap := h3 } → wpAny (model X.prog X.w) (X.A.mark (some (.ref a))) (eval (.Name x np) X.env) Q E { s' with heap := h3 } := fun {Q E} q => by
          obtain ⟨hg, hdb, hm | ⟨hm, hv, hnn⟩⟩ := hc
          · exact ld_glob S3 hg hm q hdb
          · exact ld_blt S3 hg hm hv q hnn hdb
        refine test (LM.here ?_)
        cases b with
        | false => exact ih (hno rfl)
        | true =>
          refine codeAny_handlers_suite_as (HandSPX.lands_againZ fl3 fun h4 fl4 up4 => ?_)
          obtain ⟨oe4, vs4, he4, hz4, hd4⟩ := fl4.there
          have J4 : Inv X pins σ' H' (Shared.mk h4 s'.gens s'.drawn s'.toks s'.os) := J.landed nb fl4.1 ((up.trans up3).trans up4) os ag
          have S4 := J4.suite he4 hd4 na nL nF
          refine store_ok (X := X.suite a ((a, oe4) :: (X.pn ++ pins))) (v := .ref a) S4 hN hi (.inl hln) rfl (fun s5 S5 => ?_) (.inr hln)
          have gone : ∀ {σ6 : L2.St} {H6 : Hp} {s6 : Shared} {Q : Shared → Prop}, Inv (X.suite a ((a, oe4) :: (X.pn ++ pins))) [] σ6 H6 s6 → (∀ s7, Inv X pins (σ6.set n none) H6 s7 → Q s7) → wpAny (model X.prog X.w) X.A (do bindName X.env nm .none; unbindBehindTheSuite X.env nm pos') (fun _ s7 => Q s7) X.xe s6 := fun S6 hq => gone_ok (S6.unsuite ok) hN hi hln hq
          refine wpAny_mono ((su a oe4 cls d (X.pn ++ pins) hz4 ⟨_, hd4⟩).run [] s5 _ H' _ S5 (hyes rfl a na)) (fun f s6 hsp => ?_) fun _ _ z => z.elim
          cases f with
          | ret u =>
            obtain ⟨v6, σ6, H6, S6, r6, q6⟩ := hsp
            exact gone S6 fun s7 J7 => ⟨v6, _, H6, J7, r6, q6⟩
          | next =>
            obtain ⟨σ6, H6, S6, q6⟩ := hsp
            exact gone S6 fun s7 J7 => ⟨_, H6, J7, q6⟩
          | brk =>
            obtain ⟨σ6, H6, S6, q6⟩ := hsp
            exact gone S6 fun s7 J7 => ⟨_, H6, J7, q6⟩
          | cont =>
            obtain ⟨σ6, H6, S6, q6⟩ := hsp
            exact gone S6 fun s7 J7 => ⟨_, H6, J7, q6⟩
    exact go hh w
  · cases f with
    | ret u =>
      obtain ⟨v, σ', H', J', r, q⟩ := hsp
      exact ⟨v, σ', H', J'.ofTry ok, r, q⟩
    | next =>
      obtain ⟨σ', H', J', q⟩ := hsp
      exact wpAny_execs_nil ⟨σ', H', J'.ofTry ok, q⟩
    | brk =>
      obtain ⟨σ', H', J', q⟩ := hsp
      exact ⟨σ', H', J'.ofTry ok, q⟩
    | cont =>
      obtain ⟨σ', H', J', q⟩ := hsp
      exact ⟨σ', H', J'.ofTry ok, q⟩
end Mi
end
section
set_option maxHeartbeats 1000000
namespace Mi
open PySem PySem.Spec PyProof.Rows L2

/-! ### the same configuration with another error handled -/
abbrev Cf.ex' (c : Cf) (q : Option (Addr × Str)) : Cf := { c with ex := q }
mutual
theorem DV.ex {c : Cf} {q : Option (Addr × Str)} {B : Bad} {H : Hp} : ∀ (d : D) (v : V), noT d = true → DV c d B H v → DV (c.ex' q) d B H v
  | .non, _, _, h => h
  | .bl _, _, _, h => h
  | .int _, _, _, h => h
  | .str _, _, _, h => h
  | .ty _, _, _, h => h
  | .sto, _, _, h => h
  | .cls _, _, _, h => h
  | .exc _, _, n, _ => by cases n
  | .thk _ _, _, n, _ => by cases n
  | .tup l, _, n, ⟨a, xs, e, hb, hs, ht⟩ => ⟨a, xs, e, hb, hs, DVs.ex l xs n ht⟩
  | .lst l, _, n, ⟨a, xs, e, hb, hs, ht⟩ => ⟨a, xs, e, hb, hs, DVs.ex l xs n ht⟩
theorem DVs.ex {c : Cf} {q : Option (Addr × Str)} {B : Bad} {H : Hp} : ∀ (l : List D) (vs : List V), noTs l = true → DVs c l B H vs → DVs (c.ex' q) l B H vs
  | [], _, _, h => h
  | d :: ds, _, n, ⟨v, r, e, h1, h2⟩ => by
    have n2 : (noT d && noTs ds) = true := n
    rw [Bool.and_eq_true] at n2
    exact ⟨v, r, e, DV.ex d v n2.1 h1, DVs.ex ds r n2.2 h2⟩
end
theorem HS.ex {c : Cf} {q : Option (Addr × Str)} {H : Hp} {s : S} (h : HS c H s) : HS (c.ex' q) H s := ⟨h.store, h.tabs⟩
theorem BOk.ex {c : Cf} {q : Option (Addr × Str)} {H : Hp} {B : Bad} (b : BOk c H B) : BOk (c.ex' q) H B := ⟨b.kind, b.st, b.ca, b.kf⟩

/-! ### a def that is called while an error is handled -/
structure FnE (P : Program) (w : World) (K : PySem.W.Frag) (mg : Str → Option Value) (base : Heap) (k : Nat) (f : Addr) (fd : FuncData) (ps : List Str) (sp : Addr → Value → Sp) : Prop where
  len : ∀ a c vs H Q E, sp a c vs H Q E → vs.length = ps.length
  run : ∀ (A : Around) (outer : List Env) (s : Shared) (H : Hp) (args : Args) (us : List Value) (vs : List V) (Q : VK) (E : XK) (p : Addr × Obj) (c : Value), L2H.RoomH k A → L2H.Hot1 A p → L2N.Zn c none p.2 → L2H.PinOk outer H s p → Env0 P w K mg base A outer s H → BindsTo s fd args (ps.zip us) → Vals vs us → sp p.1 c vs H Q E →
    codeAny (model P w) A (.call (.ref f) args) (CR (L2N.CX P w) outer P w H s Q E) s
abbrev cxE (P : Program) (w : World) (K : PySem.W.Frag) (mg : Str → Option Value) (base : Heap) (N : List Str) (qual : Str) (stm : Stmt) (f : Addr) (cdv : Value) (A : Around) (outer : List Env) (s : Shared) (H : Hp) (E : XK) (p : Addr × Obj) : Cx :=
  L2H.cxH (L2N.CX P w) P w K mg base N qual (defScope stm) f cdv A outer s H E p
theorem fnE_of {P : Program} {w : World} {K : PySem.W.Frag} {mg : Str → Option Value} {base : Heap} {k : Nat} {f : Addr} {x qual : Str} {stm : Stmt} {fd : FuncData} {N ps : List Str} {sp : Addr → Value → Sp} (F : Fun K x qual stm f fd) (sc : FnScope N ps (defScope stm))
    (len : ∀ a c vs H Q E, sp a c vs H Q E → vs.length = ps.length)
    (hb : ∀ (cdv : Value) (A : Around) (outer : List Env) (s : Shared) (H : Hp) (vs : List V) (Q : VK) (E : XK) (p : Addr × Obj) (c : Value), L2H.Hot1 A p → L2N.Zn c none p.2 → L2H.RoomH k (A.deeper (envOfC qual (defScope stm) s.heap.objs.size f cdv)) → sp p.1 c vs H Q E →
      ∃ t, PSs (cxE P w K mg base N qual stm f cdv A outer s H E p) (defBody stm) t ∧ t { nx := fun _ H' => Q .non H', rt := Q } (L2.start N vs) H) :
    FnE P w K mg base (k + 1) f fd ps sp := by
  obtain ⟨oc, od, kV, doc, pm, an, cdv, ct, osl, rfl, lk, hcd⟩ := F.ex
  refine ⟨len, fun A outer s H args us vs Q E p c hr hot hz hpin e0 bd rv hsp => ?_⟩
  have hl : vs.length = ps.length := len _ _ _ _ _ _ hsp
  have KX := e0.mod.kin.keeps fun b o e => (e0.bs b o e).1
  have nl := e0.mod.nolimit.keeps fun b o e => (e0.bs b o e).1
  have kinds : ∀ y ∈ ps.zip us, (defScope stm).names.lookup y.1 = some .local ∨ ((defScope stm).names.lookup y.1 = some .cell ∧ ((cellsFrom (s.heap.objs.size + 1) (defScope stm).names []).lookup y.1).isSome = true) := fun y hy =>
    (sc.par y.1 (List.of_mem_zip (a := y.1) (b := y.2) hy).1).imp id fun q => ⟨q, PySem.W.cellsFrom_some _ _ _ (.inl q)⟩
  refine codeAny_call_function hr.depth (KX _ _ lk) rfl sc.co sc.gen rfl (PySem.W.codeRec_of KX hcd) (bd _ _ _ _ (wpAny_newFunctionEnv_cells sc.kind kinds fun env he s1 x => ?_))
  subst he
  refine ⟨nl.keeps x.toInCall.keep, codeAny_func ?_⟩
  obtain ⟨t, ht, hq⟩ := hb cdv A outer s H vs Q E p c hot hz (hr.deeper _) hsp
  have I := L2H.inv_startH (CX := L2N.CX P w) (cd := cdv) (E := E) (f := f) (qual := qual) sc hpin e0 hl rv x
  refine wpAny_mono (ht.run [] s1 (L2.start N vs) H _ I hq) (fun fl s' h => ?_) fun _ _ h => h
  cases fl with
  | ret u =>
    obtain ⟨v, σ', H', J, r, q⟩ := h
    exact ⟨v, H', J.os, J.bare, J.base, J.hok, r, q⟩
  | next =>
    obtain ⟨σ', H', J, q⟩ := h
    exact ⟨V.non, H', J.os, J.bare, J.base, J.hok, rfl, q⟩
  | brk =>
    obtain ⟨_, _, _, q⟩ := h
    exact q.elim
  | cont =>
    obtain ⟨_, _, _, q⟩ := h
    exact q.elim
end Mi
end
section
set_option maxHeartbeats 1000000
namespace Mi
open PySem PySem.Spec PyProof.Rows L2
/-- the place is one where an error is handled, the one that st tells -/
def HotX (X : Cx) (st : Sto) : Prop := ∃ (p : Addr × Obj) (x : Str) (C : Addr), st.ex = some (p.1, x) ∧ p ∈ X.pn ∧ X.mg x = some (.ref C) ∧ L2N.Zn (.ref C) none p.2 ∧ L2H.Hot1 X.A p
theorem HotX.c {X : Cx} {st : Sto} (h : HotX X st) : L2H.HotC X := by
  obtain ⟨p, x, C, _, hp, _, _, hot⟩ := h
  exact ⟨p, hot, hp⟩
theorem HotX.e {X : Cx} {st : Sto} (h : HotX X st) : HotE X st := fun a x' e => by
  obtain ⟨p, x, C, ex, hp, hm, hz, _, vs, hv, _⟩ := h
  rw [ex] at e
  obtain ⟨rfl, rfl⟩ := Prod.mk.inj (Option.some.inj e)
  exact ⟨p.2, C, hp, hm, hz, vs, hv⟩
def spE (P : Program) (w : World) (K : PySem.W.Frag) (mg : Str → Option Value) (base : Heap) (Tb : List (Addr × Str)) (n : Nat) (F : List D → S → R D) : Addr → Value → Sp := fun a c vs H Q E =>
  ∃ (st : Sto) (x : Str) (C : Addr) (s : S) (ds : List D) (B : Bad), st.T = Tb ∧ st.ex = some (a, x) ∧ mg x = some (.ref C) ∧ c = .ref C ∧ ds.length = n ∧ BOk ⟨P, w, K, mg, base, st.a, st.c, st.T, st.ex⟩ H B ∧ HS ⟨P, w, K, mg, base, st.a, st.c, st.T, st.ex⟩ H s ∧ DVs ⟨P, w, K, mg, base, st.a, st.c, st.T, st.ex⟩ ds B H vs ∧
    Post ⟨P, w, K, mg, base, st.a, st.c, st.T, st.ex⟩ (relD ⟨P, w, K, mg, base, st.a, st.c, st.T, st.ex⟩ B) (F ds s) H Q E
/-- as DefOk, for a def that is called while an error is handled -/
structure DefE (P : Program) (w : World) (K : PySem.W.Frag) (mg : Str → Option Value) (base : Heap) (Tb : List (Addr × Str)) (x : Str) (k n : Nat) (F : List D → S → R D) : Prop where
  ex : ∃ (f : Addr) (fd : FuncData) (ps : List Str), FnE P w K mg base k f fd ps (spE P w K mg base Tb n F) ∧ mg x = some (.ref f) ∧ PySem.W.keepIn K (.ref f) = true ∧ Binds K fd ps []
theorem def_fnE {P : Program} {w : World} {K : PySem.W.Frag} {mg : Str → Option Value} {base : Heap} {Tb : List (Addr × Str)} {x qual : Str} {stm : Stmt} {f : Addr} {fd : FuncData} {N ps : List Str} {k : Nat} {G : FS} (F : Fun K x qual stm f fd) (sc : FnScope N ps (defScope stm))
    (hb : ∀ (st : Sto), st.T = Tb → ∀ (cdv : Value) (A : Around) (outer : List Env) (s : Shared) (H : Hp) (E : XK) (p : Addr × Obj), HotX (cxE P w K mg base N qual stm f cdv A outer s H E p) st → L2H.RoomH k (A.deeper (envOfC qual (defScope stm) s.heap.objs.size f cdv)) → SD (cxE P w K mg base N qual stm f cdv A outer s H E p) st E (defBody stm) G) :
    FnE P w K mg base (k + 1) f fd ps (spE P w K mg base Tb ps.length (fnM N.length G)) := by
  refine fnE_of F sc (fun a c vs H Q E h => ?_) (fun cdv A outer s H vs Q E p c hot hz hr h => ?_)
  · obtain ⟨st, x, C, s, ds, B, _, _, _, _, hl, b, hs, dv, _⟩ := h
    rw [dv.length, hl]
  · obtain ⟨st, x', C, S0, ds, B, hT, ex, hm, rfl, hl, b, hs, dv, h⟩ := h
    obtain ⟨t, pt, r⟩ := hb st hT cdv A outer s H E p ⟨p, x', C, ex, List.mem_cons_self, hm, hz, hot⟩ hr
    refine ⟨t, pt, ?_⟩
    have hN : ps.length ≤ N.length := by
      have h := sc.pre
      rw [← h, List.length_take]
      exact Nat.min_le_right _ _
    have hvl := dv.length
    refine r _ (L2.start N vs) (ev0 N.length ds) H B H S0 (fun _ => 0) hs ⟨?_, Keeps.refl _ H, b, b.kf, fun i x e => (ev0_o e).elim, fun i j x y e => (ev0_o e).elim, fun i x e => ?_⟩ ?_
    · unfold L2.start ev0
      simp only [List.length_append, List.length_map, List.length_replicate]
      omega
    · obtain ⟨v, e1, e2⟩ := dvs_at dv (ev0_d e)
      refine ⟨v, ?_, ?_⟩
      · unfold L2.start
        have hi := (List.getElem?_eq_some_iff.mp e1).1
        rw [List.getElem?_append_left (by simpa using hi), List.getElem?_map, e1]
        rfl
      · refine DV.grow ⟨fun _ _ z _ => z, b.st, fun a z => ?_⟩ x v e2
        rcases z with z | ⟨j, d, e, _⟩
        · exact .inl z
        · exact (ev0_o e).elim
    · have h : Post (cf (cxE P w K mg base N qual stm f cdv A outer s H E p) st) (relD _ B) (rb (G (ev0 N.length ds) S0) fun fl s1 => match fl with
          | .nx _ => .ok .non s1
          | .rt d => .ok d s1
          | _ => .stuck) H Q E := h
      cases e : G (ev0 N.length ds) S0 with
      | ok fl s1 =>
        rw [e] at h
        cases fl with
        | nx δ => exact fun σ' H' po hs' r' g' => h .non H' r'.kf r'.keeps hs' rfl
        | rt d => exact h
        | bk δ => exact False.elim h
        | ct δ => exact False.elim h
      | err y q s1 =>
        rw [e] at h
        exact h
      | stuck =>
        rw [e] at h
        exact h
theorem defE_mk {P : Program} {w : World} {K : PySem.W.Frag} {mg : Str → Option Value} {base : Heap} {Tb : List (Addr × Str)} {x : Str} {stm : Stmt} {f : Addr} {fd : FuncData} {ps : List Str} {k n : Nat} {Fm : List D → S → R D} (F : Fun K x x stm f fd) (hm : mg x = some (.ref f))
    (FO : FnE P w K mg base k f fd ps (spE P w K mg base Tb n Fm)) (hb : Binds K fd ps []) : DefE P w K mg base Tb x k n Fm := ⟨⟨f, fd, ps, FO, hm, F.kp, hb⟩⟩
/-- where nothing may be let out -/
theorem pass_none {P : Program} {w : World} {X : Cx} {σ : L2.St} : PassesAt (L2N.CX P w) X σ fun _ _ _ => False := fun _ _ _ _ _ _ ⟨_, _, _, _, _, _, _, _, _, _, _, _, h⟩ => h.elim
section
variable {X : Cx} {st : Sto} {E : XK} {pos q : Pos} {e : Expr} {es : List Expr} {FAs : FA} {x : Str} {k n : Nat} {Fm : List D → S → R D}
theorem pe_callE {f : Addr} {fd : FuncData} {ps : List Str} {sp : Addr → Value → Sp} {t : TA} {p : Addr × Obj} {c : Value} (F : FnE X.prog X.w X.K X.mg X.base k f fd ps sp) (hr : L2H.RoomH k X.A) (hot : L2H.Hot1 X.A p) (hp : p ∈ X.pn) (hz : L2N.Zn c none p.2) (hg : Gl X x) (hm : X.mg x = some (.ref f)) (hk : PySem.W.keepIn X.K (.ref f) = true)
    (hb : Binds X.K fd ps []) (hx : ∀ σ, PassesAt (L2N.CX X.prog X.w) X σ E) (ha : PA X (e :: es) t) (hdb : (x == ("__debug__" : Str)) = false) (he : starEach (e :: es) X.env = (false, eval e X.env) :: starEach es X.env) (hpl : (backTo pos (starEach es X.env)).any (·.1) = false) :
    PE X (.Call (.Name x q) (e :: es) [] pos) (fun σ H Q => t σ H fun vs H1 => sp p.1 c vs H1 Q E) := by
  refine ⟨fun pins s σ H Q I h => ?_⟩
  refine wpAny_Call_Name_kw (ld_glob I hg hm (PySem.W.callWith_K (h₀ := X.base) I.ok.mod.kin hk (thn (ha.run pos pins s σ H _ I h) fun us s1 ⟨vs, H1, I1, r, q⟩ => ⟨I1.kIn, ?_⟩) he hpl) hdb)
  have hl : us.length = ps.length := by rw [← r.length, F.len _ _ _ _ _ _ q]
  have b := hb s1 us I1.kIn (by rw [List.append_nil, hl])
  rw [List.append_nil] at b
  obtain ⟨g1, g2, g3, g4, g5⟩ := I1.pin p (List.mem_append_left _ hp)
  have hpin : L2H.PinOk X.stack H1 s1 p := ⟨g1, g2, fun z => (List.mem_cons.mp (I1.stkSub p.1 z)).elim g3 g4, g5⟩
  refine wpAny_call (codeAny_mono (F.run X.A X.stack s1 H1 ⟨us, []⟩ us vs Q E p c hr hot hz hpin I1.env0 b r q) fun r2 s2 hq => ?_)
  cases r2 with
  | error er => exact hx σ pins H1 s1 er s2 I1 hq
  | ok fl =>
    cases fl with
    | ret u => exact I1.after hq
    | next => exact hq.elim
    | brk => exact hq.elim
    | cont => exact hq.elim
theorem ed_callE (Dk : DefE X.prog X.w X.K X.mg X.base st.T x k n Fm) (hr : L2H.RoomH k X.A) (hx : HotX X st) (px : ∀ σ, PassesAt (L2N.CX X.prog X.w) X σ E) (h1 : AD X st E (e :: es) FAs) (hg : Gl X x := by rfl) (hdb : (x == ("__debug__" : Str)) = false := by decide)
    (he : starEach (e :: es) X.env = (false, eval e X.env) :: starEach es X.env := by rfl) (hpl : (backTo pos (starEach es X.env)).any (·.1) = false := by rfl) : ED X st E (.Call (.Name x q) (e :: es) [] pos) (eApp n [] Fm FAs) := by
  obtain ⟨f, fd, ps, FO, hm, hk, hb⟩ := Dk.ex
  obtain ⟨t1, p1, r1⟩ := h1
  obtain ⟨p, y, C, ex, hp, hmc, hz, hot⟩ := hx
  refine ⟨_, pe_callE FO hr hot hp hz hg hm hk hb px p1 hdb he hpl, fun σ δ B H s Q a h => ?_⟩
  refine r1 σ δ B H s _ a (Post.seq h fun ds s1 vs H1 kf k hs1 dv h => ?_)
  rw [List.append_nil] at h
  split at h
  · rename_i hl
    exact ⟨st, y, C, s1, ds, B, rfl, ex, hmc, rfl, hl, a.b.keep kf k hs1, hs1, dv, h⟩
  · exact False.elim h
end
end Mi
end
section
set_option maxHeartbeats 1000000
namespace Mi
open PySem PySem.Spec PyProof.Rows L2

/-! ### try: the call of a lambda -/
def wipeE : Ev → Ev := List.map fun v => match v with
  | .d x => if noT x then .d x else .u
  | _ => .u
theorem wipeE_d {δ : Ev} {i : Nat} {x : D} (e : (wipeE δ)[i]? = some (SV.d x)) : δ[i]? = some (SV.d x) ∧ noT x = true := by
  unfold wipeE at e
  rw [List.getElem?_map] at e
  obtain ⟨v, e1, e2⟩ := Option.map_eq_some_iff.mp e
  split at e2
  · split at e2
    · rename_i hn
      cases e2
      exact ⟨e1, hn⟩
    · cases e2
  · cases e2
theorem wipeE_o {δ : Ev} {i : Nat} {x : List D} (e : (wipeE δ)[i]? = some (SV.o x)) : False := by
  unfold wipeE at e
  rw [List.getElem?_map] at e
  obtain ⟨v, e1, e2⟩ := Option.map_eq_some_iff.mp e
  split at e2
  · split at e2 <;> cases e2
  · cases e2
theorem wipeE_len (δ : Ev) : (wipeE δ).length = δ.length := by
  unfold wipeE
  rw [List.length_map]
/-- the clause that takes an error of the class x -/
def pickC (x : Str) : List (Str × FS) → Option FS
  | [] => none
  | (y, G) :: r => match isE x y with
    | some true => some G
    | some false => pickC x r
    | none => none
def setO (j : Option Nat) (p : D) (δ : Ev) : Ev := match j with
  | some j => δ.set j (.d p)
  | none => δ
def sTry (i : Nat) (j : Option Nat) (n : Nat) (cl : List (Str × FS)) : FS := fun δ s => match δ[i]? with
  | some (.d (.thk none p)) => .ok (.nx (setO j p δ)) s
  | some (.d (.thk (some x) .non)) => (match pickC x cl with
    | some G => (match G ((wipeE δ).set n (.d (.exc x))) s with
      | .ok (.rt d) s1 => if noT d then .ok (.rt d) s1 else .stuck
      | _ => .stuck)
    | none => .stuck)
  | _ => .stuck
/-- the reading of a suite that G itself is -/
def tCanS (c : Cf) (a : Addr) (cls : Value) (d : Option Addr) (G : FS) : TS := fun Dn σ H => KF c H → ∃ (x : Str) (C : Addr), c.mg x = some (.ref C) ∧ cls = .ref C ∧ d = none ∧ ∃ (δ : Ev) (H0 : Hp) (B : Bad) (s : S) (po : Nat → Addr),
  HS (c.ex' (some (a, x))) H s ∧ SR (c.ex' (some (a, x))) H0 B H σ δ po ∧ PostS (c.ex' (some (a, x))) H0 B (Bo B δ po) H (G δ s) Dn fun _ _ _ => False
abbrev Sto.ex' (st : Sto) (q : Option (Addr × Str)) : Sto := { st with ex := q }
inductive ClD (X : Cx) (st : Sto) (nm : Str) : List ExceptHandler → List (Str × FS) → Prop
  | nil : ClD X st nm [] []
  | cons {y : Str} {C : Addr} {G : FS} {b₀ : Stmt} {suite : List Stmt} {np pos' : Pos} {hds : List ExceptHandler} {cl : List (Str × FS)} (hm : X.mg y = some (.ref C)) (hg : Gl X y) (hdb : (y == ("__debug__" : Str)) = false)
      (hex : ∀ x Cx b, isE x y = some b → X.mg x = some (.ref Cx) → PySem.W.exmOne X.K (.ref Cx) (.ref C) = some b)
      (su : ∀ (a : Addr) (oe : Obj) (pn : List (Addr × Obj)) (x : Str), HotX (X.suite a ((a, oe) :: pn)) (st.ex' (some (a, x))) → SD (X.suite a ((a, oe) :: pn)) (st.ex' (some (a, x))) (fun _ _ _ => False) (b₀ :: suite) G)
      (r : ClD X st nm hds cl) : ClD X st nm (.ExceptHandler (some (.Name y np)) (some nm) (b₀ :: suite) pos' :: hds) ((y, G) :: cl)
theorem clD_ok {X : Cx} {st : Sto} {nm : Str} {n : Nat} {hds : List ExceptHandler} {cl : List (Str × FS)} (h : ClD X st nm hds cl) : ∃ l, ClsOk X nm hds l ∧ ∀ (x : Str) (C : Addr) (G : FS) (Dn : Ends) (σ : L2.St) (H : Hp), pickC x cl = some G → X.mg x = some (.ref C) →
    (∀ a, H a = none → tCanS (cf X st) a (.ref C) none G (endsN n Dn) (σ.set n (some (.ref a))) H) → wN X.K (fun _ _ _ _ => False) Dn n l (.ref C) none σ H := by
  induction h with
  | nil => exact ⟨[], .nil, fun x C G Dn σ H e => by cases e⟩
  | @cons y C G b₀ suite np pos' hds cl hm hg hdb hex su r ih =>
    obtain ⟨l, h1, h2⟩ := ih
    refine ⟨(.ref C, fun a cls d => tCanS (cf X st) a cls d G) :: l, .cons ⟨hg, hdb, .inl hm⟩ (fun a oe cls d pn hz ⟨vs, hv⟩ => ⟨fun pins s σ H Dn I h => ?_⟩) h1, fun x C' G' Dn σ H e hm' hc => ?_⟩
    · obtain ⟨x, Cx, mx, rfl, rfl, δ, H0, B, s', po, hs, sr, hp⟩ := h (show KF (cf X st) H from inv_kf (X := X.suite a ((a, oe) :: pn)) I)
      have hot : HotX (X.suite a ((a, oe) :: pn)) (st.ex' (some (a, x))) := ⟨(a, oe), x, Cx, rfl, .head _, mx, hz, rfl, vs, hv, hz.2.2 vs hv⟩
      obtain ⟨t, pt, rt⟩ := su a oe pn x hot
      exact pt.run pins s σ H Dn I (rt Dn σ δ H0 B H s' po hs sr hp)
    · unfold pickC at e
      split at e
      · rename_i q
        obtain rfl := Option.some.inj e
        exact ⟨true, hex x C' true q hm', fun _ a na => hc a na, fun z => by cases z⟩
      · rename_i q
        exact ⟨false, hex x C' false q hm', fun z => (by cases z), fun _ => h2 x C' G' Dn σ H e hm' hc⟩
      · cases e
/-- what the call of the lambda in slot i brings, where its errors are caught -/
theorem try_core {X : Cx} {st : Sto} {E : XK} {n i : Nat} {j : Option Nat} {cl : List (Str × FS)} {l : List (Value × SuT)} (hw : ∀ (x : Str) (C : Addr) (G : FS) (Dn : Ends) (σ : L2.St) (H : Hp), pickC x cl = some G → X.mg x = some (.ref C) →
      (∀ a, H a = none → tCanS (cf X st) a (.ref C) none G (endsN n Dn) (σ.set n (some (.ref a))) H) → wN X.K (fun _ _ _ _ => False) Dn n l (.ref C) none σ H)
    {Dn : Ends} {σ : L2.St} {δ : Ev} {H0 : Hp} {B : Bad} {H : Hp} {s : S} {po : Nat → Addr} (hs : HS (cf X st) H s) (r : SR (cf X st) H0 B H σ δ po) (h : PostS (cf X st) H0 B (Bo B δ po) H (sTry i j n cl δ s) Dn E) {Q : VK}
    (hQ : ∀ (p : D) v H', KF (cf X st) H' → Keeps (cf X st) H H' → HS (cf X st) H' s → DV (cf X st) p (Bo B δ po) H' v → PostS (cf X st) H0 B (Bo B δ po) H (.ok (.nx (setO j p δ)) s) Dn E → Q v H') : tThk X.prog X.w X.K X.mg X.base i (wN X.K (fun _ _ _ _ => False) Dn n l) σ H Q := by
  unfold sTry at h
  split at h
  · rename_i p ei
    obtain ⟨v, q1, f, oc, od, fd, sl, rfl, nb, hf, run⟩ := r.dat i _ ei
    exact ⟨f, oc, od, fd, sl, q1, hf, fun A outer sh hr e0 => run A outer sh H (Bo B δ po) s Q _ hr e0 (Grow.refl (bo_st r)) (r.bok hs) hs fun v H' kf k hs' dv => hQ p v H' kf k hs' dv h⟩
  · rename_i x ei
    obtain ⟨v, q1, f, oc, od, fd, sl, rfl, nb, hf, run⟩ := r.dat i _ ei
    split at h
    · rename_i G eG
      refine ⟨f, oc, od, fd, sl, q1, hf, fun A outer sh hr e0 => run A outer sh H (Bo B δ po) s Q _ hr e0 (Grow.refl (bo_st r)) (r.bok hs) hs fun C dd H' k hs' hm hp => ?_⟩
      obtain rfl : dd = none := hp
      refine hw x C G Dn σ H' eG hm fun a na kf => ⟨x, C, hm, rfl, rfl, (wipeE δ).set n (.d (.exc x)), H0, B, s, po, hs'.ex, ⟨?_, fun b o e m => (r.keeps.trans k) b o e m, r.b0.ex, kf, fun q ds e => ?_, fun q q' ds ds' e => ?_, fun q d e => ?_⟩, ?_⟩
      · rw [List.length_set, List.length_set, wipeE_len, r.len]
      · rcases set_get e with ⟨_, z⟩ | ⟨_, z⟩
        · cases z
        · exact (wipeE_o z).elim
      · rcases set_get e with ⟨_, z⟩ | ⟨_, z⟩
        · cases z
        · exact (wipeE_o z).elim
      · rcases set_get e with ⟨rfl, z⟩ | ⟨hne, z⟩
        · cases z
          have hl := (List.getElem?_eq_some_iff.mp e).1
          rw [List.length_set, wipeE_len, ← r.len] at hl
          exact ⟨.ref a, List.getElem?_set_self hl, a, rfl, rfl⟩
        · obtain ⟨z1, z2⟩ := wipeE_d z
          obtain ⟨v, e1, e2⟩ := r.dat q d z1
          refine ⟨v, by rw [List.getElem?_set_ne (Ne.symm hne)]; exact e1, DV.ex d v z2 ?_⟩
          refine DV.grow (B := Bo B δ po) (H := H) ⟨fun b o z nb => k b o z fun m => nb (bo_st r b m), bo_st r, fun b z => ?_⟩ d v e2
          rcases z with z | ⟨q2, ds, z, _⟩
          · exact .inl (.inl z)
          · rcases set_get z with ⟨_, z⟩ | ⟨_, z⟩
            · cases z
            · exact (wipeE_o z).elim
      · cases eg : G ((wipeE δ).set n (.d (.exc x))) s with
        | ok fl s1 =>
          rw [eg] at h
          cases fl with
          | rt d =>
            replace h : PostS (cf X st) H0 B (Bo B δ po) H (if noT d then .ok (.rt d) s1 else .stuck) Dn E := h
            split at h
            · rename_i hn
              exact fun v H2 kf2 k2 hs2 dv2 => h v H2 kf2 k2 (hs2.ex (q := st.ex)) (DV.ex (c := (cf X st).ex' (some (a, x))) (q := st.ex) d v hn dv2)
            · exact False.elim h
          | nx δ2 => exact False.elim h
          | bk δ2 => exact False.elim h
          | ct δ2 => exact False.elim h
        | err y q s1 =>
          rw [eg] at h
          exact False.elim h
        | stuck =>
          rw [eg] at h
          exact False.elim h
    · exact False.elim h
  · exact False.elim h
theorem takes_no {X : Cx} : L2N.Takes X (fun _ _ _ _ => False) := fun _ _ ⟨_, _, _, _, _, _, _, _, _, _, _, _, _, _, _, _, w⟩ => w.elim
section
variable {X : Cx} {st : Sto} {E : XK} {a nm g : Str} {p1 p2 pA pg pos : Pos} {h₀ : ExceptHandler} {hds : List ExceptHandler} {cl : List (Str × FS)}
/-- given = action(), its errors caught -/
theorem s_tryV (i j n : Nat) (hs : X.stack = X.env :: X.outer) (hf : X.env.frame = some X.env.locals) (hN : X.N.Nodup) (hr : Room 60 X.A) (hi : X.N[n]? = some nm) (hln : X.env.kindOf nm = some .local) (hcl : ClD X st nm (h₀ :: hds) cl)
    (ha : X.N[i]? = some a := by rfl) (hv : Vis X.env.scope a := by first | exact Or.inl rfl | exact Or.inr (Or.inl rfl) | exact Or.inr (Or.inr rfl)) (hj : X.N[j]? = some g := by rfl) (hx : Loc X.env.scope g := by first | exact Or.inl rfl | exact Or.inr rfl)
    (hw : swapsWith (.Call (.Name a p1) [] [] p2) (some (.Name g pg)) pA.line X.env = pure false := by rfl) (hfn : X.fn g = true ∨ X.env.scope.names.lookup g = some .local := by first | exact .inl rfl | exact .inr rfl)
    (hd : (a == ("__debug__" : Str)) = false := by decide) (hcd : (a == ("__classdict__" : Str)) = false := by decide) :
    S1 X st E (.Try [.Assign [.Name g pg] (.Call (.Name a p1) [] [] p2) pA] (h₀ :: hds) [] [] pos) (sTry i (some j) n cl) := by
  obtain ⟨l, h1, h2⟩ := clD_ok (n := n) hcl
  refine ⟨_, ps_tryN hs hf hN hi hln takes_no (fun W pn xe tk hp => pss_one (ps_set (X := X.tr pn xe) (i := j) hN hj hx (show PE (X.tr pn xe) (.Call (.Name a p1) [] [] p2) (tThk X.prog X.w X.K X.mg X.base i W) from pe_thk (X := X.tr pn xe) tk hr ha hv hd hcd) hw hfn)) h1, fun Dn σ δ H0 B H s po hs r h => ?_⟩
  refine try_core h2 hs r h fun p v H' kf k hs' dv h => ?_
  obtain ⟨r2, g2⟩ := (r.eval hs kf k).set j dv
  exact h _ H' po hs' r2 (((r.bok hs).grow k).trans g2)
/-- action(), its errors caught -/
theorem s_tryX (i n : Nat) (hs : X.stack = X.env :: X.outer) (hf : X.env.frame = some X.env.locals) (hN : X.N.Nodup) (hr : Room 60 X.A) (hi : X.N[n]? = some nm) (hln : X.env.kindOf nm = some .local) (hcl : ClD X st nm (h₀ :: hds) cl)
    (ha : X.N[i]? = some a := by rfl) (hv : Vis X.env.scope a := by first | exact Or.inl rfl | exact Or.inr (Or.inl rfl) | exact Or.inr (Or.inr rfl))
    (hw : swapsWith (.Call (.Name a p1) [] [] p2) none pA.line X.env = pure false := by rfl)
    (hd : (a == ("__debug__" : Str)) = false := by decide) (hcd : (a == ("__classdict__" : Str)) = false := by decide) :
    S1 X st E (.Try [.Expr (.Call (.Name a p1) [] [] p2) pA] (h₀ :: hds) [] [] pos) (sTry i none n cl) := by
  obtain ⟨l, h1, h2⟩ := clD_ok (n := n) hcl
  refine ⟨_, ps_tryN hs hf hN hi hln takes_no (fun W pn xe tk hp => pss_one (ps_expr (X := X.tr pn xe) (show PE (X.tr pn xe) (.Call (.Name a p1) [] [] p2) (tThk X.prog X.w X.K X.mg X.base i W) from pe_thk (X := X.tr pn xe) tk hr ha hv hd hcd) hw)) h1, fun Dn σ δ H0 B H s po hs r h => ?_⟩
  exact try_core h2 hs r h fun p v H' kf k hs' dv h => h σ H' po hs' (r.eval hs kf k) ((r.bok hs).grow k)
end
/-- a suite that is never reached -/
theorem sd_never {X : Cx} {st : Sto} {E : XK} {ts : List Stmt} : SD X st E ts fun _ _ => .stuck := ⟨fun _ _ _ => False, ⟨fun _ _ _ _ _ _ h => h.elim⟩, fun _ _ _ _ _ _ _ _ _ _ h => h⟩
end Mi
end
namespace Mi
open PySem PySem.Spec PyProof.Rows L2 LamX
theorem roomE {k : Nat} {A : Around} {m : Option Value} (r : Room k A) : L2H.RoomH k (A.mark m) := ⟨r.dp, r.un⟩
/-- what is known of a def that makes lambdas -/
structure LamK (base : Heap) (mg : Str → Option Value) (Tb : List (Addr × Str)) (fd : FuncData) (q : Str) : Prop where
  ex : ∃ c P, TabB base mg c P ∧ fd.code = .ref c ∧ (P, q ++ "<lambda>") ∈ Tb ∧ ∀ p ∈ Tb, p.1 = P → p.2 = q ++ "<lambda>"
theorem lam_ok {P : Program} {w : World} {K : PySem.W.Frag} {mg : Str → Option Value} {base : Heap} {N : List Str} {qual q : Str} {stm : Stmt} {f : Addr} {fd : FuncData} {cdv : Value} {A : Around} {outer : List Env} {s : Shared} {H : Hp} {E : XK} {st : Sto} (h : LamK base mg st.T fd q)
    (hq : ∀ n, (envOfC qual (defScope stm) n f cdv).qual = q := by intro _; rfl) (hc : fd.code = cdv) : LamOk (cx P w K mg base N qual stm f cdv A outer s H E) st := by
  obtain ⟨c, Pt, h1, h2, h3, h4⟩ := h.ex
  have e : (cx P w K mg base N qual stm f cdv A outer s H E).env.qual = q := hq _
  exact ⟨c, Pt, h1, by rw [← h2, hc]; rfl, by rw [e]; exact h3, by rw [e]; exact h4⟩
/-- the promise that nothing is asked of -/
theorem fn_stuck {P : Program} {w : World} {K : PySem.W.Frag} {mg : Str → Option Value} {base : Heap} {Tb : List (Addr × Str)} {k n : Nat} {f : Addr} {fd : FuncData} {ps : List Str} : FnOk P w K mg base (L2N.CX P w) k f fd ps (spM P w K mg base Tb n fun _ _ => .stuck) :=
  ⟨fun vs H Q E ⟨_, _, _, _, _, _, _, _, _, h⟩ => h.elim, fun A outer s H args us vs Q E hr e0 hb r ⟨_, _, _, _, _, _, _, _, _, h⟩ => h.elim⟩
theorem passN {X : Cx} : Passes (L2N.CX X.prog X.w) X E0 := fun _ _ _ _ _ _ _ ⟨_, _, _, _, _, _, _, _, _, _, _, _, h⟩ => h.elim
end Mi
namespace Mi
open PySem PySem.Spec PyProof.Rows L2

/-! ### the law's store -/
def stF (k : Nat) (s : S) : Option Int := match k with
  | 1 => some s.at_
  | 2 => some s.left
  | 3 => some s.last
  | 4 => some s.turn
  | _ => none
def stP (k : Nat) (v : Int) (s : S) : Option S := match k with
  | 1 => some { s with at_ := v }
  | 2 => some { s with left := v }
  | 3 => some { s with last := v }
  | 4 => some { s with turn := v }
  | _ => none
def eSt (i k : Nat) : FE := fun δ s => match δ[i]? with
  | some (.d .sto) => (match stF k s with
    | some v => .ok (.int v) s
    | none => .stuck)
  | _ => .stuck
def eStLen (i : Nat) : FE := fun δ s => match δ[i]? with
  | some (.d .sto) => .ok (.int s.cells.length) s
  | _ => .stuck
def eStCell (i : Nat) : FE := fun δ s => match δ[i]? with
  | some (.d .sto) => (match atI s.cells s.at_ with
    | some v => .ok (.int v) s
    | none => .stuck)
  | _ => .stuck
def sSt (i k : Nat) (F : FE) : FS := fun δ s => match δ[i]? with
  | some (.d .sto) => rb (F δ s) fun d s1 => (match d with
    | .int v => (match stP k v s1 with
      | some s2 => .ok (.nx δ) s2
      | none => .stuck)
    | _ => .stuck)
  | _ => .stuck
section
variable {X : Cx} {st : Sto} {E : XK} {pos p p1 p2 p3 p4 p5 : Pos} {j0 j1 : _} {x : Str} {e : Expr} {F : FE}
theorem ed_st (i k : Nat) (hN : X.N[i]? = some x := by rfl) (hv : Vis X.env.scope x := by first | exact Or.inl rfl | exact Or.inr (Or.inl rfl) | exact Or.inr (Or.inr rfl)) (hd : (x == ("__debug__" : Str)) = false := by decide) (hcd : (x == ("__classdict__" : Str)) = false := by decide) :
    ED X st E (.Subscript (.Name x p) (.Constant (.int (k : Int)) j0 p1) pos) (eSt i k) := by
  refine ⟨_, pe_ix ix_list (pe_var hN hv hd hcd) pe_int (fun _ _ => rfl), fun σ δ B H s Q a h => ?_⟩
  unfold eSt at h
  split at h
  · rename_i ei
    obtain ⟨v, h1, a0, hst, rfl⟩ := a.sl i _ ei
    have hl := (a.s.store a0 hst).1
    split at h
    · rename_i v ev
      refine ⟨.ref a0, h1, a0, _, k, .int v, rfl, rfl, .inl (.inl hl), ?_, h.fin a.b.kf a.s rfl⟩
      unfold stF at ev
      split at ev <;> first | (obtain rfl := Option.some.inj ev; rfl) | cases ev
    · exact h.elim
  · exact h.elim
theorem ed_stLen (i : Nat) {pl : Pos} (hg : Gl X "len") (hm : X.mg "len" = none) (hN : X.N[i]? = some x := by rfl) (hv : Vis X.env.scope x := by first | exact Or.inl rfl | exact Or.inr (Or.inl rfl) | exact Or.inr (Or.inr rfl)) (hd : (x == ("__debug__" : Str)) = false := by decide) (hcd : (x == ("__classdict__" : Str)) = false := by decide)
    (hs : starEach [.Subscript (.Name x p) (.Constant (.int 0) j0 p1) p2] X.env = (false, eval (.Subscript (.Name x p) (.Constant (.int 0) j0 p1) p2) X.env) :: starEach [] X.env := by rfl) (hpl : (backTo pos (starEach [] X.env)).any (·.1) = false := by rfl) :
    ED X st E (.Call (.Name "len" pl) [.Subscript (.Name x p) (.Constant (.int 0) j0 p1) p2] [] pos) (eStLen i) := by
  refine ⟨_, pe_callB call_len hg hm (by decide +kernel) (pa_cons (pe_ix ix_list (pe_var hN hv hd hcd) pe_int (fun _ _ => rfl)) pa_nil hs) (by decide) (by decide) hs hpl, fun σ δ B H s Q a h => ?_⟩
  unfold eStLen at h
  split at h
  · rename_i ei
    obtain ⟨v, h1, a0, hst, rfl⟩ := a.sl i _ ei
    obtain ⟨hl, hc, _⟩ := a.s.store a0 hst
    refine ⟨.ref a0, h1, a0, _, 0, .ref (cf X st).ca, rfl, rfl, .inl (.inl hl), rfl, .ref (cf X st).ca, (s.cells.map V.int).length, rfl, .inl ⟨_, .inl (.inl hc), rfl⟩, ?_⟩
    rw [List.length_map]
    exact h.fin a.b.kf a.s rfl
  · exact h.elim
theorem atI_map {α β : Type} {f : α → β} {l : List α} {i : Int} : atI (l.map f) i = (atI l i).map f := by
  unfold atI
  rw [List.length_map]
  cases ixN l.length i with
  | none => rfl
  | some j => simp
theorem ed_stCell (i : Nat) (hN : X.N[i]? = some x := by rfl) (hv : Vis X.env.scope x := by first | exact Or.inl rfl | exact Or.inr (Or.inl rfl) | exact Or.inr (Or.inr rfl)) (hd : (x == ("__debug__" : Str)) = false := by decide) (hcd : (x == ("__classdict__" : Str)) = false := by decide)
    (hp : PlainIx (.Subscript (.Name x p3) (.Constant (.int 1) j1 p4) p5) := by exact fun _ _ => rfl) :
    ED X st E (.Subscript (.Subscript (.Name x p) (.Constant (.int 0) j0 p1) p2) (.Subscript (.Name x p3) (.Constant (.int 1) j1 p4) p5) pos) (eStCell i) := by
  refine ⟨_, pe_ix ix_list (pe_ix ix_list (pe_var hN hv hd hcd) pe_int (fun _ _ => rfl)) (pe_ix ix_list (pe_var hN hv hd hcd) pe_int (fun _ _ => rfl)) hp, fun σ δ B H s Q a h => ?_⟩
  unfold eStCell at h
  split at h
  · rename_i ei
    obtain ⟨v, h1, a0, hst, rfl⟩ := a.sl i _ ei
    obtain ⟨hl, hc, _⟩ := a.s.store a0 hst
    split at h
    · rename_i v ev
      refine ⟨.ref a0, h1, a0, _, 0, .ref (cf X st).ca, rfl, rfl, .inl (.inl hl), rfl, .ref a0, h1, a0, _, 1, .int s.at_, rfl, rfl, .inl (.inl hl), rfl, (cf X st).ca, _, s.at_, .int v, rfl, rfl, .inl (.inl hc), ?_, h.fin a.b.kf a.s rfl⟩
      rw [atI_map, ev]
      rfl
    · exact h.elim
  · exact h.elim
/-- store[k] = e -/
theorem s_st (i k : Nat) {pA : Pos} (h1 : ED X st E e F) (hN : X.N[i]? = some x := by rfl) (hv : Vis X.env.scope x := by first | exact Or.inl rfl | exact Or.inr (Or.inl rfl) | exact Or.inr (Or.inr rfl)) (hd : (x == ("__debug__" : Str)) = false := by decide) (hcd : (x == ("__classdict__" : Str)) = false := by decide)
    (hs : swapsWithSole [.Subscript (.Name x p) (.Constant (.int (k : Int)) j0 p1) pos] e pA.line X.env = pure false := by rfl) (hw : swappedStores [.Subscript (.Name x p) (.Constant (.int (k : Int)) j0 p1) pos] e X.env = pure none := by rfl) :
    S1 X st E (.Assign [.Subscript (.Name x p) (.Constant (.int (k : Int)) j0 p1) pos] e pA) (sSt i k F) := by
  obtain ⟨t1, q1, r1⟩ := h1
  refine ⟨_, ps_asg q1 (pg_sub (pe_var hN hv hd hcd) pe_int set_list) hs hw, fun Dn σ δ H0 B H s po hs r h => ?_⟩
  unfold sSt at h
  split at h
  · rename_i ei
    obtain ⟨w, h1, a0, hst, rfl⟩ := r.dat i _ ei
    refine r1 σ δ _ H s _ (r.at hs) (PostS.ofE r.keeps h fun d s1 v H1 kf k1 hs1 dv h => ?_)
    split at h
    · rename_i z
      split at h
      · rename_i s2 es
        obtain rfl : v = .int z := dv
        obtain ⟨hl, hc, hne⟩ := hs1.store a0 hst
        have aM : (cf X st).Mut a0 := .inl hst
        have two : ∃ xs : List V, ixN 5 (k : Int) = some k ∧ ([V.ref (cf X st).ca, .int s1.at_, .int s1.left, .int s1.last, .int s1.turn].set k (.int z)) = [V.ref (cf X st).ca, .int s2.at_, .int s2.left, .int s2.last, .int s2.turn] ∧ s2.cells = s1.cells := by
          unfold stP at es
          split at es <;> first | (obtain rfl := Option.some.inj es; exact ⟨[], rfl, rfl, rfl⟩) | cases es
        obtain ⟨_, hk, hset, hcl⟩ := two
        refine ⟨.ref a0, h1, a0, _, k, k, rfl, rfl, hl, hk, ?_⟩
        rw [hset]
        have k2 : Keeps (cf X st) H1 (upd H1 a0 (.lst [V.ref (cf X st).ca, .int s2.at_, .int s2.left, .int s2.last, .int s2.turn])) := fun b o e n => by
          rw [upd_ne (fun q => n (by rw [q]; exact aM))]
          exact e
        have hs2 : HS (cf X st) (upd H1 a0 (.lst [V.ref (cf X st).ca, .int s2.at_, .int s2.left, .int s2.last, .int s2.turn])) s2 := by
          refine ⟨fun b eb => ?_, fun q hq => ?_⟩
          · obtain rfl : b = a0 := Option.some.inj (eb.symm.trans hst)
            exact ⟨upd_same, by rw [upd_ne hne, hcl]; exact hc, hne⟩
          · obtain ⟨ps, e1, e2, e3⟩ := hs1.tabs q hq
            refine ⟨ps, ?_, e2, fun po' cv hcv => ?_⟩
            · rw [upd_ne fun z => by rw [z, hl] at e1; cases e1]
              exact e1
            · obtain ⟨c2, rfl, hc2⟩ := e3 po' cv hcv
              refine ⟨c2, rfl, ?_⟩
              rw [upd_ne fun z => by rw [z, hl] at hc2; unfold LamX.CodeO at hc2; cases hc2]
              exact hc2
        have kf2 : KF (cf X st) (upd H1 a0 (.lst [V.ref (cf X st).ca, .int s2.at_, .int s2.left, .int s2.last, .int s2.turn])) := kf_same kf hl
        have r2 := r.eval hs kf k1
        exact h σ _ po hs2 (r2.eval hs1 kf2 k2) (((r.bok hs).grow k1).trans ((r2.bok hs1).grow k2))
      · exact h.elim
    · exact h.elim
  · exact h.elim
end
end Mi
namespace Mi
open PySem PySem.Spec PyProof.Rows L2
/-! ### whole division, of integers of any size -/
structure SeerB (P : Program) (w : World) (base : Heap) : Prop where
  seer : base.NoSeer
  tree : (model P w).prog.given.tree = none
theorem big_ok {k : Nat} {A : Around} (hr : Room k A) (h : 33 ≤ k) : A.depth + 100 < recursionLimit := by
  have := hr.dp
  omega
def gDivB : Int → Int → Option D := fun i j => if 0 < j then some (.int (i / j)) else none
theorem op_fdivB {X : Cx} {env : Env} {l : List Env} (S : SeerB X.prog X.w X.base) (hst : X.stack = env :: l) (h1 : env.scope.isGenerator = false) (h2 : env.scope.isCoroutine = false) (h3 : env.builtins = builtinsNs) (h4 : env.globals = mainGlobals) (hd : X.A.depth + 100 < recursionLimit) :
    OpR X (binaryOp .FloorDiv) (rI (fun i j => 0 < j) fun i j => .int (i / j)) := by
  intro pins s σ H x y v u Q I rx ry ⟨i, j, e1, e2, hc, q⟩
  subst e1 e2
  obtain ⟨t, rfl⟩ := rx
  obtain ⟨t2, rfl⟩ := ry
  have nl := I.ok.mod.nolimit.keeps I.bk
  have ns := S.seer.keeps I.bk
  have sa : SeerAt (model X.prog X.w) X.A s.heap := SeerAt.of ns S.tree (by rw [I.ok.frames, hst]) h1 h2 h3 h4
  refine floordiv_int (by omega) ?_ (.inr (PylongRoom.of nl hd sa))
  rw [Int.fdiv_eq_ediv_of_nonneg i (by omega)]
  exact ⟨.int (i / j), H, I.tok _, ⟨_, rfl⟩, q⟩
theorem opd_divB {X : Cx} {st : Sto} {env : Env} {l : List Env} (S : SeerB X.prog X.w X.base) (hst : X.stack = env :: l) (h1 : env.scope.isGenerator = false) (h2 : env.scope.isCoroutine = false) (h3 : env.builtins = builtinsNs) (h4 : env.globals = mainGlobals) (hd : X.A.depth + 100 < recursionLimit) :
    OpD X st (binaryOp .FloorDiv) (gI gDivB) := opd_int (w := fun i j => .int (i / j)) (op_fdivB S hst h1 h2 h3 h4 hd) (fun i j d e => by
  unfold gDivB at e
  split at e
  · rename_i q
    exact ⟨q, (Option.some.inj e).symm⟩
  · cases e) fun _ _ _ _ _ => rfl
end Mi
namespace Mi
open PySem PySem.Spec PyProof.Rows L2
/-! ### reckoning with mirrors: one rule a form, from below -/
section
variable {δ δ1 : Ev} {s s1 s2 : S} {F G : FE} {T U : FT} {FAs GAs : FA} {x y z d : D} {ds : List D}
@[simp] theorem rb_ok {α β : Type} (a : α) (s : S) (k : α → S → R β) : rb (.ok a s) k = k a s := rfl
@[simp] theorem op_some {α : Type} (a : α) (s : S) : op? (some a) s = .ok a s := rfl
theorem mv_var {i : Nat} (h : δ[i]? = some (.d d)) : eVar i δ s = .ok d s := by
  unfold eVar
  rw [h]
theorem mv_c : eC d δ s = .ok d s := rfl
theorem mv_op {g : D → D → Option D} (h1 : F δ s = .ok x s1) (h2 : G δ s1 = .ok y s2) (h3 : g x y = some z) : eOp g F G δ s = .ok z s2 := by
  unfold eOp
  rw [h1, rb_ok, h2, rb_ok, h3, op_some]
theorem mv_un {g : D → Option D} (h1 : F δ s = .ok x s1) (h3 : g x = some z) : eUn g F δ s = .ok z s1 := by
  unfold eUn
  rw [h1, rb_ok, h3, op_some]
theorem mv_call {g : List D → Option D} (h1 : FAs δ s = .ok ds s1) (h2 : g ds = some z) : eCall g FAs δ s = .ok z s1 := by
  unfold eCall
  rw [h1, rb_ok, h2, op_some]
theorem mv_app {n : Nat} {dfl : List D} {Fm : List D → S → R D} {r : R D} (h1 : FAs δ s = .ok ds s1) (h2 : Fm (ds ++ dfl) s1 = r) (hl : (ds ++ dfl).length = n) : eApp n dfl Fm FAs δ s = r := by
  unfold eApp
  rw [h1, rb_ok, if_pos hl, h2]
theorem mv_nil : aNil δ s = .ok [] s := rfl
theorem mv_cons (h1 : F δ s = .ok d s1) (h2 : FAs δ s1 = .ok ds s2) : aCons F FAs δ s = .ok (d :: ds) s2 := by
  unfold aCons
  rw [h1, rb_ok, h2, rb_ok]
theorem mv_tup (h1 : FAs δ s = .ok ds s1) (hl : ds.length ≤ 100000) : eTup FAs δ s = .ok (.tup ds) s1 := by
  unfold eTup
  rw [h1, rb_ok, if_pos hl]
theorem mv_lst (h1 : FAs δ s = .ok ds s1) (hl : ds.length ≤ 100000) : eLst FAs δ s = .ok (.lst ds) s1 := by
  unfold eLst
  rw [h1, rb_ok, if_pos hl]
theorem mv_cmp {g : D → D → Option D} {b : Bool} (h1 : F δ s = .ok x s1) (h2 : G δ s1 = .ok y s2) (h3 : g x y = some (.bl b)) : tCmp g F G δ s = .ok b s2 := by
  unfold tCmp
  rw [mv_op h1 h2 h3]
  rfl
theorem mv_tru {b : Bool} (h1 : F δ s = .ok x s1) (h3 : truD x = some b) : tTru F δ s = .ok b s1 := by
  unfold tTru
  rw [h1, rb_ok, h3, op_some]
theorem mv_not {b : Bool} (h1 : T δ s = .ok b s1) : tNot T δ s = .ok (!b) s1 := by
  unfold tNot
  rw [h1, rb_ok]
theorem mv_and_f (h1 : T δ s = .ok false s1) : tAnd T U δ s = .ok false s1 := by
  unfold tAnd
  rw [h1, rb_ok]
  rfl
theorem mv_and_t {r : R Bool} (h1 : T δ s = .ok true s1) (h2 : U δ s1 = r) : tAnd T U δ s = r := by
  unfold tAnd
  rw [h1, rb_ok, if_pos rfl, h2]
theorem mv_or_t (h1 : T δ s = .ok true s1) : tOr T U δ s = .ok true s1 := by
  unfold tOr
  rw [h1, rb_ok]
  rfl
theorem mv_or_f {r : R Bool} (h1 : T δ s = .ok false s1) (h2 : U δ s1 = r) : tOr T U δ s = r := by
  unfold tOr
  rw [h1, rb_ok, if_neg (by simp), h2]
variable {A B : FS} {r : R Fl}
theorem mv_seq (h1 : A δ s = .ok (.nx δ1) s1) (h2 : B δ1 s1 = r) : sSeq A B δ s = r := by
  unfold sSeq
  rw [h1, rb_ok]
  exact h2
theorem mv_seq_rt (h1 : A δ s = .ok (.rt d) s1) : sSeq A B δ s = .ok (.rt d) s1 := by
  unfold sSeq
  rw [h1, rb_ok]
theorem mv_set {i : Nat} (h1 : F δ s = .ok d s1) : sSet i F δ s = .ok (.nx (δ.set i (.d d))) s1 := by
  unfold sSet
  rw [h1, rb_ok]
theorem mv_ret (h1 : F δ s = .ok d s1) : sRet F δ s = .ok (.rt d) s1 := by
  unfold sRet
  rw [h1, rb_ok]
theorem mv_if_t (h1 : T δ s = .ok true s1) (h2 : A δ s1 = r) : sIf T A B δ s = r := by
  unfold sIf
  rw [h1, rb_ok, if_pos rfl, h2]
theorem mv_if_f (h1 : T δ s = .ok false s1) (h2 : B δ s1 = r) : sIf T A B δ s = r := by
  unfold sIf
  rw [h1, rb_ok, if_neg (by simp), h2]
theorem mv_snil : sNil δ s = .ok (.nx δ) s := rfl
theorem mv_fn {m : Nat} {G : FS} (h : G (ev0 m ds) s = .ok (.rt d) s1) : fnM m G ds s = .ok d s1 := by
  unfold fnM
  rw [h, rb_ok]
theorem mv_fn_nx {m : Nat} {G : FS} (h : G (ev0 m ds) s = .ok (.nx δ1) s1) : fnM m G ds s = .ok .non s1 := by
  unfold fnM
  rw [h, rb_ok]
end
/-! the integers' operations -/
theorem gI_int {f : Int → Int → Option D} {i j : Int} {z : D} (h : f i j = some z) : gI f (.int i) (.int j) = some z := h
theorem gAdd_int {i j : Int} : gAdd (.int i) (.int j) = some (.int (i + j)) := rfl
theorem gSub_int {i j : Int} : gI gSubI (.int i) (.int j) = some (.int (i - j)) := rfl
theorem gMul_int {i j : Int} {m n : Nat} (h1 : Builtin.Int.intBits i ≤ m) (h2 : Builtin.Int.intBits j ≤ n) (h : m + n ≤ 134217728) : gI gMulI (.int i) (.int j) = some (.int (i * j)) := by
  show gMulI i j = _
  unfold gMulI
  exact if_pos (by omega)
theorem gMod_int {i j : Int} (h : 0 < j) : gI gModI (.int i) (.int j) = some (.int (i % j)) := if_pos h
theorem gDiv_int {i j : Int} (h : 0 < j) (hs : j.natAbs < 1073741824) : gI gDivI (.int i) (.int j) = some (.int (i / j)) := if_pos ⟨h, PyProof.noPylong_small hs⟩
theorem gDivB_int {i j : Int} (h : 0 < j) : gI gDivB (.int i) (.int j) = some (.int (i / j)) := if_pos h
theorem gInt_int {i : Int} : gInt [.int i] = some (.int i) := rfl
theorem bits_mod {a m : Int} (h : 0 < m) : Builtin.Int.intBits (a % m) ≤ Builtin.Int.intBits m := PySem.intBits_le_iff.mpr (by
  have h1 := Int.emod_nonneg a (by omega : m ≠ 0)
  have h2 := Int.emod_lt_of_pos a h
  have h3 := PySem.intBits_le_iff.mp (Nat.le_refl (Builtin.Int.intBits m))
  omega)
theorem bits_div {a m : Int} {n : Nat} (h : 0 < m) (ha : Builtin.Int.intBits a ≤ n) : Builtin.Int.intBits (a / m) ≤ n := by
  rw [← Int.fdiv_eq_ediv_of_nonneg a (by omega)]
  exact PySem.intBits_fdiv_le ha
end Mi
local macro_rules
  | `(tactic| walk_at "own mbits") => `(tactic| first
    | assumption
    | ((with_reducible apply Mi.bits_mod); decide)
    | ((with_reducible apply Mi.bits_div); (focus decide); (focus walk_at "own mbits"))
    | ((with_reducible apply PySem.intBits_add_le); (focus walk_at "own mbits"); (focus walk_at "own mbits"))
    | ((with_reducible apply PySem.intBits_mul_le); (focus walk_at "own mbits"); (focus walk_at "own mbits"))
    | with_reducible exact Nat.le_refl _)
namespace Mi
open PySem PySem.Spec PyProof.Rows L2
end Mi
local macro_rules
  | `(tactic| walk_at "own mside") => `(tactic| first
    | with_reducible exact Mi.gAdd_int
    | with_reducible exact Mi.gInt_int
    | with_reducible exact Mi.gSub_int
    | ((with_reducible apply Mi.gMod_int); first | decide | omega)
    | ((with_reducible apply Mi.gDiv_int); (focus decide); (focus decide))
    | ((with_reducible apply Mi.gMul_int); (focus walk_at "own mbits"); (focus walk_at "own mbits"); (focus first | decide +kernel | omega))
    | rfl)
namespace Mi
open PySem PySem.Spec PyProof.Rows L2
end Mi
local macro_rules
  | `(tactic| walk_at "own mev") => `(tactic| first
    | with_reducible exact Mi.mv_c
    | with_reducible exact Mi.mv_nil
    | ((with_reducible apply Mi.mv_var); rfl)
    | ((with_reducible apply Mi.mv_op); (focus walk_at "own mev"); (focus walk_at "own mev"); (focus walk_at "own mside"))
    | ((with_reducible apply Mi.mv_un); (focus walk_at "own mev"); (focus walk_at "own mside"))
    | ((with_reducible apply Mi.mv_call); (focus walk_at "own mev"); (focus walk_at "own mside"))
    | ((with_reducible apply Mi.mv_cons); (focus walk_at "own mev"); (focus walk_at "own mev")))
namespace Mi
open PySem PySem.Spec PyProof.Rows L2
end Mi
namespace Mi
open PySem PySem.Spec PyProof.Rows L2
/-! ### loops, reckoned with an invariant -/
theorem loop_inv {N : FG} {G : FS} : ∀ (ds : List D) (P : Nat → Ev → S → Prop) (δ : Ev) (s : S), (∀ j d δ s, ds[j]? = some d → P j δ s → ∃ δ1, N d δ = some δ1 ∧ ∃ δ2 s2, G δ1 s = .ok (.nx δ2) s2 ∧ P (j + 1) δ2 s2) → P 0 δ s →
    ∃ δ2 s2, loopF N G ds δ s = .ok (.nx δ2) s2 ∧ P ds.length δ2 s2
  | [], P, δ, s, _, h => ⟨δ, s, rfl, h⟩
  | d :: ds, P, δ, s, st, h => by
    obtain ⟨δ1, e1, δ2, s2, e2, h2⟩ := st 0 d δ s rfl h
    obtain ⟨δ3, s3, e3, h3⟩ := loop_inv ds (fun j => P (j + 1)) δ2 s2 (fun j x δ s e p => st (j + 1) x δ s (by simpa using e) p) h2
    refine ⟨δ3, s3, ?_, h3⟩
    unfold loopF
    rw [e1]
    show rb (G δ1 s) _ = _
    rw [e2, rb_ok]
    exact e3
theorem mv_for {I : FI} {N : FG} {G : FS} {δ : Ev} {s s1 : S} {ds : List D} (P : Nat → Ev → S → Prop) (h1 : I δ s = .ok ds s1) (h0 : P 0 δ s1) (st : ∀ j d δ s, ds[j]? = some d → P j δ s → ∃ δ1, N d δ = some δ1 ∧ ∃ δ2 s2, G δ1 s = .ok (.nx δ2) s2 ∧ P (j + 1) δ2 s2) :
    ∃ δ2 s2, sFor I N G δ s = .ok (.nx δ2) s2 ∧ P ds.length δ2 s2 := by
  unfold sFor
  rw [h1, rb_ok]
  exact loop_inv ds P δ s1 st h0
theorem mv_rng1 {F : FA} {δ : Ev} {s s1 : S} {n : Int} (h1 : F δ s = .ok [.int n] s1) (ha : -(2 ^ 62) ≤ n) (hb : n < 2 ^ 62) : iRng1 F δ s = .ok (rgL 0 n.toNat) s1 := by
  unfold iRng1
  rw [h1, rb_ok]
  exact if_pos ⟨ha, hb⟩
theorem rgL_get {lo : Int} {n j : Nat} {d : D} (h : (rgL lo n)[j]? = some d) : j < n ∧ d = .int (lo + j) := by
  unfold rgL at h
  rw [List.getElem?_map] at h
  obtain ⟨i, e1, e2⟩ := Option.map_eq_some_iff.mp h
  obtain ⟨h1, h2⟩ := List.getElem?_eq_some_iff.mp e1
  rw [List.length_range] at h1
  rw [List.getElem_range] at h2
  exact ⟨h1, by rw [← e2, h2]⟩
theorem rgL_len {lo : Int} {n : Nat} : (rgL lo n).length = n := by
  unfold rgL
  rw [List.length_map, List.length_range]
end Mi
namespace Mi
open PySem PySem.Spec PyProof.Rows L2
/-! ### reckoning forward: what the end of a mirror keeps -/
def Wp {α : Type} (r : R α) (Q : α → S → Prop) : Prop := ∃ a s, r = .ok a s ∧ Q a s
section
variable {δ : Ev} {s : S} {F G : FE} {T U : FT} {FAs : FA} {d : D} {A B : FS}
theorem wp_var {i : Nat} {Q : D → S → Prop} (h : δ[i]? = some (.d d)) (q : Q d s) : Wp (eVar i δ s) Q := ⟨d, s, mv_var h, q⟩
theorem wp_c {Q : D → S → Prop} (q : Q d s) : Wp (eC d δ s) Q := ⟨d, s, rfl, q⟩
theorem wp_op {g : D → D → Option D} {Q : D → S → Prop} (h : Wp (F δ s) fun x s1 => Wp (G δ s1) fun y s2 => ∃ z, g x y = some z ∧ Q z s2) : Wp (eOp g F G δ s) Q := by
  obtain ⟨x, s1, e1, y, s2, e2, z, e3, q⟩ := h
  exact ⟨z, s2, mv_op e1 e2 e3, q⟩
theorem wp_un {g : D → Option D} {Q : D → S → Prop} (h : Wp (F δ s) fun x s1 => ∃ z, g x = some z ∧ Q z s1) : Wp (eUn g F δ s) Q := by
  obtain ⟨x, s1, e1, z, e3, q⟩ := h
  exact ⟨z, s1, mv_un e1 e3, q⟩
theorem wp_nil {Q : List D → S → Prop} (q : Q [] s) : Wp (aNil δ s) Q := ⟨[], s, rfl, q⟩
theorem wp_cons {Q : List D → S → Prop} (h : Wp (F δ s) fun d s1 => Wp (FAs δ s1) fun ds s2 => Q (d :: ds) s2) : Wp (aCons F FAs δ s) Q := by
  obtain ⟨x, s1, e1, y, s2, e2, q⟩ := h
  exact ⟨_, s2, mv_cons e1 e2, q⟩
theorem wp_call {g : List D → Option D} {Q : D → S → Prop} (h : Wp (FAs δ s) fun ds s1 => ∃ z, g ds = some z ∧ Q z s1) : Wp (eCall g FAs δ s) Q := by
  obtain ⟨x, s1, e1, z, e3, q⟩ := h
  exact ⟨z, s1, mv_call e1 e3, q⟩
theorem wp_app {n : Nat} {dfl : List D} {Fm : List D → S → R D} {Q : D → S → Prop} (h : Wp (FAs δ s) fun ds s1 => (ds ++ dfl).length = n ∧ Wp (Fm (ds ++ dfl) s1) Q) : Wp (eApp n dfl Fm FAs δ s) Q := by
  obtain ⟨x, s1, e1, hl, z, s2, e3, q⟩ := h
  exact ⟨z, s2, mv_app e1 e3 hl, q⟩
theorem wp_tup {Q : D → S → Prop} (h : Wp (FAs δ s) fun ds s1 => ds.length ≤ 100000 ∧ Q (.tup ds) s1) : Wp (eTup FAs δ s) Q := by
  obtain ⟨x, s1, e1, hl, q⟩ := h
  exact ⟨_, s1, mv_tup e1 hl, q⟩
theorem wp_lst {Q : D → S → Prop} (h : Wp (FAs δ s) fun ds s1 => ds.length ≤ 100000 ∧ Q (.lst ds) s1) : Wp (eLst FAs δ s) Q := by
  obtain ⟨x, s1, e1, hl, q⟩ := h
  exact ⟨_, s1, mv_lst e1 hl, q⟩
theorem wp_cmp {g : D → D → Option D} {Q : Bool → S → Prop} (h : Wp (F δ s) fun x s1 => Wp (G δ s1) fun y s2 => ∃ b, g x y = some (.bl b) ∧ Q b s2) : Wp (tCmp g F G δ s) Q := by
  obtain ⟨x, s1, e1, y, s2, e2, z, e3, q⟩ := h
  exact ⟨z, s2, mv_cmp e1 e2 e3, q⟩
theorem wp_tru {Q : Bool → S → Prop} (h : Wp (F δ s) fun x s1 => ∃ b, truD x = some b ∧ Q b s1) : Wp (tTru F δ s) Q := by
  obtain ⟨x, s1, e1, z, e3, q⟩ := h
  exact ⟨z, s1, mv_tru e1 e3, q⟩
theorem wp_not {Q : Bool → S → Prop} (h : Wp (T δ s) fun b s1 => Q (!b) s1) : Wp (tNot T δ s) Q := by
  obtain ⟨x, s1, e1, q⟩ := h
  exact ⟨_, s1, mv_not e1, q⟩
theorem wp_and {Q : Bool → S → Prop} (h : Wp (T δ s) fun b s1 => (b = false → Q false s1) ∧ (b = true → Wp (U δ s1) Q)) : Wp (tAnd T U δ s) Q := by
  obtain ⟨b, s1, e1, q1, q2⟩ := h
  cases b with
  | false => exact ⟨false, s1, mv_and_f e1, q1 rfl⟩
  | true =>
    obtain ⟨c, s2, e2, q⟩ := q2 rfl
    exact ⟨c, s2, mv_and_t e1 e2, q⟩
theorem wp_or {Q : Bool → S → Prop} (h : Wp (T δ s) fun b s1 => (b = true → Q true s1) ∧ (b = false → Wp (U δ s1) Q)) : Wp (tOr T U δ s) Q := by
  obtain ⟨b, s1, e1, q1, q2⟩ := h
  cases b with
  | true => exact ⟨true, s1, mv_or_t e1, q1 rfl⟩
  | false =>
    obtain ⟨c, s2, e2, q⟩ := q2 rfl
    exact ⟨c, s2, mv_or_f e1 e2, q⟩
theorem wp_seq {Q : Fl → S → Prop} (h : Wp (A δ s) fun fl s1 => match fl with
    | .nx δ1 => Wp (B δ1 s1) Q
    | o => Q o s1) : Wp (sSeq A B δ s) Q := by
  obtain ⟨fl, s1, e1, q⟩ := h
  cases fl with
  | nx δ1 =>
    obtain ⟨f2, s2, e2, q⟩ := q
    exact ⟨f2, s2, mv_seq e1 e2, q⟩
  | rt d => exact ⟨.rt d, s1, mv_seq_rt e1, q⟩
  | bk δ1 =>
    refine ⟨.bk δ1, s1, ?_, q⟩
    unfold sSeq
    rw [e1, rb_ok]
  | ct δ1 =>
    refine ⟨.ct δ1, s1, ?_, q⟩
    unfold sSeq
    rw [e1, rb_ok]
theorem wp_set {i : Nat} {Q : Fl → S → Prop} (h : Wp (F δ s) fun d s1 => Q (.nx (δ.set i (.d d))) s1) : Wp (sSet i F δ s) Q := by
  obtain ⟨x, s1, e1, q⟩ := h
  exact ⟨_, s1, mv_set e1, q⟩
theorem wp_ret {Q : Fl → S → Prop} (h : Wp (F δ s) fun d s1 => Q (.rt d) s1) : Wp (sRet F δ s) Q := by
  obtain ⟨x, s1, e1, q⟩ := h
  exact ⟨_, s1, mv_ret e1, q⟩
theorem wp_if {Q : Fl → S → Prop} (h : Wp (T δ s) fun b s1 => (b = true → Wp (A δ s1) Q) ∧ (b = false → Wp (B δ s1) Q)) : Wp (sIf T A B δ s) Q := by
  obtain ⟨b, s1, e1, q1, q2⟩ := h
  cases b with
  | true =>
    obtain ⟨f, s2, e2, q⟩ := q1 rfl
    exact ⟨f, s2, mv_if_t e1 e2, q⟩
  | false =>
    obtain ⟨f, s2, e2, q⟩ := q2 rfl
    exact ⟨f, s2, mv_if_f e1 e2, q⟩
theorem wp_snil {Q : Fl → S → Prop} (q : Q (.nx δ) s) : Wp (sNil δ s) Q := ⟨_, s, rfl, q⟩
theorem wp_fn {m : Nat} {G : FS} {ds : List D} {Q : D → S → Prop} (h : Wp (G (ev0 m ds) s) fun fl s1 => match fl with
    | .rt d => Q d s1
    | .nx _ => Q .non s1
    | _ => False) : Wp (fnM m G ds s) Q := by
  obtain ⟨fl, s1, e1, q⟩ := h
  cases fl with
  | nx δ1 => exact ⟨.non, s1, mv_fn_nx e1, q⟩
  | rt d => exact ⟨d, s1, mv_fn e1, q⟩
  | bk δ1 => exact q.elim
  | ct δ1 => exact q.elim
theorem Wp.mono {α : Type} {r : R α} {Q Q' : α → S → Prop} (h : Wp r Q) (f : ∀ a s, Q a s → Q' a s) : Wp r Q' := by
  obtain ⟨a, s, e, q⟩ := h
  exact ⟨a, s, e, f a s q⟩
end
end Mi
local macro_rules
  | `(tactic| walk_at "own wstep") => `(tactic| first
    | with_reducible apply Mi.wp_c
    | with_reducible apply Mi.wp_nil
    | ((with_reducible apply Mi.wp_var); (focus rfl))
    | with_reducible apply Mi.wp_op
    | with_reducible apply Mi.wp_un
    | with_reducible apply Mi.wp_call
    | with_reducible apply Mi.wp_cons
    | with_reducible apply Mi.wp_tup
    | with_reducible apply Mi.wp_lst
    | with_reducible apply Mi.wp_cmp
    | with_reducible apply Mi.wp_tru
    | with_reducible apply Mi.wp_not
    | with_reducible apply Mi.wp_seq
    | with_reducible apply Mi.wp_set
    | with_reducible apply Mi.wp_ret
    | with_reducible apply Mi.wp_snil)
namespace Mi
open PySem PySem.Spec PyProof.Rows L2
end Mi
namespace Mi
open PySem PySem.Spec PyProof.Rows L2
/-! ### more rules from below: errors, lists of one's own, choices of values, comprehensions -/
section
variable {δ δ1 : Ev} {s s1 s2 : S} {F G : FE} {T U : FT} {FAs GAs : FA} {x y z d : D} {ds : List D} {A B : FS} {c : PySem.Str} {p : D}
theorem mv_expr (h1 : F δ s = .ok d s1) : sExpr F δ s = .ok (.nx δ) s1 := by
  unfold sExpr
  rw [h1, rb_ok]
theorem mv_expr_err (h1 : F δ s = .err c p s1) : sExpr F δ s = .err c p s1 := by
  unfold sExpr
  rw [h1]
  rfl
theorem mv_seq_err (h1 : A δ s = .err c p s1) : sSeq A B δ s = .err c p s1 := by
  unfold sSeq
  rw [h1]
  rfl
theorem mv_fn_err {m : Nat} {G : FS} (h : G (ev0 m ds) s = .err c p s1) : fnM m G ds s = .err c p s1 := by
  unfold fnM
  rw [h]
  rfl
theorem mv_frz {i : Nat} {r : R Fl} (h : A (frz i δ) s = r) : sFrz i A δ s = r := h
theorem mv_own {i : Nat} (h1 : FAs δ s = .ok ds s1) (hl : ds.length ≤ 100000) : sOwn i FAs δ s = .ok (.nx (δ.set i (.o ds))) s1 := by
  unfold sOwn
  rw [h1, rb_ok, if_pos hl]
theorem mv_sApp {i : Nat} (h0 : δ[i]? = some (.o ds)) (h1 : F δ s = .ok d s1) (hl : ds.length < 100000) : sApp i F δ s = .ok (.nx (δ.set i (.o (ds ++ [d])))) s1 := by
  unfold sApp
  rw [h0]
  show rb (F δ s) _ = _
  rw [h1, rb_ok, if_pos hl]
theorem mv_eif_t {r : R D} (h1 : T δ s = .ok true s1) (h2 : F δ s1 = r) : eIf T F G δ s = r := by
  unfold eIf
  rw [h1, rb_ok, if_pos rfl, h2]
theorem mv_eif_f {r : R D} (h1 : T δ s = .ok false s1) (h2 : G δ s1 = r) : eIf T F G δ s = r := by
  unfold eIf
  rw [h1, rb_ok, if_neg (by simp), h2]
theorem mv_or_b (a b : Bool) (h1 : T δ s = .ok a s) (h2 : U δ s = .ok b s) : tOr T U δ s = .ok (a || b) s := by
  cases a with
  | true => exact mv_or_t h1
  | false => rw [mv_or_f h1 h2]; rfl
theorem mv_iLst (h1 : F δ s = .ok (.lst ds) s1) : iLst F δ s = .ok ds s1 := by
  unfold iLst
  rw [h1, rb_ok]
theorem mv_iTpl (h1 : F δ s = .ok (.tup ds) s1) : iTpl F δ s = .ok ds s1 := by
  unfold iTpl
  rw [h1, rb_ok]
theorem mv_lc {i : Nat} {I : FI} {r : R D} (h1 : I δ s = .ok ds s1) (h2 : lcF i T F ds [] (δ.set i .u) s1 = r) : eLc i I T F δ s = r := by
  unfold eLc
  rw [h1, rb_ok, h2]
end
/-- a comprehension that keeps the texts for which b holds -/
theorem lcF_filter {i : Nat} {T : FT} {F : FE} {b : PySem.Str → Bool} {δ : Ev} {s : S} : ∀ (ds acc : List PySem.Str), (∀ x, T (δ.set i (.d (.str x))) s = .ok (b x) s) → (∀ x, F (δ.set i (.d (.str x))) s = .ok (.str x) s) → acc.length + ds.length ≤ 100000 →
    lcF i T F (ds.map D.str) (acc.map D.str) δ s = .ok (.lst ((acc ++ ds.filter b).map D.str)) s
  | [], acc, _, _, _ => by
    simp [lcF]
  | x :: ds, acc, hT, hF, hl => by
    simp only [List.length_cons] at hl
    rw [List.map_cons]
    unfold lcF
    rw [hT x]
    cases e : b x with
    | true =>
      show (match F (δ.set i (.d (.str x))) s with
        | .ok y s2 => if (acc.map D.str).length < 100000 then lcF i T F (ds.map D.str) (acc.map D.str ++ [y]) δ s2 else .stuck
        | _ => .stuck) = _
      rw [hF x]
      show (if (acc.map D.str).length < 100000 then lcF i T F (ds.map D.str) (acc.map D.str ++ [.str x]) δ s else .stuck) = _
      rw [if_pos (by rw [List.length_map]; omega)]
      have := lcF_filter ds (acc ++ [x]) hT hF (by rw [List.length_append, List.length_singleton]; omega)
      rw [List.map_append, List.map_cons, List.map_nil] at this
      rw [this, List.filter_cons, e]
      simp
    | false =>
      show lcF i T F (ds.map D.str) (acc.map D.str) δ s = _
      rw [lcF_filter ds acc hT hF (by omega), List.filter_cons, e]
      simp
/-- a comprehension with an invariant -/
theorem lcF_wp {i : Nat} {F : FE} {δ : Ev} {C : D → Prop} {P : Nat → S → Prop} : ∀ (ds acc : List D) (j : Nat) (s : S), (∀ j' d s, d ∈ ds → j' < j + ds.length → P j' s → Wp (F (δ.set i (.d d)) s) fun y s' => C y ∧ P (j' + 1) s') → P j s → (∀ y ∈ acc, C y) → acc.length + ds.length ≤ 100000 →
    Wp (lcF i tAll F ds acc δ s) fun r s' => ∃ l, r = .lst l ∧ (∀ y ∈ l, C y) ∧ l.length = acc.length + ds.length ∧ P (j + ds.length) s'
  | [], acc, j, s, _, h, ha, _ => ⟨_, s, rfl, acc, rfl, ha, by simp, h⟩
  | d :: ds, acc, j, s, st, h, ha, hl => by
    simp only [List.length_cons] at hl
    obtain ⟨y, s1, e, hy, h1⟩ := st j d s List.mem_cons_self (by rw [List.length_cons]; omega) h
    obtain ⟨r, s2, e2, l, rfl, hc, hll, h2⟩ := lcF_wp ds (acc ++ [y]) (j + 1) s1 (fun j' x s m hj => st j' x s (List.mem_cons_of_mem _ m) (by rw [List.length_cons]; omega)) h1 (fun z hz => by
      rcases List.mem_append.mp hz with q | q
      · exact ha z q
      · rw [List.mem_singleton.mp q]; exact hy) (by rw [List.length_append, List.length_singleton]; omega)
    refine ⟨_, s2, ?_, l, rfl, hc, (by rw [hll, List.length_append, List.length_singleton, List.length_cons]; omega), (by
      rw [List.length_cons, show j + (ds.length + 1) = j + 1 + ds.length by omega]
      exact h2)⟩
    unfold lcF
    show (match F (δ.set i (.d d)) s with
      | .ok y s2 => if acc.length < 100000 then lcF i tAll F ds (acc ++ [y]) δ s2 else .stuck
      | _ => .stuck) = _
    rw [e]
    show (if acc.length < 100000 then lcF i tAll F ds (acc ++ [y]) δ s1 else .stuck) = _
    rw [if_pos (by omega), e2]
theorem wp_seq_mv {δ δ1 : Ev} {s s1 : S} {A B : FS} {Q : Fl → S → Prop} (h1 : A δ s = .ok (.nx δ1) s1) (h2 : Wp (B δ1 s1) Q) : Wp (sSeq A B δ s) Q := by
  obtain ⟨f, s2, e, q⟩ := h2
  exact ⟨f, s2, mv_seq h1 e, q⟩
theorem wp_frz {δ : Ev} {s : S} {A : FS} {i : Nat} {Q : Fl → S → Prop} (h : Wp (A (frz i δ) s) Q) : Wp (sFrz i A δ s) Q := h
theorem capt_get {δ : Ev} {i : Nat} {x : D} (h : δ[i]? = some (.d x)) (n : noT x = true) : (capt δ)[i]? = some (.d x) := by
  unfold capt
  rw [List.getElem?_map, h]
  show some (if noT x = true then SV.d x else SV.u) = _
  rw [if_pos n]
/-- all of a row of Trues -/
def AllT (l : List D) : Prop := ∀ d ∈ l, d = .bl true
theorem AllT.nil : AllT [] := fun _ h => by cases h
theorem AllT.snoc {l : List D} (h : AllT l) : AllT (l ++ [.bl true]) := fun d hd => by
  rcases List.mem_append.mp hd with q | q
  · exact h d q
  · exact List.mem_singleton.mp q
theorem boolsT : ∀ {l : List D}, AllT l → ∃ bs, boolsOf l = some bs ∧ bs.all id = true
  | [], _ => ⟨[], rfl, rfl⟩
  | d :: l, h => by
    obtain ⟨bs, e, q⟩ := boolsT (l := l) fun x hx => h x (List.mem_cons_of_mem _ hx)
    obtain rfl := h d List.mem_cons_self
    refine ⟨true :: bs, ?_, by simpa using q⟩
    unfold boolsOf
    rw [e]
theorem gAll_T {l : List D} (h : AllT l) : gAll [.lst l] = some (.bl true) := by
  obtain ⟨bs, e, q⟩ := boolsT h
  show (boolsOf l).map _ = _
  rw [e]
  show some (D.bl (bs.all id)) = _
  rw [q]
theorem flats_str : ∀ (l : List PySem.Str), flats (l.map D.str) = some (l.map V.str)
  | [] => rfl
  | x :: l => by
    rw [List.map_cons, List.map_cons]
    unfold flats
    rw [flats_str l]
    rfl
theorem inV_str {x : PySem.Str} {l : List PySem.Str} : inV (.str x) (l.map V.str) = decide (x ∈ l) := by
  induction l with
  | nil => rfl
  | cons y l ih =>
    unfold inV at ih ⊢
    rw [List.map_cons, List.any_cons, ih]
    show ((y == x) || decide (x ∈ l)) = _
    by_cases e : y = x
    · subst e; simp
    · have : (y == x) = false := by simpa using e
      rw [this]
      simp [List.mem_cons, Ne.symm e, show ¬ x = y from fun z => e z.symm]
theorem gIn_tup {x : PySem.Str} {l : List PySem.Str} : gIn (.str x) (.tup (l.map D.str)) = some (.bl (decide (x ∈ l))) := by
  unfold gIn dIn
  show (match flat (.str x), (some (l.map D.str)).bind flats with
    | some a, some l => some (inV a l)
    | _, _ => none).map D.bl = _
  show (match some (V.str x), flats (l.map D.str) with
    | some a, some l => some (inV a l)
    | _, _ => none).map D.bl = _
  rw [flats_str]
  show some (D.bl (inV (.str x) (l.map V.str))) = _
  rw [inV_str]
theorem bit1 {k : Int} : gI gAndI (.int k) (.int 1) = some (.int (k % 2)) := by
  show some (D.int (Builtin.bitAnd k 1)) = _
  rw [PyProof.Rows.bitAnd_m1]
/-- a lambda handed on -/
theorem mv_lam {n : Nat} {dfl : List D} {Fm : List D → S → R D} {Fb : FE} {FAs : FA} {δ : Ev} {s s1 s2 : S} {e : Option PySem.Str} {p z : D} {ds : List D} (hp : noT p = true) (hout : ∀ s, Fb (capt δ) s = outc e p s) (h1 : FAs δ s = .ok ds s1) (hl : (.thk e p :: ds ++ dfl).length = n) (h2 : Fm (.thk e p :: ds ++ dfl) s1 = .ok z s2) (hz : noT z = true) :
    eLam n dfl Fm Fb FAs δ s = .ok z s2 := by
  unfold eLam
  rw [thkOf_eq hp hout]
  show rb (FAs δ s) _ = _
  rw [h1, rb_ok, if_pos hl, h2]
  show (if noT z = true then R.ok z s2 else R.stuck) = _
  exact if_pos hz
end Mi
namespace Mi
open PySem PySem.Spec PyProof.Rows L2 LamX
/-! ### the law's call, with what whole division of any size asks -/
/-- what stands at the call of the law -/
structure Stand (K : PySem.W.Frag) (mg mb : Str → Option Value) (cs : List (Addr × Addr)) (a : Addr) (vs : List Value) (ns : List Int) (sh : Shared) : Prop where
  kin : K.In sh.heap
  glob : sh.heap.Ns mainGlobals mg
  blt : sh.heap.Ns builtinsNs mb
  boot : ∀ y : Str, y ≠ "__name__" → mb y = bootBuiltins y
  lim : sh.heap.NoLimit
  seer : sh.heap.NoSeer
  gens : sh.gens = #[]
  tab : ∀ q ∈ cs, sh.heap.get? q.2 = some { cls := .none, data := .fields #[] }
  tabK : ∀ q ∈ cs, K.lookup q.2 = none
  code : ∀ q ∈ cs, PySem.W.CodeHd sh.heap q.1 q.2
  main : ∃ (m : Addr) (om : Obj), mg "__builtins__" = some (.ref m) ∧ m ≠ builtinsNs ∧ sh.heap.get? m = some om ∧ om.cls = .type "module" ∧ om.dict = some builtinsNs ∧ om.data = .plain
  arg : sh.heap.get? a = some { cls := .type "list", data := .seq vs.toArray }
  nums : IntsAre vs ns
  size : ns.length ≤ sizeLine
open Classical in
/-- what is tracked there: the script (if it is not written), the empty tables -/
noncomputable def trkd (K : PySem.W.Frag) (cs : List (Addr × Addr)) (a : Addr) (vs : List Value) (ns : List Int) : Hp := fun b =>
  if b = a then (if K.lookup a = none then some (.frz { cls := .type "list", data := .seq vs.toArray } (.lst (ns.map V.int))) else none)
  else if (∃ q ∈ cs, q.2 = b) then some (.tbl #[]) else none
section
variable {K : PySem.W.Frag} {mg mb : Str → Option Value} {cs : List (Addr × Addr)} {a : Addr} {vs : List Value} {ns : List Int} {sh : Shared}
theorem Stand.tabNe (z : Stand K mg mb cs a vs ns sh) {q : Addr × Addr} (hq : q ∈ cs) : q.2 ≠ a := fun e => by
  have h1 := z.tab q hq
  rw [e, z.arg] at h1
  cases h1
theorem trkd_tab (z : Stand K mg mb cs a vs ns sh) {q : Addr × Addr} (hq : q ∈ cs) : trkd K cs a vs ns q.2 = some (.tbl #[]) := by
  unfold trkd
  rw [if_neg (z.tabNe hq), if_pos ⟨q, hq, rfl⟩]
/-- an object that is neither a list nor a table's is not tracked -/
theorem trkd_none (z : Stand K mg mb cs a vs ns sh) {b : Addr} {o : Obj} (e : sh.heap.get? b = some o) (h1 : ∀ its n, o.data ≠ .seq its n) (h2 : o.data ≠ .fields #[]) : trkd K cs a vs ns b = none := by
  unfold trkd
  by_cases hb : b = a
  · rw [hb, z.arg] at e
    cases e
    exact absurd rfl (h1 _ _)
  · rw [if_neg hb, if_neg]
    rintro ⟨q, hq, rfl⟩
    rw [z.tab q hq] at e
    cases e
    exact h2 rfl
theorem trkd_K (z : Stand K mg mb cs a vs ns sh) {b : Addr} {o : Obj} (e : K.lookup b = some o) : trkd K cs a vs ns b = none := by
  unfold trkd
  by_cases hb : b = a
  · rw [if_pos hb, if_neg]
    rw [← hb, e]
    exact fun q => nomatch q
  · rw [if_neg hb, if_neg]
    rintro ⟨q, hq, rfl⟩
    rw [z.tabK q hq] at e
    cases e
theorem trkd_kind {b : Addr} {u : HO} (e : trkd K cs a vs ns b = some u) : (b = a ∧ K.lookup a = none ∧ u = .frz { cls := .type "list", data := .seq vs.toArray } (.lst (ns.map V.int))) ∨ (∃ q ∈ cs, q.2 = b) ∧ b ≠ a ∧ u = .tbl #[] := by
  unfold trkd at e
  split at e
  · rename_i hb
    split at e
    · exact .inl ⟨hb, ‹_›, (Option.some.inj e).symm⟩
    · cases e
  · split at e
    · exact .inr ⟨‹_›, ‹_›, (Option.some.inj e).symm⟩
    · cases e
noncomputable abbrev gnd (K : PySem.W.Frag) (cs : List (Addr × Addr)) (a : Addr) (vs : List Value) (ns : List Int) (sh : Shared) : Heap := hidT sh.heap (trkd K cs a vs ns)
theorem gnd_get (z : Stand K mg mb cs a vs ns sh) {b : Addr} {o : Obj} (e : sh.heap.get? b = some o) (h1 : ∀ its n, o.data ≠ .seq its n) (h2 : o.data ≠ .fields #[]) : (gnd K cs a vs ns sh).get? b = some o := hidT_get e (trkd_none z e h1 h2)
theorem gnd_ns (z : Stand K mg mb cs a vs ns sh) {b : Addr} {m : Str → Option Value} (h : sh.heap.Ns b m) : (gnd K cs a vs ns sh).Ns b m := by
  obtain ⟨o, es, ep, e, hd, r⟩ := h
  refine ⟨o, es, ep, gnd_get z e (fun its n q => ?_) fun q => ?_, hd, r⟩ <;> rw [hd] at q <;> cases q
theorem gnd_seer (z : Stand K mg mb cs a vs ns sh) : (gnd K cs a vs ns sh).NoSeer where
  statics := by
    obtain ⟨m, h1, h2⟩ := z.seer.statics
    exact ⟨m, gnd_ns z h1, h2⟩
  mods := by
    obtain ⟨m, h1, h2⟩ := z.seer.mods
    exact ⟨m, gnd_ns z h1, h2⟩
  imp := by
    obtain ⟨m, h1, h2⟩ := z.seer.imp
    exact ⟨m, gnd_ns z h1, h2⟩
  main := by
    obtain ⟨m, om, h1, h2, h3, h4, h5, h6⟩ := z.main
    refine ⟨mg, m, om, gnd_ns z z.glob, h1, gnd_get z h3 (fun its n q => ?_) fun q => ?_, h4, h5⟩ <;> rw [h6] at q <;> cases q
theorem gnd_kin (z : Stand K mg mb cs a vs ns sh) : K.In (gnd K cs a vs ns sh) := fun b o e => hidT_get (z.kin b o e) (trkd_K z e)
theorem gnd_tab (z : Stand K mg mb cs a vs ns sh) {q : Addr × Addr} (hq : q ∈ cs) : TabB (gnd K cs a vs ns sh) mg q.1 q.2 := by
  have neG : mainGlobals ≠ q.2 := fun e => by
    obtain ⟨o, es, ep, e1, hd, _⟩ := z.glob
    rw [e, z.tab q hq] at e1
    cases e1
    cases hd
  refine ⟨?_, ?_, neG⟩
  · obtain ⟨o, us, file, tf, flags, tg, inF, text, tt, e1, r1, r2, r3, r⟩ := z.code q hq
    refine ⟨o, us, file, tf, flags, tg, inF, text, tt, gnd_get z e1 (fun its n y => ?_) fun y => ?_, r1, r2, r3, r⟩
    · rw [r2] at y
      cases y
    · rw [r2] at y
      cases y
      simp at r3
  · obtain ⟨m, om, h1, h2, h3, h4, h5, h6⟩ := z.main
    refine ⟨m, om, h1, h2, fun e => ?_, fun e => ?_, gnd_get z h3 (fun its n y => ?_) fun y => ?_, h4, h5, h6⟩
    · obtain ⟨o, es, ep, e1, hd, _⟩ := z.glob
      rw [e, e1] at h3
      cases h3
      rw [hd] at h6
      cases h6
    · rw [e, z.tab q hq] at h3
      cases h3
      cases h6
    · rw [h6] at y
      cases y
    · rw [h6] at y
      cases y
theorem trkd_ok {P : Program} {w : World} (z : Stand K mg mb cs a vs ns sh) : HOk P w (trkd K cs a vs ns) sh.heap := fun b u e => by
  rcases trkd_kind e with ⟨rfl, _, rfl⟩ | ⟨⟨q, hq, rfl⟩, _, rfl⟩
  · exact ⟨z.arg, by rw [List.length_map]; exact z.size, vs, _, vals_ints z.nums, z.arg⟩
  · exact z.tab q hq
theorem trkd_arg (z : Stand K mg mb cs a vs ns sh) : SqL K (trkd K cs a vs ns) a (ns.map V.int) := by
  cases e : K.lookup a with
  | none => exact .inl (.inr ⟨_, by unfold trkd; rw [if_pos rfl, if_pos e]⟩)
  | some o =>
    have h1 := z.kin a o e
    rw [z.arg] at h1
    obtain rfl := Option.some.inj h1
    exact .inr ⟨_, vs.toArray, _, e, rfl, rfl, rfl, by rw [List.size_toArray, z.nums.length]; exact z.size, by simpa using vals_ints z.nums⟩
theorem gnd_env {P : Program} {w : World} (z : Stand K mg mb cs a vs ns sh) : Env0 P w K mg (gnd K cs a vs ns sh) callerA [] sh (trkd K cs a vs ns) where
  frames := rfl
  mod := ⟨gnd_kin z, gnd_ns z z.glob, ⟨mb, gnd_ns z z.blt, z.boot⟩, by
    obtain ⟨m, h1, h2⟩ := z.lim
    exact ⟨m, gnd_ns z h1, h2⟩⟩
  bs := fun b o e => of_hidT e
  bsz := Nat.le_of_eq (hidT_size _ _)
  funs := trivial
  frf := fun b hb => nomatch hb
  hok := trkd_ok z
  bare := .of_eq z.gens
theorem stand_call {P : Program} {w : World} {CX : CXT} {k : Nat} {fa : Addr} {fd : FuncData} {x : Str} {sp : Sp} (z : Stand K mg mb cs a vs ns sh) (hr : Room k callerA)
    (F : FnOk P w K mg (gnd K cs a vs ns sh) CX k fa fd [x] sp) (hb : BindsTo sh fd ⟨[.ref a], []⟩ [(x, .ref a)]) (hsp : sp [.ref a] (trkd K cs a vs ns) (fun v _ => v = .bl true) fun _ _ _ => False)
    (hCX : ∀ H e s', CX [] H sh (fun _ _ _ => False) e s' → False) :
    codeAny (model P w) callerA (.call (.ref fa) ⟨[.ref a], []⟩) (fun r s' => r = .ok (.ret (.bool true)) ∧ OldK sh.heap s'.heap ∧ s'.os = sh.os ∧ AllBare s'.gens) sh := by
  refine codeAny_mono (F.run callerA [] sh _ ⟨[.ref a], []⟩ [.ref a] [.ref a] _ _ hr (gnd_env z) hb (.cons rfl .nil) hsp) fun r s' h => ?_
  match r, h with
  | .error e, h => exact (hCX _ e s' h).elim
  | .ok .next, h => exact False.elim h
  | .ok .brk, h => exact False.elim h
  | .ok .cont, h => exact False.elim h
  | .ok (.ret u), ⟨v, H', h1, h2, un, ok', rv, (hv : v = .bl true)⟩ =>
    subst hv
    obtain rfl : u = Value.bool true := rv
    have tabs : ∀ q ∈ cs, ∃ more : Array Value, s'.heap.get? q.2 = some { cls := .none, data := .fields more } := fun q hq => by
      obtain ⟨more, e⟩ := un.tbls q.2 #[] (trkd_tab z hq)
      exact ⟨_, ok' q.2 _ e⟩
    have rest : ∀ b o, (¬ ∃ q ∈ cs, q.2 = b) → sh.heap.get? b = some o → s'.heap.get? b = some o := fun b o nb e => by
      cases e1 : trkd K cs a vs ns b with
      | none => exact un.keep b o e e1 (fun y => nomatch y) fun y => nomatch y
      | some u =>
        rcases trkd_kind e1 with ⟨rfl, _, rfl⟩ | ⟨hb, _⟩
        · rw [z.arg] at e
          cases e
          obtain ⟨e3, _⟩ := ok' b _ (un.frzs b _ _ e1)
          exact e3
        · exact absurd hb nb
    refine ⟨rfl, ⟨fun b o e => ?_, fun b o e => ?_⟩, h1, h2⟩
    · by_cases hb : ∃ q ∈ cs, q.2 = b
      · obtain ⟨q, hq, rfl⟩ := hb
        obtain ⟨more, hm⟩ := tabs q hq
        have e0 := z.tab q hq
        rw [e0] at e
        cases e
        exact .inr (.inl ⟨((z.code q hq).tab e0).isCodeTable, rfl, #[], more, rfl, by rw [Array.empty_append]; exact hm⟩)
      · exact .inl (rest b o hb e)
    · by_cases hb : ∃ q ∈ cs, q.2 = b
      · obtain ⟨q, hq, rfl⟩ := hb
        obtain ⟨more, hm⟩ := tabs q hq
        exact ⟨_, hm⟩
      · exact ⟨o, rest b o hb e⟩
end
/-- what the law's def is to keep, with the heap's part that lasts -/
def Keeping (l : PySem.W.OpenLaw) (w : World) (K : PySem.W.Frag) (k n : Nat) (x : Str) (mg : Str → Option Value) (fa : Addr) (h : Heap) : Prop :=
  ∃ (fd : FuncData) (cs : List (Addr × Addr)) (sp : Sp), (∀ q ∈ cs, h.get? q.2 = some { cls := .none, data := .fields #[] } ∧ K.lookup q.2 = none ∧ PySem.W.CodeHd h q.1 q.2) ∧ (∀ (s : Shared) (u : Value), BindsTo s fd ⟨[u], []⟩ [(x, u)]) ∧
    (∀ (H : Hp) (a : Addr) (ns : List Int), ns.length ≤ n → (∀ z ∈ ns, Builtin.Int.intBits z ≤ 1048576) → (∀ q ∈ cs, H q.2 = some (.tbl #[])) → SqL K H a (ns.map V.int) → (∀ b o, K.lookup b = some o → H b = none) → (∀ b ps, H b = some (.tbl ps) → ps = #[] ∧ ∃ q ∈ cs, q.2 = b) → (∀ b xs, H b ≠ some (.lst xs)) → sp [.ref a] H (fun v _ => v = .bl true) fun _ _ _ => False) ∧
    ∀ base : Heap, K.In base → base.Ns mainGlobals mg → base.NoSeer → (∀ q ∈ cs, TabB base mg q.1 q.2) → FnOk l.prog w K mg base (L2N.CX l.prog w) k fa fd [x] sp
theorem walk_seer {l : PySem.W.OpenLaw} {n k : Nat} {q : Program} {loose : List Str} {XP : (Str → Option Value) → Heap → Prop} {YP : World → Heap → Prop} {d : DefRec} {x : Str}
    (hn : l.most = some n) (hn2 : n ≤ sizeLine) (hdf : d.params.defaults = []) (hr : Room k callerA) (him : importsNone q = true)
    (F : ∀ (w : World) (mg : Str → Option Value) (fa : Addr) (h : Heap), YP w h → h.Ns mainGlobals mg → mg d.name = some (.ref fa) → ∃ K : PySem.W.Frag, K.In h ∧ Keeping l w K k n x mg fa h) :
    PySem.W.WalkO q loose XP YP l.row.toRowW d [] (fun f vs => PySem.call f vs) := by
  refine Att.attach_callB hn hdf fun w s₀ sh mg mb fa o pm cd doc a vs ns G Y ho hd hcd hmg hobj hints hlen hbits hg => ?_
  obtain ⟨K, kin, fd, cs, sp, ht, hb, hsp, hF⟩ := F w mg fa _ Y G.T.g hmg
  have z : Stand K mg mb cs a vs ns sh := ⟨kin, G.T.g, G.T.b, G.T.builtins, G.T.nolimit, G.T.seer him, hg, fun q hq => (ht q hq).1, fun q hq => (ht q hq).2.1, fun q hq => (ht q hq).2.2, G.T.bmain, hobj, hints, Nat.le_trans hlen hn2⟩
  refine stand_call z hr (hF _ (gnd_kin z) (gnd_ns z z.glob) (gnd_seer z) fun q hq => gnd_tab z hq) (hb _ _) (hsp _ a ns hlen hbits (fun q hq => trkd_tab z hq) (trkd_arg z) (fun b o e => trkd_K z e) (fun b ps e => ?_) fun b xs e => ?_) fun H e s' hx => ?_
  · rcases trkd_kind e with ⟨_, _, y⟩ | ⟨hb, _, y⟩
    · cases y
    · cases y
      exact ⟨rfl, hb⟩
  · rcases trkd_kind e with ⟨_, _, y⟩ | ⟨_, _, y⟩ <;> cases y
  · obtain ⟨_, _, _, _, _, _, _, _, _, _, _, _, y⟩ := hx
    exact y
end Mi
namespace Mi
open PySem PySem.Spec PyProof.Rows L2 LamX
/-! ### from the head's facts to what the terms ask -/
section
variable {K : PySem.W.Frag} {h : Heap} {mg : Str → Option Value} {base : Heap}
theorem fun_of {x qual : Str} {st : Stmt} {f : Addr} {fd : FuncData} {kws : List (Str × V)} (F : FunD K x qual (defArgs st) (defBody st) (defScope st) [] kws f fd) : Fun K x qual st f fd := by
  obtain ⟨oc, od, dV, kV, doc, pm, an, cdv, ct, osl, e, lk, hcd, hD, _⟩ := F.ex
  rcases hD with ⟨_, hd⟩ | ⟨z, _⟩
  · subst hd
    exact ⟨⟨oc, od, kV, doc, pm, an, cdv, ct, osl, e, lk, hcd⟩, F.kp⟩
  · exact absurd rfl z
theorem errOk_of {x : Str} (c : (He.Fa.exc x).ok K = true) (m : mg x = some (.ref (He.ga K x))) : ErrOk K mg x := by
  obtain ⟨c1, c2, c3, c4⟩ := He.exc_ok c
  exact ⟨_, m, c1, c2, c3, c4⟩
theorem excC_of {C : Addr} (c : excCB K C = true) : ExcC K C := by
  unfold excCB at c
  simp only [Bool.and_eq_true, decide_eq_true_eq] at c
  obtain ⟨h1, h2, h3, h4, h5, h6, h7, h8⟩ := c
  exact ⟨h1, h2, h3, h4, h5, h6, h7, h8⟩
theorem errN_mem {x : Str} (hx : errN x = true) : x ∈ errL := by
  obtain ⟨y, hy, e⟩ := List.any_eq_true.mp hx
  rw [beq_iff_eq.mp e]
  exact hy
theorem isE_mem {x y : Str} {b : Bool} (e : isE x y = some b) : x ∈ errL ∧ y ∈ errR := by
  unfold isE at e
  split at e
  · rename_i q
    obtain ⟨h1, h2⟩ := Bool.and_eq_true_iff.mp q
    refine ⟨errN_mem h1, ?_⟩
    rcases Bool.or_eq_true_iff.mp h2 with z | z
    · exact List.mem_append_left _ (errN_mem z)
    · rw [beq_iff_eq.mp z]
      exact List.mem_append_right _ List.mem_cons_self
  · cases e
theorem isTab_of (c : isTabB K = true) (m : ∀ x ∈ errR, mg x = some (.ref (He.ga K x))) : IsTab K mg := by
  have at1 : ∀ x ∈ errL, excCB K (He.ga K x) = true ∧ PySem.W.kitOne K (.ref (He.ga K x)) (.type "ValueError") = some true ∧ ∀ y ∈ errR, relE K x y = true := fun x hx => by
    have h1 := List.all_eq_true.mp c x hx
    obtain ⟨h2, h3⟩ := Bool.and_eq_true_iff.mp h1
    obtain ⟨h4, h5⟩ := Bool.and_eq_true_iff.mp h3
    exact ⟨h2, of_decide_eq_true h4, List.all_eq_true.mp h5⟩
  have ga : ∀ {x : Str} {C : Addr}, x ∈ errR → mg x = some (.ref C) → C = He.ga K x := fun {x C} hx e => by
    rw [m x hx] at e
    exact (Value.ref.inj (Option.some.inj e)).symm
  have rel : ∀ {x y : Str} {b : Bool}, isE x y = some b → PySem.W.kitOne K (.ref (He.ga K x)) (.ref (He.ga K y)) = some b ∧ PySem.W.exmOne K (.ref (He.ga K x)) (.ref (He.ga K y)) = some b := fun {x y b} e => by
    obtain ⟨hx, hy⟩ := isE_mem e
    have h1 := (at1 x hx).2.2 y hy
    unfold relE at h1
    rw [e] at h1
    obtain ⟨h2, h3⟩ := Bool.and_eq_true_iff.mp h1
    exact ⟨of_decide_eq_true h2, of_decide_eq_true h3⟩
  refine ⟨fun x C hx e => ?_, fun x y b C C2 e e1 e2 => ?_, fun x y b C C2 e e1 e2 => ?_, fun x C hx e => ?_⟩
  · have hx := errN_mem hx
    rw [ga (List.mem_append_left _ hx) e]
    exact excC_of (at1 x hx).1
  · obtain ⟨hx, hy⟩ := isE_mem e
    rw [ga (List.mem_append_left _ hx) e1, ga hy e2]
    exact (rel e).1
  · obtain ⟨hx, hy⟩ := isE_mem e
    rw [ga (List.mem_append_left _ hx) e1, ga hy e2]
    exact (rel e).2
  · have hx := errN_mem hx
    rw [ga (List.mem_append_left _ hx) e]
    exact (at1 x hx).2.1
/-- a module's tuple of texts -/
theorem globK_tup {x : Str} {l : List Str} (c : He.tupB K x (l.map He.Dv.str) = true) (m : mg x = some (.ref (He.ga K x))) : GlobK K mg x (.tup (l.map D.str)) := by
  have hq : ∃ (o : Obj) (its : Array Value) (n : Nat), K.lookup (He.ga K x) = some o ∧ o.cls = .type "tuple" ∧ o.data = .seq its n ∧ its.size ≤ sizeLine ∧ Vals (l.map V.str) its.toList := by
    have h1 := He.tupB_ok c (fun _ => none)
    rw [List.map_map] at h1
    rcases h1 with (z | ⟨o, z⟩) | z
    · cases z
    · cases z
    · exact z
  refine ⟨.ref (He.ga K x), .ref (He.ga K x), m, rfl, fun cc B H e b => ?_⟩
  subst e
  refine ⟨_, l.map V.str, rfl, fun q => ?_, .inr hq, flats_dv' (flats_str l)⟩
  obtain ⟨o, its, n, e, _⟩ := hq
  rw [b.kf _ (b.there _ q)] at e
  cases e
theorem globK_int {x : Str} {i : Int} (X : K.In h) (G : h.Ns mainGlobals mg) (c : (He.Fa.int x i).ok K = true) : GlobK K mg x (.int i) := by
  obtain ⟨t, m⟩ := He.int_ok X G c
  exact ⟨.int i, .int i t, m, ⟨t, rfl⟩, fun _ _ _ _ _ => rfl⟩
theorem bfB_ok {x : Str} {id : String} (X : K.In h) (G : h.Ns mainGlobals mg) (c : bfB K x id = true) : mg x = some (.builtin id) := PySem.W.mg_of X G (He.eqO_ok c)
/-- the tables of the defs that make lambdas -/
def TbOf (K : PySem.W.Frag) (L : List (Str × Str)) : List (Addr × Str) := L.map fun p => ((He.cT K (p.1, none)).2, p.2 ++ "<lambda>")
theorem nodup_inj {α β : Type} {f : α → β} : ∀ {l : List α}, (l.map f).Nodup → ∀ {a b : α}, a ∈ l → b ∈ l → f a = f b → a = b
  | [], _, _, _, h, _, _ => nomatch h
  | c :: l, hn, a, b, ha, hb, e => by
    rw [List.map_cons, List.nodup_cons] at hn
    rcases List.mem_cons.mp ha with e1 | h1
    · rcases List.mem_cons.mp hb with e2 | h2
      · rw [e1, e2]
      · exact absurd (List.mem_map.mpr ⟨b, h2, by rw [← e, e1]⟩) hn.1
    · rcases List.mem_cons.mp hb with e2 | h2
      · exact absurd (List.mem_map.mpr ⟨a, h1, by rw [e, e2]⟩) hn.1
      · exact nodup_inj hn.2 h1 h2 e
theorem lamK_of {L : List (Str × Str)} {x q : Str} {params : Arguments} {body : List Stmt} {scope : Scope} {fd : FuncData} (hd : disB K L = true) (hp : (x, q) ∈ L) (F : FunD K x x params body scope [] [] (He.fAd K (x, none)) fd)
    (tb : ∀ p ∈ L, TabB base mg (He.cT K (p.1, none)).1 (He.cT K (p.1, none)).2) : LamK base mg (TbOf K L) fd q := by
  obtain ⟨oc, od, dV, kV, doc, pm, an, cdv, ct, osl, rfl, lk, hcd, _, _⟩ := F.ex
  obtain ⟨c, rfl⟩ := He.codeIn_ref hcd
  have e := He.codeOf_eq (p := (x, none)) lk rfl
  refine ⟨(He.cT K (x, none)).1, (He.cT K (x, none)).2, tb _ hp, ?_, List.mem_map.mpr ⟨_, hp, rfl⟩, fun p hpT e1 => ?_⟩
  · show Value.ref c = Value.ref (He.codeOf K (x, none))
    rw [e]
  · obtain ⟨r, hr, rfl⟩ := List.mem_map.mp hpT
    have := nodup_inj (of_decide_eq_true hd) hr hp e1
    rw [this]
theorem tabs_of {L : List (Str × Str)} {H : Hp} (ht : ∀ p ∈ L, H (He.cT K (p.1, none)).2 = some (.tbl #[])) : Tabs (TbOf K L) H := fun p hp => by
  obtain ⟨r, hr, rfl⟩ := List.mem_map.mp hp
  exact TabS.nil (ht r hr)
end
end Mi
namespace Mi
open PySem PySem.Spec PyProof.Rows L2
/-! ### a, b = x, y -/
def sPar (i j : Nat) (F : FA) : FS := fun δ s => rb (F δ s) fun ds s1 => match ds with
  | [a, b] => .ok (.nx ((δ.set i (.d a)).set j (.d b))) s1
  | _ => .stuck
theorem s_par {X : Cx} {st : Sto} {E : XK} {pos px py pt : Pos} {kt k2 pt2} {a b : Expr} {FAs : FA} {x y : Str} (i j : Nat) (hc : X.calm = true) (hN : X.N.Nodup) (h1 : AD X st E [a, b] FAs) (hi : X.N[i]? = some x := by rfl) (hj : X.N[j]? = some y := by rfl) (hij : i ≠ j := by decide)
    (hx : X.env.scope.names.lookup x = some .local := by rfl) (hy : X.env.scope.names.lookup y = some .local := by rfl) (hw : swappedStores [.Tuple [.Name x px, .Name y py] kt pt] (.Tuple [a, b] k2 pt2) X.env = pure (some [x, y]) := by rfl)
    (hs : swapsWithSole [.Tuple [.Name x px, .Name y py] kt pt] (.Tuple [a, b] k2 pt2) pos.line X.env = pure false := by rfl) : S1 X st E (.Assign [.Tuple [.Name x px, .Name y py] kt pt] (.Tuple [a, b] k2 pt2) pos) (sPar i j FAs) := by
  obtain ⟨t1, p1, r1⟩ := h1
  refine ⟨_, ps_par (i := i) (j := j) hc hN hi hj hij hx hy p1 hw hs, fun Dn σ δ H0 B H s po hs r h => ?_⟩
  refine r1 σ δ _ H s _ (r.at hs) (PostS.ofE r.keeps h fun ds s1 vs H1 kf k hs1 dv h => ?_)
  match ds, dv, h with
  | [d1, d2], dv, h =>
    obtain ⟨v, w, rfl, dv1, dv2⟩ := dvs2 dv
    refine ⟨v, w, rfl, ?_⟩
    obtain ⟨r2, g2⟩ := (r.eval hs kf k).set i dv1
    obtain ⟨r3, g3⟩ := r2.set j (DV.grow g2 d2 w dv2)
    exact h _ H1 po hs1 r3 ((((r.bok hs).grow k).trans g2).trans g3)
  | [], _, h => exact False.elim h
  | [_], _, h => exact False.elim h
  | _ :: _ :: _ :: _, _, h => exact False.elim h
/-! ### a, b, c = x, y, z -/
def sPar3 (i j l : Nat) (F : FA) : FS := fun δ s => rb (F δ s) fun ds s1 => match ds with
  | [a, b, c] => .ok (.nx (((δ.set i (.d a)).set j (.d b)).set l (.d c))) s1
  | _ => .stuck
theorem dvs3 {c : Cf} {B : Bad} {H : Hp} {d d' d2 : D} {vs : List V} (h : DVs c [d, d', d2] B H vs) : ∃ v w x, vs = [v, w, x] ∧ DV c d B H v ∧ DV c d' B H w ∧ DV c d2 B H x := by
  obtain ⟨v, ws, rfl, h1, h2⟩ := h
  obtain ⟨w, x, rfl, h3, h4⟩ := dvs2 h2
  exact ⟨v, w, x, rfl, h1, h3, h4⟩
theorem s_par3 {X : Cx} {st : Sto} {E : XK} {pos px py pz pt : Pos} {kt k2 pt2} {a b c : Expr} {FAs : FA} {x y z : Str} (i j l : Nat) (hc : X.calm = true) (hN : X.N.Nodup) (h1 : AD X st E [a, b, c] FAs) (hi : X.N[i]? = some x := by rfl) (hj : X.N[j]? = some y := by rfl) (hl : X.N[l]? = some z := by rfl) (hij : i ≠ j := by decide) (hil : i ≠ l := by decide) (hjl : j ≠ l := by decide)
    (hx : X.env.scope.names.lookup x = some .local := by rfl) (hy : X.env.scope.names.lookup y = some .local := by rfl) (hz : X.env.scope.names.lookup z = some .local := by rfl) (hw : swappedStores [.Tuple [.Name x px, .Name y py, .Name z pz] kt pt] (.Tuple [a, b, c] k2 pt2) X.env = pure (some [x, y, z]) := by rfl)
    (hs : swapsWithSole [.Tuple [.Name x px, .Name y py, .Name z pz] kt pt] (.Tuple [a, b, c] k2 pt2) pos.line X.env = pure false := by rfl) : S1 X st E (.Assign [.Tuple [.Name x px, .Name y py, .Name z pz] kt pt] (.Tuple [a, b, c] k2 pt2) pos) (sPar3 i j l FAs) := by
  obtain ⟨t1, p1, r1⟩ := h1
  refine ⟨_, ps_par3 (i := i) (j := j) (l := l) hc hN hi hj hl hij hil hjl hx hy hz p1 hw hs, fun Dn σ δ H0 B H s po hs r h => ?_⟩
  refine r1 σ δ _ H s _ (r.at hs) (PostS.ofE r.keeps h fun ds s1 vs H1 kf k hs1 dv h => ?_)
  match ds, dv, h with
  | [d1, d2, d3], dv, h =>
    obtain ⟨v, w, x, rfl, dv1, dv2, dv3⟩ := dvs3 dv
    refine ⟨v, w, x, rfl, ?_⟩
    obtain ⟨r2, g2⟩ := (r.eval hs kf k).set i dv1
    obtain ⟨r3, g3⟩ := r2.set j (DV.grow g2 d2 w dv2)
    obtain ⟨r4, g4⟩ := r3.set l (DV.grow g3 d3 x (DV.grow g2 d3 x dv3))
    exact h _ H1 po hs1 r4 (((((r.bok hs).grow k).trans g2).trans g3).trans g4)
  | [], _, h => exact False.elim h
  | [_], _, h => exact False.elim h
  | [_, _], _, h => exact False.elim h
  | _ :: _ :: _ :: _ :: _, _, h => exact False.elim h
end Mi
namespace Mi
open PySem PySem.Spec PyProof.Rows L2
theorem gEq_int {i j : Int} : gEq (.int i) (.int j) = some (.bl (decide (i = j))) := by
  show (if scal (V.int i) (V.int j) = true then some (decide (V.int i = V.int j)) else dEqG (.int i) (.int j)).map D.bl = _
  rw [if_pos (show scal (V.int i) (V.int j) = true from rfl)]
  simp
theorem gNe_int {i j : Int} : gNe (.int i) (.int j) = some (.bl (!decide (i = j))) := by
  show (if scal (V.int i) (V.int j) = true then some (decide (V.int i = V.int j)) else dEqG (.int i) (.int j)).map (fun k => D.bl (!k)) = _
  rw [if_pos (show scal (V.int i) (V.int j) = true from rfl)]
  simp
theorem gLt_int {i j : Int} : gLt (.int i) (.int j) = some (.bl (decide (i < j))) := rfl
theorem gGt_int {i j : Int} : gGt (.int i) (.int j) = some (.bl (decide (j < i))) := rfl
theorem gLe_int {i j : Int} : gLe (.int i) (.int j) = some (.bl (decide (i ≤ j))) := rfl
theorem gGe_int {i j : Int} : gGe (.int i) (.int j) = some (.bl (decide (j ≤ i))) := rfl
theorem gNeg_int {i : Int} : gNeg (.int i) = some (.int (-i)) := rfl
theorem gInt_bl {b : Bool} : gInt [.bl b] = some (.int (if b then 1 else 0)) := rfl
theorem gMax2 {i j : Int} : gMax [.int i, .int j] = some (.int (max i j)) := rfl
theorem gMin2 {i j : Int} : gMin [.int i, .int j] = some (.int (min i j)) := rfl
theorem gBits_int {i : Int} : gBits (.int i) = some (.int (Builtin.Int.intBits i)) := rfl
theorem gAbs_i {i : Int} : gAbs [.int i] = some (.int i.natAbs) := by
  first
    | rfl
    | (show some (D.int _) = _; congr 2; omega)
    | (unfold gAbs; simp; omega)
theorem gLen_tup {l : List D} : gLen [.tup l] = some (.int l.length) := rfl
theorem gLen_lst {l : List D} : gLen [.lst l] = some (.int l.length) := rfl
theorem gMul_s {i j : Int} (h : Builtin.Int.intBits i + Builtin.Int.intBits j ≤ 134217728) : gI gMulI (.int i) (.int j) = some (.int (i * j)) := gMul_int (Nat.le_refl _) (Nat.le_refl _) h
theorem gShl_s {i j : Int} {n : Nat} (h0 : 0 ≤ j) (hi : Builtin.Int.intBits i ≤ n) (h : n + j ≤ 134217728) : gI gShlI (.int i) (.int j) = some (.int (i * 2 ^ j.toNat)) := by
  show gShlI i j = _
  unfold gShlI
  refine if_pos ⟨h0, ?_⟩
  omega
theorem gDiv_mid {i j : Int} (h : 0 < j) (hb : Builtin.Int.intBits j ≤ 9000) : gI gDivI (.int i) (.int j) = some (.int (i / j)) := if_pos ⟨h, PyProof.noPylong_of_log2 (by
  have h1 := PySem.intBits_le_iff.mp hb
  have h2 : j.natAbs ≠ 0 := by omega
  exact (Nat.log2_lt h2).mpr h1)⟩
theorem lcF_map {i : Nat} {F : FE} {f : D → D} {δ : Ev} {s : S} : ∀ (ds acc : List D), (∀ d ∈ ds, F (δ.set i (.d d)) s = .ok (f d) s) → acc.length + ds.length ≤ 100000 → lcF i tAll F ds acc δ s = .ok (.lst (acc ++ ds.map f)) s
  | [], acc, _, _ => by simp [lcF]
  | d :: ds, acc, h, hl => by
    simp only [List.length_cons] at hl
    unfold lcF
    show (match F (δ.set i (.d d)) s with
      | .ok y s2 => if acc.length < 100000 then lcF i tAll F ds (acc ++ [y]) δ s2 else .stuck
      | _ => .stuck) = _
    rw [h d List.mem_cons_self]
    show (if acc.length < 100000 then lcF i tAll F ds (acc ++ [f d]) δ s else .stuck) = _
    rw [if_pos (by omega), lcF_map ds (acc ++ [f d]) (fun x hx => h x (List.mem_cons_of_mem _ hx)) (by rw [List.length_append, List.length_singleton]; omega)]
    simp
def isI : D → Bool
  | .int _ => true
  | _ => false
theorem boolsB {f : D → Bool} : ∀ (l : List D), boolsOf (l.map fun d => .bl (f d)) = some (l.map f)
  | [] => rfl
  | d :: l => by
    rw [List.map_cons, List.map_cons]
    unfold boolsOf
    rw [boolsB l]
theorem gAll_map {f : D → Bool} (l : List D) : gAll [.lst (l.map fun d => .bl (f d))] = some (.bl (l.all f)) := by
  show (boolsOf _).map _ = _
  rw [boolsB]
  show some (D.bl ((l.map f).all id)) = _
  rw [List.all_map]
  rfl
theorem wp_own {δ : Ev} {s : S} {i : Nat} {FAs : FA} {Q : Fl → S → Prop} (h : Wp (FAs δ s) fun ds s1 => ds.length ≤ 100000 ∧ Q (.nx (δ.set i (.o ds))) s1) : Wp (sOwn i FAs δ s) Q := by
  obtain ⟨x, s1, e1, hl, q⟩ := h
  exact ⟨_, s1, mv_own e1 hl, q⟩
theorem wp_sApp {δ : Ev} {s : S} {i : Nat} {F : FE} {ds : List D} {Q : Fl → S → Prop} (h0 : δ[i]? = some (.o ds)) (hl : ds.length < 100000) (h : Wp (F δ s) fun d s1 => Q (.nx (δ.set i (.o (ds ++ [d])))) s1) : Wp (sApp i F δ s) Q := by
  obtain ⟨x, s1, e1, q⟩ := h
  exact ⟨_, s1, mv_sApp h0 e1 hl, q⟩
theorem mv_sExt {δ : Ev} {s s1 : S} {i : Nat} {FAs : FA} {ds es : List D} (h0 : δ[i]? = some (.o ds)) (h1 : FAs δ s = .ok es s1) (hl : es.length ≤ 50000 ∧ ds.length ≤ 50000) : sExt i FAs δ s = .ok (.nx (δ.set i (.o (ds ++ es)))) s1 := by
  unfold sExt
  rw [h0]
  show rb (FAs δ s) _ = _
  rw [h1, rb_ok, if_pos hl]
theorem wp_sExt {δ : Ev} {s : S} {i : Nat} {FAs : FA} {ds : List D} {Q : Fl → S → Prop} (h0 : δ[i]? = some (.o ds)) (hl : ds.length ≤ 50000) (h : Wp (FAs δ s) fun es s1 => es.length ≤ 50000 ∧ Q (.nx (δ.set i (.o (ds ++ es)))) s1) : Wp (sExt i FAs δ s) Q := by
  obtain ⟨x, s1, e1, q1, q⟩ := h
  exact ⟨_, s1, mv_sExt h0 e1 ⟨q1, hl⟩, q⟩
theorem wp_par {δ : Ev} {s : S} {i j : Nat} {FAs : FA} {Q : Fl → S → Prop} (h : Wp (FAs δ s) fun ds s1 => ∃ a b, ds = [a, b] ∧ Q (.nx ((δ.set i (.d a)).set j (.d b))) s1) : Wp (sPar i j FAs δ s) Q := by
  obtain ⟨ds, s1, e1, a, b, rfl, q⟩ := h
  refine ⟨_, s1, ?_, q⟩
  unfold sPar
  rw [e1, rb_ok]
theorem mv_tgt {δ δ' : Ev} {s s1 : S} {F : FE} {T : FG} {d : D} (h1 : F δ s = .ok d s1) (h2 : T d δ = some δ') : sTgt F T δ s = .ok (.nx δ') s1 := by
  unfold sTgt
  rw [h1, rb_ok, h2]
theorem mv_par {δ : Ev} {s s1 : S} {i j : Nat} {FAs : FA} {a b : D} (h1 : FAs δ s = .ok [a, b] s1) : sPar i j FAs δ s = .ok (.nx ((δ.set i (.d a)).set j (.d b))) s1 := by
  unfold sPar
  rw [h1, rb_ok]
theorem mv_par3 {δ : Ev} {s s1 : S} {i j l : Nat} {FAs : FA} {a b c : D} (h1 : FAs δ s = .ok [a, b, c] s1) : sPar3 i j l FAs δ s = .ok (.nx (((δ.set i (.d a)).set j (.d b)).set l (.d c))) s1 := by
  unfold sPar3
  rw [h1, rb_ok]
theorem wp_par3 {δ : Ev} {s : S} {i j l : Nat} {FAs : FA} {Q : Fl → S → Prop} (h : Wp (FAs δ s) fun ds s1 => ∃ a b c, ds = [a, b, c] ∧ Q (.nx (((δ.set i (.d a)).set j (.d b)).set l (.d c))) s1) : Wp (sPar3 i j l FAs δ s) Q := by
  obtain ⟨ds, s1, e1, a, b, c, rfl, q⟩ := h
  exact ⟨_, s1, mv_par3 e1, q⟩
theorem wp_tgt {δ : Ev} {s : S} {F : FE} {T : FG} {Q : Fl → S → Prop} (h : Wp (F δ s) fun d s1 => ∃ δ', T d δ = some δ' ∧ Q (.nx δ') s1) : Wp (sTgt F T δ s) Q := by
  obtain ⟨d, s1, e1, δ', e2, q⟩ := h
  refine ⟨_, s1, ?_, q⟩
  unfold sTgt
  rw [e1, rb_ok, e2]
theorem wp_expr {δ : Ev} {s : S} {F : FE} {Q : Fl → S → Prop} (h : Wp (F δ s) fun _ s1 => Q (.nx δ) s1) : Wp (sExpr F δ s) Q := by
  obtain ⟨x, s1, e1, q⟩ := h
  exact ⟨_, s1, mv_expr e1, q⟩
theorem wp_eand {δ : Ev} {s : S} {F G : FE} {Q : D → S → Prop} (h : Wp (F δ s) fun d s1 => ∃ b, d = .bl b ∧ (b = false → Q (.bl false) s1) ∧ (b = true → Wp (G δ s1) Q)) : Wp (eAnd F G δ s) Q := by
  obtain ⟨d, s1, e1, b, rfl, q1, q2⟩ := h
  cases b with
  | false =>
    refine ⟨_, s1, ?_, q1 rfl⟩
    unfold eAnd
    rw [e1, rb_ok]
  | true =>
    obtain ⟨x, s2, e2, q⟩ := q2 rfl
    refine ⟨x, s2, ?_, q⟩
    unfold eAnd
    rw [e1, rb_ok]
    exact e2
theorem wp_eif {δ : Ev} {s : S} {T : FT} {F G : FE} {Q : D → S → Prop} (h : Wp (T δ s) fun b s1 => (b = true → Wp (F δ s1) Q) ∧ (b = false → Wp (G δ s1) Q)) : Wp (eIf T F G δ s) Q := by
  obtain ⟨b, s1, e1, q1, q2⟩ := h
  cases b with
  | true =>
    obtain ⟨x, s2, e2, q⟩ := q1 rfl
    exact ⟨x, s2, mv_eif_t e1 e2, q⟩
  | false =>
    obtain ⟨x, s2, e2, q⟩ := q2 rfl
    exact ⟨x, s2, mv_eif_f e1 e2, q⟩
/-- a loop that may hand back from within -/
theorem wp_loop {N : FG} {G : FS} {R0 : D → S → Prop} : ∀ (ds : List D) (P : Nat → Ev → S → Prop) (δ : Ev) (s : S), (∀ j d δ s, ds[j]? = some d → P j δ s → ∃ δ1, N d δ = some δ1 ∧ Wp (G δ1 s) fun fl s2 => (∃ δ2, fl = .nx δ2 ∧ P (j + 1) δ2 s2) ∨ ∃ d, fl = .rt d ∧ R0 d s2) → P 0 δ s →
    Wp (loopF N G ds δ s) fun fl s2 => (∃ δ2, fl = .nx δ2 ∧ P ds.length δ2 s2) ∨ ∃ d, fl = .rt d ∧ R0 d s2
  | [], P, δ, s, _, h => ⟨_, s, rfl, .inl ⟨δ, rfl, h⟩⟩
  | d :: ds, P, δ, s, st, h => by
    obtain ⟨δ1, e1, fl, s2, e2, h2⟩ := st 0 d δ s rfl h
    have e3 : loopF N G (d :: ds) δ s = rb (.ok fl s2) fun fl s1 => match fl with
        | .nx δ' => loopF N G ds δ' s1
        | .ct δ' => loopF N G ds δ' s1
        | .bk δ' => .ok (.nx δ') s1
        | .rt d => .ok (.rt d) s1 := by
      conv => lhs; unfold loopF
      rw [e1]
      show rb (G δ1 s) _ = _
      rw [e2]
      all_goals rfl
    rw [e3, rb_ok]
    rcases h2 with ⟨δ2, rfl, h2⟩ | ⟨d', rfl, h2⟩
    · exact wp_loop ds (fun j => P (j + 1)) δ2 s2 (fun j x δ s e p => st (j + 1) x δ s (by simpa using e) p) h2
    · exact ⟨_, s2, rfl, .inr ⟨d', rfl, h2⟩⟩
theorem wp_for {I : FI} {N : FG} {G : FS} {δ : Ev} {s s1 : S} {ds : List D} {Q : Fl → S → Prop} (R0 : D → S → Prop) (P : Nat → Ev → S → Prop) (h1 : I δ s = .ok ds s1) (h0 : P 0 δ s1) (st : ∀ j d δ s, ds[j]? = some d → P j δ s → ∃ δ1, N d δ = some δ1 ∧ Wp (G δ1 s) fun fl s2 => (∃ δ2, fl = .nx δ2 ∧ P (j + 1) δ2 s2) ∨ ∃ d, fl = .rt d ∧ R0 d s2)
    (q1 : ∀ δ2 s2, P ds.length δ2 s2 → Q (.nx δ2) s2) (q2 : ∀ d s2, R0 d s2 → Q (.rt d) s2) : Wp (sFor I N G δ s) Q := by
  have h := wp_loop (R0 := R0) ds P δ s1 st h0
  have e : sFor I N G δ s = loopF N G ds δ s1 := by
    unfold sFor
    rw [h1, rb_ok]
  rw [e]
  refine Wp.mono h fun fl s2 z => ?_
  rcases z with ⟨δ2, rfl, z⟩ | ⟨d, rfl, z⟩
  · exact q1 _ _ z
  · exact q2 _ _ z
theorem Wp.eq {α : Type} {r : R α} {a : α} {s : S} (h : Wp r fun a' s' => a' = a ∧ s' = s) : r = .ok a s := by
  obtain ⟨_, _, e, rfl, rfl⟩ := h
  exact e
end Mi
local macro_rules
  | `(tactic| walk_at "own wop") => `(tactic| first
    | with_reducible refine ⟨_, Mi.gAdd_int, ?_⟩
    | with_reducible refine ⟨_, Mi.gSub_int, ?_⟩
    | with_reducible refine ⟨_, Mi.gInt_int, ?_⟩
    | with_reducible refine ⟨_, Mi.gEq_int, ?_⟩
    | with_reducible refine ⟨_, Mi.gNe_int, ?_⟩
    | with_reducible refine ⟨_, Mi.gLt_int, ?_⟩
    | with_reducible refine ⟨_, Mi.gGt_int, ?_⟩
    | with_reducible refine ⟨_, Mi.gLe_int, ?_⟩
    | with_reducible refine ⟨_, Mi.gGe_int, ?_⟩
    | with_reducible refine ⟨_, Mi.gNeg_int, ?_⟩
    | with_reducible refine ⟨_, Mi.gInt_bl, ?_⟩
    | with_reducible refine ⟨_, Mi.gMax2, ?_⟩
    | with_reducible refine ⟨_, Mi.gMin2, ?_⟩
    | with_reducible refine ⟨_, Mi.gBits_int, ?_⟩
    | with_reducible refine ⟨_, Mi.gAbs_i, ?_⟩
    | with_reducible refine ⟨_, Mi.gLen_tup, ?_⟩
    | with_reducible refine ⟨_, Mi.gLen_lst, ?_⟩
    | refine ⟨_, _, (rfl : [_, _] = [_, _]), ?_⟩
    | refine ⟨_, _, _, (rfl : [_, _, _] = [_, _, _]), ?_⟩
    | refine ⟨(rfl : List.length _ = _), ?_⟩
    | refine ⟨_, (show Mi.nTup _ _ _ _ = some _ from rfl), ?_⟩
    | refine ⟨show (_ : Nat) ≤ 100000 from Nat.le_of_ble_eq_true rfl, ?_⟩)
namespace Mi
open PySem PySem.Spec PyProof.Rows L2
end Mi
local macro_rules
  | `(tactic| walk_at "own wgo") => `(tactic| repeat' (first
    | walk_at "own wstep"
    | walk_at "own wop"
    | with_reducible apply Mi.wp_if
    | with_reducible apply Mi.wp_and
    | with_reducible apply Mi.wp_or
    | with_reducible apply Mi.wp_expr
    | with_reducible apply Mi.wp_own
    | with_reducible apply Mi.wp_par
    | with_reducible apply Mi.wp_par3
    | with_reducible apply Mi.wp_app
    | with_reducible apply Mi.wp_tgt
    | with_reducible apply Mi.wp_eif))
namespace Mi
open PySem PySem.Spec PyProof.Rows L2
end Mi
namespace Mi
open PySem PySem.Spec PyProof.Rows L2 PySem.W PySem.Calls
theorem room_inv {M : Model} {A : Around} {E : Value → Shared → Prop} {s : Shared} {Q : Unit → Shared → Prop} {n : Nat} (nl : s.heap.NoLimit) (hd : A.depth + 100 < recursionLimit) (sa : SeerAt M A s.heap) (u : Nat) (h : Q () s) :
    wpAny M { A with units := u } (Builtin.roomForPylongsInverse n) Q E s := by
  unfold Builtin.roomForPylongsInverse
  by_cases hb : n.log2 / 30 + 1 > 450
  · rw [if_pos hb]
    refine wpAny_bind (sa u s E _ rfl ?_)
    exact wpAny_pylongFrames (A := { A with units := u }) nl hd h
  · rw [if_neg hb]
    exact wpAny_pure h
theorem isqrt_call {prog : Program} {w : World} {A : Around} {E : Value → Shared → Prop} {s : Shared} {Q : Value → Shared → Prop} {a : Int} {t : Tok} (h0 : 0 ≤ a) (h1 : a.toNat.log2 ≤ 200000) (nl : s.heap.NoLimit) (hd : A.depth + 100 < recursionLimit) (sa : SeerAt (model prog w) A s.heap)
    (h : Q (.int ((Float64.isqrt a.toNat : Nat) : Int) s.toks) { s with toks := s.toks + 1 }) : wpAny (model prog w) A (call (.builtin "math.isqrt") [.int a t]) Q E s := by
  refine wpAny_call (codeAny_call_builtin MGF.plain_isqrt MGF.entry_isqrt ?_)
  have hc0 : ¬ a < 0 := by omega
  have hc1 : ¬ a.toNat.log2 > 200000 := by omega
  have r := fun (Q : Unit → Shared → Prop) (E : Value → Shared → Prop) (h : Q () s) => room_inv (M := model prog w) (A := A) (n := a.toNat) (E := E) nl hd sa (A.in1.units) h
  have hfin : wpAny (model prog w) A.in1 (Builtin.«math.isqrt» ⟨[.int a t], []⟩) (fun fin s' => match fin with | .done f => (wants Q E) (.ok f) s' | .again c' => c'.quiet = true ∧ codeAny (model prog w) A c' (wants Q E) s') (fun e s' => (wants Q E) (.error e) s') s := by
    unfold Builtin.«math.isqrt»
    refine wpAny_bind (wpAny_mono (Q := fun v s' => v = .int a t ∧ s' = s) (E := fun _ _ => False) ?_ (fun v s' z => ?_) fun _ _ z => z.elim)
    · obtain ⟨hp, g, d, tk, os⟩ := s
      wp_walk
      exact ⟨rfl, rfl⟩
    obtain ⟨rfl, rfl⟩ := z
    refine wpAny_bind (wpAny_mono (Q := fun v s2 => v = a ∧ s2 = s') (E := fun _ _ => False) ?_ (fun v s2 z => ?_) fun _ _ z => z.elim)
    · obtain ⟨hp, g, d, tk, os⟩ := s'
      wp_walk
      exact ⟨rfl, rfl⟩
    obtain ⟨rfl, rfl⟩ := z
    dsimp only
    rw [if_neg hc0, if_neg hc1]
    refine wpAny_bind (r _ _ ?_)
    obtain ⟨hp, g, d, tk, os⟩ := s2
    wp_walk
    exact h
  simp only [checkBuiltinCall, MGF.kind_isqrt]
  have ok := MGF.args_isqrt (.int a t)
  cases hsig : Manifest.signature? "math.isqrt" with
  | none => exact wpAny_pure hfin
  | some sig =>
    simp only [argsOk, hsig] at ok
    have h2 : Bind.checkArgs "math.isqrt" sig ⟨[.int a t], []⟩ = pure () := ok
    show wpAny _ _ (Bind.checkArgs "math.isqrt" sig ⟨[.int a t], []⟩) _ _ s
    rw [h2]; exact wpAny_pure hfin
/-- math.isqrt -/
def gIsqrt : List D → Option D
  | [.int i] => if 0 ≤ i ∧ Builtin.Int.intBits i ≤ 200000 then some (.int ((Float64.isqrt i.toNat : Nat) : Int)) else none
  | _ => none
def rIsqrt : List V → Hp → VK → Prop := fun vs H Q => ∃ a : Int, vs = [.int a] ∧ (0 ≤ a ∧ Builtin.Int.intBits a ≤ 200000) ∧ Q (.int ((Float64.isqrt a.toNat : Nat) : Int)) H
theorem cr_isqrt {X : Cx} {env : Env} {l : List Env} (S : SeerB X.prog X.w X.base) (hst : X.stack = env :: l) (h1 : env.scope.isGenerator = false) (h2 : env.scope.isCoroutine = false) (h3 : env.builtins = builtinsNs) (h4 : env.globals = mainGlobals) (hd : X.A.depth + 100 < recursionLimit) : CallR X (.builtin "math.isqrt") rIsqrt := by
  intro pins s σ H vs us Q I r h
  obtain ⟨a, rfl, ⟨a0, a1⟩, q⟩ := h
  obtain ⟨t, rfl⟩ : ∃ t, us = [Value.int a t] := by
    cases r with
    | cons h1 h2 =>
      cases h2
      obtain ⟨t, rfl⟩ := h1
      exact ⟨t, rfl⟩
  have nl := I.ok.mod.nolimit.keeps I.bk
  have ns := S.seer.keeps I.bk
  have sa : SeerAt (model X.prog X.w) X.A s.heap := SeerAt.of ns S.tree (by rw [I.ok.frames, hst]) h1 h2 h3 h4
  refine isqrt_call a0 ?_ nl hd sa ⟨.int _, H, I.tok _, ⟨_, rfl⟩, q⟩
  unfold Builtin.Int.intBits at a1
  split at a1
  · rename_i z
    have : a = 0 := by simpa using z
    subst this
    decide
  · rw [show a.toNat = a.natAbs by omega]
    omega
theorem cd_isqrt {X : Cx} {st : Sto} {env : Env} {l : List Env} (S : SeerB X.prog X.w X.base) (hst : X.stack = env :: l) (h1 : env.scope.isGenerator = false) (h2 : env.scope.isCoroutine = false) (h3 : env.builtins = builtinsNs) (h4 : env.globals = mainGlobals) (hd : X.A.depth + 100 < recursionLimit) : CallD X st (.builtin "math.isqrt") gIsqrt := by
  refine ⟨_, cr_isqrt S hst h1 h2 h3 h4 hd, fun B H s vs ds d3 Q b hs h1 e h => ?_⟩
  unfold gIsqrt at e
  split at e
  · split at e
    · rename_i z
      obtain rfl := Option.some.inj e
      obtain ⟨v, rfl, hv⟩ := dvs1 h1
      exact ⟨_, by rw [show v = .int _ from hv], z, h _ H (Keeps.refl _ H) hs rfl⟩
    · cases e
  · cases e
end Mi
namespace Mi
open PySem PySem.Spec PyProof.Rows L2
/-! ### calls with keywords, of defs with keyword-only parameters -/
/-- the keywords' values -/
def KD (X : Cx) (st : Sto) (E : XK) (kws : List Keyword) (F : FA) : Prop :=
  ∃ t, PK X kws t ∧ ∀ σ δ B H s Q, At (cf X st) B H s σ δ → Post (cf X st) (relDs (cf X st) B) (F δ s) H Q E → t σ H Q
section
variable {X : Cx} {st : Sto} {E : XK} {pos : Pos}
theorem kd_nil : KD X st E [] aNil := ⟨_, pk_nil, fun _ _ _ _ _ _ a h => h.fin a.b.kf a.s rfl⟩
theorem kd_cons {nm : Option Str} {e : Expr} {kpos : Pos} {kws : List Keyword} {F : FE} {G : FA} (h1 : ED X st E e F) (h2 : KD X st E kws G) : KD X st E (⟨nm, e, kpos⟩ :: kws) (aCons F G) := by
  obtain ⟨t1, p1, r1⟩ := h1
  obtain ⟨t2, p2, r2⟩ := h2
  refine ⟨_, pk_cons p1 p2, fun σ δ B H s Q a h => ?_⟩
  refine r1 σ δ B H s _ a (Post.seq h fun d s1 v H1 kf k hs1 dv h => ?_)
  have a1 := a.keep kf k hs1
  refine r2 σ δ B H1 s1 _ a1 (Post.seq h fun ds s2 vs H2 kf2 k2 hs2 dvs h => ?_)
  exact h.fin kf2 hs2 ⟨v, vs, rfl, DV.grow (a1.b.grow k2) d v dv, dvs⟩
end
/-- the def that x holds keeps the promise F, called by np positional values and the keywords ks; pre and post stand for the parameters ahead of and behind the named ones -/
structure DefKw (P : Program) (w : World) (K : PySem.W.Frag) (mg : Str → Option Value) (base : Heap) (Tb : List (Addr × Str)) (x : Str) (k n np : Nat) (ks : List Str) (pre post : List D) (F : List D → S → R D) : Prop where
  ex : ∃ (f : Addr) (fd : FuncData) (ps : List Str) (g : List Value → List Value → List Value) (pv qv : List V), FnOk P w K mg base (L2N.CX P w) k f fd ps (spM P w K mg base Tb n F) ∧ mg x = some (.ref f) ∧ PySem.W.keepIn K (.ref f) = true ∧
    KBn K fd ps np ks g (fun vs zs => vs ++ (pv ++ (zs ++ qv))) ∧ flats pre = some pv ∧ flats post = some qv
def eAppN (n np m : Nat) (pre post : List D) (Fm : List D → S → R D) (F G : FA) : FE := fun δ s => rb (F δ s) fun ds s1 => rb (G δ s1) fun es s2 => if ds.length = np ∧ es.length = m ∧ (ds ++ (pre ++ (es ++ post))).length = n then Fm (ds ++ (pre ++ (es ++ post))) s2 else .stuck
section
variable {X : Cx} {st : Sto} {E : XK} {pos p : Pos} {e : Expr} {FAs FKs : FA} {es : List Expr} {kws : List Keyword} {x : Str} {k n np : Nat} {ks : List Str} {pre post : List D} {Fm : List D → S → R D}
theorem ed_callN (Dk : DefKw X.prog X.w X.K X.mg X.base st.T x k n np ks pre post Fm) (hr : Room k X.A) (px : Passes (L2N.CX X.prog X.w) X E) (h1 : AD X st E (e :: es) FAs) (h2 : KD X st E kws FKs) (hg : Gl X x := by rfl)
    (hall : (backToKw pos (keywordEach kws X.env)).all (·.1.isSome) = true := by rfl) (hks : (backToKw pos (keywordEach kws X.env)).filterMap (·.1) = ks := by rfl)
    (hdb : (x == ("__debug__" : Str)) = false := by decide) (he : starEach (e :: es) X.env = (false, eval e X.env) :: starEach es X.env := by rfl)
    (hpl : ((backTo pos (starEach (e :: es) X.env)).any (·.1) || (backToKw pos (keywordEach kws X.env)).any (·.1.isNone)) = false := by rfl) :
    ED X st E (.Call (.Name x p) (e :: es) kws pos) (eAppN n np ks.length pre post Fm FAs FKs) := by
  obtain ⟨f, fd, ps, g, pv, qv, FO, hm, hk, hb, hpre, hpost⟩ := Dk.ex
  obtain ⟨t1, p1, r1⟩ := h1
  obtain ⟨t2, p2, r2⟩ := h2
  refine ⟨_, pe_callN FO hr hg hm hk hb px p1 p2 hall hks hdb he hpl, fun σ δ B H s Q a h => ?_⟩
  refine r1 σ δ B H s _ a (Post.seq h fun ds s1 vs H1 kf kp hs1 dv h => ?_)
  have a1 := a.keep kf kp hs1
  refine r2 σ δ B H1 s1 _ a1 (Post.seq h fun ds2 s2 ws H2 kf2 k2 hs2 dv2 h => ?_)
  split at h
  · rename_i hl
    have dg := DVs.grow (a1.b.grow k2) ds vs dv
    refine ⟨by rw [dv.length]; exact hl.1, by rw [dv2.length]; exact hl.2.1, st, s2, ds ++ (pre ++ (ds2 ++ post)), B, rfl, hl.2.2, a1.b.keep kf2 k2 hs2, hs2, dg.append ((flats_dv' hpre).append (dv2.append (flats_dv' hpost))), h⟩
  · exact False.elim h
end
/-- from the head's facts: all of the keywords ks given, those ahead (pre) and behind (post) lack -/
theorem kw_mk {P : Program} {w : World} {K : PySem.W.Frag} {mg : Str → Option Value} {base : Heap} {Tb : List (Addr × Str)} {x : Str} {stm : Stmt} {f : Addr} {fd : FuncData} {ps : List Str} {k n np : Nat} {ks : List Str} {kws ms1 ms2 : List (Str × V)} {pre post : List D} {Fm : List D → S → R D} (F : FunD K x x (defArgs stm) (defBody stm) (defScope stm) [] kws f fd) (hm : mg x = some (.ref f))
    (FO : FnOk P w K mg base (L2N.CX P w) k f fd ps (spM P w K mg base Tb n Fm)) (hk : kws ≠ []) (hms : ∀ q ∈ ms1 ++ ms2, q ∈ kws) (h1 : flats pre = some (ms1.map (·.2))) (h2 : flats post = some (ms2.map (·.2)))
    (h : ∀ (D : Addr) (doc pm : Value) (an : Option Addr) (cdv ct : Value) (us mv ws : List Value), us.length = np → mv.length = (ms1 ++ ms2).length → ws.length = ks.length →
      KwChain D (((ms1 ++ ms2).map (·.1)).zip mv) (bindArgs (PySem.W.fnOf x x (defArgs stm) (defBody stm) (defScope stm) .none (.ref D) doc pm an cdv ct) ⟨us, ks.zip ws⟩) (ps.zip (us ++ (mv.take ms1.length ++ (ws ++ mv.drop ms1.length))))) : DefKw P w K mg base Tb x k n np ks pre post Fm := by
  obtain ⟨mv, hb⟩ := F.kbinds0 np ks (ms1 ++ ms2) (fun {α} (us mv ws : List α) => us ++ (mv.take ms1.length ++ (ws ++ mv.drop ms1.length))) hk hms (fun r1 rm r2 => r1.append ((rm.take _).append (r2.append (rm.drop _)))) h
  have e1 : ((ms1 ++ ms2).map (·.2)).take ms1.length = ms1.map (·.2) := by
    rw [List.map_append, ← List.length_map (f := (·.2)), List.take_left']
    rfl
  have e2 : ((ms1 ++ ms2).map (·.2)).drop ms1.length = ms2.map (·.2) := by
    rw [List.map_append, ← List.length_map (f := (·.2)), List.drop_left']
    rfl
  rw [e1, e2] at hb
  exact ⟨⟨f, fd, ps, _, _, _, FO, hm, F.kp, hb, h1, h2⟩⟩
end Mi
namespace Mi
open PySem PySem.Spec PyProof.Rows L2
/-! ### calls with keywords given in the opposite order -/
theorem DVs.rev {c : Cf} {B : Bad} {H : Hp} : ∀ {ds : List D} {vs : List V}, DVs c ds B H vs → DVs c ds.reverse B H vs.reverse
  | [], vs, h => by
    rw [show vs = [] from h]
    rfl
  | d :: ds, vs, ⟨v, r, e, h1, h2⟩ => by
    subst e
    rw [List.reverse_cons, List.reverse_cons]
    exact (DVs.rev h2).append ⟨v, [], rfl, h1, rfl⟩
/-- the def that x holds keeps the promise F, called by np positional values and the keywords ks; pre and post stand for the parameters ahead of and behind the named ones -/
structure DefKwR (P : Program) (w : World) (K : PySem.W.Frag) (mg : Str → Option Value) (base : Heap) (Tb : List (Addr × Str)) (x : Str) (k n np : Nat) (ks : List Str) (pre post : List D) (F : List D → S → R D) : Prop where
  ex : ∃ (f : Addr) (fd : FuncData) (ps : List Str) (g : List Value → List Value → List Value) (pv qv : List V), FnOk P w K mg base (L2N.CX P w) k f fd ps (spM P w K mg base Tb n F) ∧ mg x = some (.ref f) ∧ PySem.W.keepIn K (.ref f) = true ∧
    KBn K fd ps np ks g (fun vs zs => vs ++ (pv ++ (zs.reverse ++ qv))) ∧ flats pre = some pv ∧ flats post = some qv
def eAppR (n np m : Nat) (pre post : List D) (Fm : List D → S → R D) (F G : FA) : FE := fun δ s => rb (F δ s) fun ds s1 => rb (G δ s1) fun es s2 => if ds.length = np ∧ es.length = m ∧ (ds ++ (pre ++ (es.reverse ++ post))).length = n then Fm (ds ++ (pre ++ (es.reverse ++ post))) s2 else .stuck
section
variable {X : Cx} {st : Sto} {E : XK} {pos p : Pos} {e : Expr} {FAs FKs : FA} {es : List Expr} {kws : List Keyword} {x : Str} {k n np : Nat} {ks : List Str} {pre post : List D} {Fm : List D → S → R D}
theorem ed_callR (Dk : DefKwR X.prog X.w X.K X.mg X.base st.T x k n np ks pre post Fm) (hr : Room k X.A) (px : Passes (L2N.CX X.prog X.w) X E) (h1 : AD X st E (e :: es) FAs) (h2 : KD X st E kws FKs) (hg : Gl X x := by rfl)
    (hall : (backToKw pos (keywordEach kws X.env)).all (·.1.isSome) = true := by rfl) (hks : (backToKw pos (keywordEach kws X.env)).filterMap (·.1) = ks := by rfl)
    (hdb : (x == ("__debug__" : Str)) = false := by decide) (he : starEach (e :: es) X.env = (false, eval e X.env) :: starEach es X.env := by rfl)
    (hpl : ((backTo pos (starEach (e :: es) X.env)).any (·.1) || (backToKw pos (keywordEach kws X.env)).any (·.1.isNone)) = false := by rfl) :
    ED X st E (.Call (.Name x p) (e :: es) kws pos) (eAppR n np ks.length pre post Fm FAs FKs) := by
  obtain ⟨f, fd, ps, g, pv, qv, FO, hm, hk, hb, hpre, hpost⟩ := Dk.ex
  obtain ⟨t1, p1, r1⟩ := h1
  obtain ⟨t2, p2, r2⟩ := h2
  refine ⟨_, pe_callN FO hr hg hm hk hb px p1 p2 hall hks hdb he hpl, fun σ δ B H s Q a h => ?_⟩
  refine r1 σ δ B H s _ a (Post.seq h fun ds s1 vs H1 kf kp hs1 dv h => ?_)
  have a1 := a.keep kf kp hs1
  refine r2 σ δ B H1 s1 _ a1 (Post.seq h fun ds2 s2 ws H2 kf2 k2 hs2 dv2 h => ?_)
  split at h
  · rename_i hl
    have dg := DVs.grow (a1.b.grow k2) ds vs dv
    refine ⟨by rw [dv.length]; exact hl.1, by rw [dv2.length]; exact hl.2.1, st, s2, ds ++ (pre ++ (ds2.reverse ++ post)), B, rfl, hl.2.2, a1.b.keep kf2 k2 hs2, hs2, dg.append ((flats_dv' hpre).append ((DVs.rev dv2).append (flats_dv' hpost))), h⟩
  · exact False.elim h
end
/-- from the head's facts: all of the keywords ks given, those ahead (pre) and behind (post) lack -/
theorem kw_mkR {P : Program} {w : World} {K : PySem.W.Frag} {mg : Str → Option Value} {base : Heap} {Tb : List (Addr × Str)} {x : Str} {stm : Stmt} {f : Addr} {fd : FuncData} {ps : List Str} {k n np : Nat} {ks : List Str} {kws ms1 ms2 : List (Str × V)} {pre post : List D} {Fm : List D → S → R D} (F : FunD K x x (defArgs stm) (defBody stm) (defScope stm) [] kws f fd) (hm : mg x = some (.ref f))
    (FO : FnOk P w K mg base (L2N.CX P w) k f fd ps (spM P w K mg base Tb n Fm)) (hk : kws ≠ []) (hms : ∀ q ∈ ms1 ++ ms2, q ∈ kws) (h1 : flats pre = some (ms1.map (·.2))) (h2 : flats post = some (ms2.map (·.2)))
    (h : ∀ (D : Addr) (doc pm : Value) (an : Option Addr) (cdv ct : Value) (us mv ws : List Value), us.length = np → mv.length = (ms1 ++ ms2).length → ws.length = ks.length →
      KwChain D (((ms1 ++ ms2).map (·.1)).zip mv) (bindArgs (PySem.W.fnOf x x (defArgs stm) (defBody stm) (defScope stm) .none (.ref D) doc pm an cdv ct) ⟨us, ks.zip ws⟩) (ps.zip (us ++ (mv.take ms1.length ++ (ws.reverse ++ mv.drop ms1.length))))) : DefKwR P w K mg base Tb x k n np ks pre post Fm := by
  obtain ⟨mv, hb⟩ := F.kbinds0 np ks (ms1 ++ ms2) (fun {α} (us mv ws : List α) => us ++ (mv.take ms1.length ++ (ws.reverse ++ mv.drop ms1.length))) hk hms (fun r1 rm r2 => r1.append ((rm.take _).append (r2.reverse.append (rm.drop _)))) h
  have e1 : ((ms1 ++ ms2).map (·.2)).take ms1.length = ms1.map (·.2) := by
    rw [List.map_append, ← List.length_map (f := (·.2)), List.take_left']
    rfl
  have e2 : ((ms1 ++ ms2).map (·.2)).drop ms1.length = ms2.map (·.2) := by
    rw [List.map_append, ← List.length_map (f := (·.2)), List.drop_left']
    rfl
  rw [e1, e2] at hb
  exact ⟨⟨f, fd, ps, _, _, _, FO, hm, F.kp, hb, h1, h2⟩⟩
end Mi
namespace Mi
open PySem PySem.Spec PyProof.Rows L2
/-! ### a module's constants: tuples of integers, texts and tuples -/
def ConOk (K : PySem.W.Frag) (d : D) (u : Value) : Prop := ∃ v, RelV v u ∧ ∀ (cc : Cf) B H, cc.K = K → BOk cc H B → DV cc d B H v
theorem allB_ok {K : PySem.W.Frag} {f : D → Value → Bool} (hf : ∀ d u, f d u = true → ConOk K d u) : ∀ (ds : List D) (us : List Value), allB f ds us = true → ∃ vs, Vals vs us ∧ ∀ (cc : Cf) B H, cc.K = K → BOk cc H B → DVs cc ds B H vs
  | [], [], _ => ⟨[], .nil, fun _ _ _ _ _ => rfl⟩
  | [], _ :: _, h => by cases h
  | _ :: _, [], h => by cases h
  | d :: ds, u :: us, h => by
    obtain ⟨h1, h2⟩ := Bool.and_eq_true_iff.mp (show (f d u && allB f ds us) = true from h)
    obtain ⟨v, r1, q1⟩ := hf d u h1
    obtain ⟨vs, r2, q2⟩ := allB_ok hf ds us h2
    exact ⟨v :: vs, .cons r1 r2, fun cc B H e b => ⟨v, vs, rfl, q1 cc B H e b, q2 cc B H e b⟩⟩
theorem conB_ok {K : PySem.W.Frag} : ∀ (n : Nat) (d : D) (u : Value), conB K n d u = true → ConOk K d u
  | 0, _, _, h => by cases h
  | n + 1, d, u, h => by
    cases d with
    | int i => exact ⟨.int i, He.relB_ok h, fun _ _ _ _ _ => rfl⟩
    | str x => exact ⟨.str x, He.relB_ok h, fun _ _ _ _ _ => rfl⟩
    | tup l =>
      unfold conB at h
      cases u with
      | ref a =>
        dsimp only at h
        cases q : K.lookup a with
        | none =>
          rw [q] at h
          cases h
        | some o =>
          obtain ⟨oc, od, dt, osl⟩ := o
          rw [q] at h
          cases oc with
          | type c =>
            cases dt with
            | seq its m =>
              obtain ⟨h1, h2⟩ := Bool.and_eq_true_iff.mp (show (decide (c = "tuple") && (decide (its.size ≤ sizeLine) && allB (conB K n) l its.toList)) = true from h)
              obtain ⟨h3, h4⟩ := Bool.and_eq_true_iff.mp h2
              obtain ⟨vs, rv, dv⟩ := allB_ok (conB_ok n) l its.toList h4
              refine ⟨.ref a, rfl, fun cc B H e b => ?_⟩
              subst e
              refine ⟨a, vs, rfl, fun z => ?_, .inr ⟨_, its, m, q, congrArg Value.type (of_decide_eq_true h1), rfl, of_decide_eq_true h3, rv⟩, dv cc B H rfl b⟩
              rw [b.kf _ (b.there _ z)] at q
              cases q
            | _ => cases h
          | _ => cases dt <;> cases h
      | _ => cases h
    | _ => cases h
theorem globK_con {K : PySem.W.Frag} {mg : Str → Option Value} {n : Nat} {x : Str} {d : D} (c : tcB K n x d = true) (m : mg x = some (.ref (He.ga K x))) : GlobK K mg x d := by
  obtain ⟨v, r, q⟩ := conB_ok n d _ c
  exact ⟨v, _, m, r, q⟩
end Mi
namespace Mi
open PySem PySem.Spec PyProof.Rows L2
/-! ### calls of a variable that holds one of the module's defs -/
theorem look_mem {x : Str} {F : List D → S → R D} : ∀ {L : List (Str × (List D → S → R D))}, L.lookup x = some F → (x, F) ∈ L
  | [], e => nomatch e
  | (y, G) :: L, e => by
    unfold List.lookup at e
    cases q : (x == y) with
    | true =>
      rw [q] at e
      rw [eq_of_beq q, ← show G = F from Option.some.inj e]
      exact .head _
    | false =>
      rw [q] at e
      exact .tail _ (look_mem e)
/-- with keywords: L tells the mirror by the def's name -/
def eAppVN (i n np m : Nat) (pre post : List D) (L : List (Str × (List D → S → R D))) (F G : FA) : FE := fun δ s => match δ[i]? with
  | some (.d (.cls x)) => (match L.lookup x with
    | some Fm => eAppN n np m pre post Fm F G δ s
    | none => .stuck)
  | _ => .stuck
def tCallVN (X : Cx) (Tb : List (Addr × Str)) (i n np m : Nat) (pv qv : List V) (L : List (Str × (List D → S → R D))) (E : XK) (t tk : TA) : TE := fun σ H Q => ∃ (x : Str) (Fm : List D → S → R D) (f : Addr), σ[i]? = some (some (.ref f)) ∧ L.lookup x = some Fm ∧ X.mg x = some (.ref f) ∧
  t σ H fun vs H1 => tk σ H1 fun zs H2 => vs.length = np ∧ zs.length = m ∧ spM X.prog X.w X.K X.mg X.base Tb n Fm (vs ++ (pv ++ (zs ++ qv))) H2 Q E
section
variable {X : Cx} {st : Sto} {E : XK} {pos p : Pos} {e : Expr} {FAs FKs : FA} {es : List Expr} {kws : List Keyword} {y : Str} {i k n np : Nat} {ks : List Str} {pre post : List D} {L : List (Str × (List D → S → R D))}
theorem pe_callVN {pv qv : List V} {t tk : TA} (A : ∀ q ∈ L, ∃ j, j ≤ k ∧ DefKw X.prog X.w X.K X.mg X.base st.T q.1 j n np ks pre post q.2) (hpre : flats pre = some pv) (hpost : flats post = some qv) (hr : Room k X.A) (px : Passes (L2N.CX X.prog X.w) X E) (hN : X.N[i]? = some y) (hv : Vis X.env.scope y)
    (ha : PA X (e :: es) t) (hkw : PK X kws tk) (hall : (backToKw pos (keywordEach kws X.env)).all (·.1.isSome) = true) (hks : (backToKw pos (keywordEach kws X.env)).filterMap (·.1) = ks)
    (hdb : (y == ("__debug__" : Str)) = false) (hcd : (y == ("__classdict__" : Str)) = false) (he : starEach (e :: es) X.env = (false, eval e X.env) :: starEach es X.env)
    (hpl : ((backTo pos (starEach (e :: es) X.env)).any (·.1) || (backToKw pos (keywordEach kws X.env)).any (·.1.isNone)) = false) : PE X (.Call (.Name y p) (e :: es) kws pos) (tCallVN X st.T i n np ks.length pv qv L E t tk) := by
  refine ⟨fun pins s σ H Q I h => ?_⟩
  obtain ⟨x, Fm, f, hs, hT, hm, ht⟩ := h
  obtain ⟨j, hj, dk⟩ := A (x, Fm) (look_mem hT)
  obtain ⟨f', fd, ps, g, pv', qv', FO, hm', hk, hb, h1, h2⟩ := dk.ex
  obtain rfl : f = f' := Value.ref.inj (Option.some.inj (hm.symm.trans hm'))
  obtain rfl : pv = pv' := Option.some.inj (hpre.symm.trans h1)
  obtain rfl : qv = qv' := Option.some.inj (hpost.symm.trans h2)
  have got := (pe_var (pos := p) hN hv hdb hcd).run pins s σ H (fun v H1 => v = .ref f ∧ H1 = H) I ⟨.ref f, hs, rfl, rfl⟩
  refine wpAny_Call_Name_kw (thn got fun u s1 z => ?_)
  obtain ⟨_, _, I1, r1, rfl, rfl⟩ := z
  cases r1
  refine PySem.W.callWith_KW (h₀ := X.base) I1.ok.mod.kin hk hall (thn (ha.run pos pins s1 σ _ _ I1 ht) fun us s2 q2 => ?_) hpl he
  obtain ⟨vs, H2, I2, r2, q2⟩ := q2
  refine thn (hkw.run pos pins s2 σ H2 _ I2 q2) fun ws s3 q3 => ?_
  obtain ⟨zs, H3, I3, r3, l1, l2, q3⟩ := q3
  refine ⟨I3.kIn, ?_⟩
  rw [hks]
  exact run_fnN FO (hr.mono hj) hb px I3 r2 r3 l1 l2 q3
theorem ed_callVN (i : Nat) {pv qv : List V} (A : ∀ q ∈ L, ∃ j, j ≤ k ∧ DefKw X.prog X.w X.K X.mg X.base st.T q.1 j n np ks pre post q.2) (hpre : flats pre = some pv) (hpost : flats post = some qv) (hr : Room k X.A) (px : Passes (L2N.CX X.prog X.w) X E) (h1 : AD X st E (e :: es) FAs) (h2 : KD X st E kws FKs)
    (hN : X.N[i]? = some y := by rfl) (hv : Vis X.env.scope y := by first | exact Or.inl rfl | exact Or.inr (Or.inl rfl) | exact Or.inr (Or.inr rfl))
    (hall : (backToKw pos (keywordEach kws X.env)).all (·.1.isSome) = true := by rfl) (hks : (backToKw pos (keywordEach kws X.env)).filterMap (·.1) = ks := by rfl)
    (hdb : (y == ("__debug__" : Str)) = false := by decide) (hcd : (y == ("__classdict__" : Str)) = false := by decide) (he : starEach (e :: es) X.env = (false, eval e X.env) :: starEach es X.env := by rfl)
    (hpl : ((backTo pos (starEach (e :: es) X.env)).any (·.1) || (backToKw pos (keywordEach kws X.env)).any (·.1.isNone)) = false := by rfl) :
    ED X st E (.Call (.Name y p) (e :: es) kws pos) (eAppVN i n np ks.length pre post L FAs FKs) := by
  obtain ⟨t1, p1, r1⟩ := h1
  obtain ⟨t2, p2, r2⟩ := h2
  refine ⟨_, pe_callVN A hpre hpost hr px hN hv p1 p2 hall hks hdb hcd he hpl, fun σ δ B H s Q a h => ?_⟩
  unfold eAppVN at h
  cases hd : δ[i]? with
  | none =>
    rw [hd] at h
    exact False.elim h
  | some w =>
    rw [hd] at h
    cases w with
    | d dd =>
      cases dd with
      | cls x =>
        dsimp only at h
        cases hT : L.lookup x with
        | none =>
          rw [hT] at h
          exact False.elim h
        | some Fm =>
          rw [hT] at h
          dsimp only at h
          obtain ⟨v, hs, a0, hm, rfl⟩ := a.sl i _ hd
          refine ⟨x, Fm, a0, hs, hT, hm, ?_⟩
          refine r1 σ δ B H s _ a (Post.seq h fun ds s1 vs H1 kf kp hs1 dv h => ?_)
          have a1 := a.keep kf kp hs1
          refine r2 σ δ B H1 s1 _ a1 (Post.seq h fun ds2 s2 ws H2 kf2 k2 hs2 dv2 h => ?_)
          split at h
          · rename_i hl
            have dg := DVs.grow (a1.b.grow k2) ds vs dv
            refine ⟨by rw [dv.length]; exact hl.1, by rw [dv2.length]; exact hl.2.1, st, s2, ds ++ (pre ++ (ds2 ++ post)), B, rfl, hl.2.2, a1.b.keep kf2 k2 hs2, hs2, dg.append ((flats_dv' hpre).append (dv2.append (flats_dv' hpost))), h⟩
          · exact False.elim h
      | _ => exact False.elim h
    | _ => exact False.elim h
/-- without keywords -/
def eAppV (i n : Nat) (L : List (Str × (List D → S → R D))) (F : FA) : FE := fun δ s => match δ[i]? with
  | some (.d (.cls x)) => (match L.lookup x with
    | some Fm => eApp n [] Fm F δ s
    | none => .stuck)
  | _ => .stuck
end
theorem mv_appVN {i n np m : Nat} {pre post : List D} {L : List (Str × (List D → S → R D))} {Fm : List D → S → R D} {F G : FA} {δ : Ev} {s : S} {x : Str} {r : R D} (h0 : δ[i]? = some (.d (.cls x))) (hT : L.lookup x = some Fm) (h : eAppN n np m pre post Fm F G δ s = r) : eAppVN i n np m pre post L F G δ s = r := by
  unfold eAppVN
  rw [h0]
  dsimp only
  rw [hT]
  exact h
end Mi
namespace Mi
open PySem PySem.Spec PyProof.Rows L2
/-! ### name = [.. for ..] -/
theorem ps_plusA {X : Cx} {stm : Stmt} {t : TE} {i : Nat} (h : PS X stm (tAsg t (gName i))) : PS X stm (tAsg (tP X.K t) (gName i)) := ⟨fun pins s σ H D I hw => by
  have got := h.run pins s σ H { D with nx := fun σ' H' => (∀ a, H' a ≠ none → X.K.lookup a = none) → D.nx σ' H' } I hw
  refine thn got fun f s' q => ?_
  cases f with
  | next =>
    obtain ⟨σ', H', I', n⟩ := q
    exact ⟨σ', H', I', n (inv_kf I')⟩
  | brk => exact q
  | cont => exact q
  | ret u => exact q⟩
section
variable {X : Cx} {st : Sto} {E : XK} {T : FT} {F : FE} {x y : Str} {p pos py spos : Pos}
theorem s_setLc (j i : Nat) {elt iter : Expr} {ifs : List Expr} {scope : Scope} {I : FI} {N : List Str} (hc : X.calm = true) (hN : X.N.Nodup) (h1 : ID X st E (.Name x p) iter I) (ok : BlkOk X.N X.env.scope scope [(x, i)])
    (hg : ∀ (s : Shared) (H : Hp) (C : Addr) (cl : List (Str × Addr)) (fp : List Addr), PG (X.blk s H scope (compEnvC scope cl C X.env) fp) (.Name x p) (gName i))
    (ht : ∀ (s : Shared) (H : Hp) (C : Addr) (cl : List (Str × Addr)) (fp : List Addr), TDs (X.blk s H scope (compEnvC scope cl C X.env) fp) st E0 ifs T)
    (he : ∀ (s : Shared) (H : Hp) (C : Addr) (cl : List (Str × Addr)) (fp : List Addr), ED (X.blk s H scope (compEnvC scope cl C X.env) fp) st E0 elt F) (hi : X.N[j]? = some y := by rfl) (hyl : X.env.scope.names.lookup y = some .local := by rfl)
    (hk : X.env.scope.kind = .function := by rfl) (hl : (py.line == pos.line) = true := by rfl) (ha : (scope.names.any fun (n, k) => n == y && (k == .local || k == .cell)) = false := by rfl) (hs : ∀ x, foldedSetIterable iter X.env x = pure x := by intro _; rfl) :
    S1 X st E (.Assign [.Name y py] (.ListComp elt [⟨.Name x p, iter, ifs, 0⟩] scope pos) spos) (sSet j (eLc i I T F)) := by
  obtain ⟨t, _, b, r1⟩ := lc_both (N := N) i hc hN h1 ok hg ht he hs
  refine ⟨_, ps_plusA (b y py j spos hi hyl (sw_true hk hyl hl ha)), fun Dn σ δ H0 B H s po hs r h => ?_⟩
  refine r1 σ δ _ H s _ (r.at hs) (PostS.ofE r.keeps h fun d s1 v H1 kf k hs1 dv h => ?_)
  obtain ⟨r2, g2⟩ := (r.eval hs kf k).set j dv
  exact h _ H1 po hs1 r2 (((r.bok hs).grow k).trans g2)
end
end Mi
namespace Mi
open PySem PySem.Spec PyProof.Rows L2
/-! ### calls without keywords of a variable that holds one of the module's defs -/
def tCallV (X : Cx) (Tb : List (Addr × Str)) (i n : Nat) (L : List (Str × (List D → S → R D))) (E : XK) (t : TA) : TE := fun σ H Q => ∃ (x : Str) (Fm : List D → S → R D) (f : Addr), σ[i]? = some (some (.ref f)) ∧ L.lookup x = some Fm ∧ X.mg x = some (.ref f) ∧
  t σ H fun vs H1 => spM X.prog X.w X.K X.mg X.base Tb n Fm (vs ++ []) H1 Q E
section
variable {X : Cx} {st : Sto} {E : XK} {pos p : Pos} {e : Expr} {FAs : FA} {es : List Expr} {y : Str} {i k n : Nat} {L : List (Str × (List D → S → R D))}
theorem pe_callV {t : TA} (A : ∀ q ∈ L, ∃ j, j ≤ k ∧ DefOk X.prog X.w X.K X.mg X.base st.T q.1 j n [] q.2) (hr : Room k X.A) (px : Passes (L2N.CX X.prog X.w) X E) (hN : X.N[i]? = some y) (hv : Vis X.env.scope y)
    (ha : PA X (e :: es) t) (hdb : (y == ("__debug__" : Str)) = false) (hcd : (y == ("__classdict__" : Str)) = false) (he : starEach (e :: es) X.env = (false, eval e X.env) :: starEach es X.env)
    (hpl : (backTo pos (starEach es X.env)).any (·.1) = false) : PE X (.Call (.Name y p) (e :: es) [] pos) (tCallV X st.T i n L E t) := by
  refine ⟨fun pins s σ H Q I h => ?_⟩
  obtain ⟨x, Fm, f, hs, hT, hm, ht⟩ := h
  obtain ⟨j, hj, dk⟩ := A (x, Fm) (look_mem hT)
  obtain ⟨f', fd, ps, us, dvs, FO, hm', hk, hb, hd, hf⟩ := dk.ex
  obtain rfl : f = f' := Value.ref.inj (Option.some.inj (hm.symm.trans hm'))
  obtain rfl : dvs = [] := (Option.some.inj hf).symm
  exact (pe_callL FO (hr.mono hj) hN hv hk hb hd px ha hdb hcd he hpl).run pins s σ H Q I ⟨hs, ht⟩
theorem ed_callV (i : Nat) (A : ∀ q ∈ L, ∃ j, j ≤ k ∧ DefOk X.prog X.w X.K X.mg X.base st.T q.1 j n [] q.2) (hr : Room k X.A) (px : Passes (L2N.CX X.prog X.w) X E) (h1 : AD X st E (e :: es) FAs)
    (hN : X.N[i]? = some y := by rfl) (hv : Vis X.env.scope y := by first | exact Or.inl rfl | exact Or.inr (Or.inl rfl) | exact Or.inr (Or.inr rfl))
    (hdb : (y == ("__debug__" : Str)) = false := by decide) (hcd : (y == ("__classdict__" : Str)) = false := by decide) (he : starEach (e :: es) X.env = (false, eval e X.env) :: starEach es X.env := by rfl)
    (hpl : (backTo pos (starEach es X.env)).any (·.1) = false := by rfl) :
    ED X st E (.Call (.Name y p) (e :: es) [] pos) (eAppV i n L FAs) := by
  obtain ⟨t1, p1, r1⟩ := h1
  refine ⟨_, pe_callV A hr px hN hv p1 hdb hcd he hpl, fun σ δ B H s Q a h => ?_⟩
  unfold eAppV at h
  cases hd : δ[i]? with
  | none =>
    rw [hd] at h
    exact False.elim h
  | some w =>
    rw [hd] at h
    cases w with
    | d dd =>
      cases dd with
      | cls x =>
        dsimp only at h
        cases hT : L.lookup x with
        | none =>
          rw [hT] at h
          exact False.elim h
        | some Fm =>
          rw [hT] at h
          dsimp only at h
          obtain ⟨v, hs, a0, hm, rfl⟩ := a.sl i _ hd
          refine ⟨x, Fm, a0, hs, hT, hm, ?_⟩
          refine r1 σ δ B H s _ a (Post.seq h fun ds s1 vs H1 kf kp hs1 dv h => ?_)
          split at h
          · rename_i hl
            exact ⟨st, s1, ds ++ [], B, rfl, hl, a.b.keep kf kp hs1, hs1, dv.append rfl, h⟩
          · exact False.elim h
      | _ => exact False.elim h
    | _ => exact False.elim h
end
theorem mv_appV {i n : Nat} {L : List (Str × (List D → S → R D))} {Fm : List D → S → R D} {F : FA} {δ : Ev} {s : S} {x : Str} {r : R D} (h0 : δ[i]? = some (.d (.cls x))) (hT : L.lookup x = some Fm) (h : eApp n [] Fm F δ s = r) : eAppV i n L F δ s = r := by
  unfold eAppV
  rw [h0]
  dsimp only
  rw [hT]
  exact h
end Mi
namespace A38
open PySem PySem.Spec PyProof.Rows L2 LamX Mi
noncomputable section
def d_NAN : D := .tup [(.int 0), (.int (-2)), (.int 0)]
def d_EXACT_BITS : D := .int 12000
def d_MODES : D := .tup [(.str "even"), (.str "away"), (.str "zero"), (.str "up"), (.str "down"), (.str "odd")]
def d_INVALID : D := .tup [(.tup [(.int 0), (.int (-2)), (.int 0)]), (.tup [(.str "invalid")])]
abbrev s_is_integer : Stmt := topS 20
abbrev N_is_integer : List Str := ["value"]
theorem sc_is_integer : FnScope N_is_integer ["value"] (defScope s_is_integer) := ⟨rfl, rfl, rfl, by decide +kernel, rfl, by decide +kernel, by decide +kernel⟩
def G_is_integer : FS := (sRet (eOp gIs (eCall gType (aCons (eVar 0) aNil)) (eC (.ty "int"))))
def m_is_integer : List D → S → R D := fnM 1 G_is_integer
theorem ok_is_integer {P : Program} {w : World} {K : PySem.W.Frag} {mg : Str → Option Value} {base : Heap} {Tb : List (Addr × Str)} {f : Addr} {fd : FuncData} (F : Fun K "is_integer" "is_integer" s_is_integer f fd) (z_int : mg "int" = none) (z_type : mg "type" = none) : FnOk P w K mg base (L2N.CX P w) 1 f fd ["value"] (spM P w K mg base Tb 1 m_is_integer) := by
  refine def_fn F sc_is_integer fun st hT cdv A outer s H E hr => ?_
  subst hT
  have px := cx_passes (P := P) (w := w) (K := K) (mg := mg) (base := base) (N := N_is_integer) (qual := "is_integer") (stm := s_is_integer) (f := f) (cdv := cdv) (A := A) (outer := outer) (s := s) (H := H) (E := E)
  exact (sd_one (s_ret (ed_cmp opd_is (ed_callTy cd_type (by rfl) z_type (by decide +kernel) (ad_cons (ed_var 0) ad_nil)) (ed_ty (by rfl) z_int (by decide +kernel)) (nomark _))))
abbrev s_are_integers : Stmt := topS 21
abbrev N_are_integers : List Str := ["value", "many", "part"]
theorem sc_are_integers : FnScope N_are_integers ["value", "many"] (defScope s_are_integers) := ⟨rfl, rfl, rfl, by decide +kernel, rfl, by decide +kernel, by decide +kernel⟩
def G_are_integers : FS := (sRet (eAnd (eOp gIs (eCall gType (aCons (eVar 0) aNil)) (eC (.ty "tuple"))) (eAnd (eOp gEq (eCall gLen (aCons (eVar 0) aNil)) (eVar 1)) (eCall gAll (aCons (eLc 2 (iTpl (eVar 0)) tAll (eApp 1 [] m_is_integer (aCons (eVar 2) aNil))) aNil)))))
def m_are_integers : List D → S → R D := fnM 3 G_are_integers
theorem ok_are_integers {P : Program} {w : World} {K : PySem.W.Frag} {mg : Str → Option Value} {base : Heap} {Tb : List (Addr × Str)} {f : Addr} {fd : FuncData} (F : Fun K "are_integers" "are_integers" s_are_integers f fd) (z_all : mg "all" = none) (z_len : mg "len" = none) (z_tuple : mg "tuple" = none) (z_type : mg "type" = none) (k_is_integer : DefOk P w K mg base Tb "is_integer" 1 1 [] m_is_integer) : FnOk P w K mg base (L2N.CX P w) 2 f fd ["value", "many"] (spM P w K mg base Tb 2 m_are_integers) := by
  refine def_fn F sc_are_integers fun st hT cdv A outer s H E hr => ?_
  subst hT
  have px := cx_passes (P := P) (w := w) (K := K) (mg := mg) (base := base) (N := N_are_integers) (qual := "are_integers") (stm := s_are_integers) (f := f) (cdv := cdv) (A := A) (outer := outer) (s := s) (H := H) (E := E)
  exact (sd_one (s_ret (ed_and (ed_cmp opd_is (ed_callTy cd_type (by rfl) z_type (by decide +kernel) (ad_cons (ed_var 0) ad_nil)) (ed_ty (by rfl) z_tuple (by decide +kernel)) (nomark _)) (ed_and (ed_cmp (opd_eq (hu64 hr)) (ed_callB cd_len (by rfl) z_len (by decide +kernel) (ad_cons (ed_var 0) ad_nil)) (ed_var 1) (nomark _)) (ed_one (ed_callB (cd_all rfl) (by rfl) z_all (by decide +kernel) (ad_cons (ed_lc 2 (N := N_are_integers) rfl sc_are_integers.nd (id_tup (ed_var 0)) (blkOk_by (N := N_are_integers) (sc := defScope s_are_integers) (own := [("part", 2)]) (by decide +kernel)) (fun _ _ _ _ _ => pg_name (i := 2) sc_are_integers.nd rfl (by first | exact Or.inl rfl | exact Or.inr rfl)) (fun _ _ _ _ _ => tds_nil) (fun _ _ _ _ _ => (ed_call k_is_integer (hr.mono (by omega)) passN (ad_cons (ed_var 2) ad_nil)))) ad_nil)))))))
abbrev s_check_count : Stmt := topS 22
abbrev N_check_count : List Str := ["value", "low", "high"]
theorem sc_check_count : FnScope N_check_count ["value", "low", "high"] (defScope s_check_count) := ⟨rfl, rfl, rfl, by decide +kernel, rfl, by decide +kernel, by decide +kernel⟩
def G_check_count : FS := (sSeq (sIf (tNot (tTru (eApp 1 [] m_is_integer (aCons (eVar 0) aNil)))) (sRaise "BadCount") sNil) (sSeq (sIf (tAnd (tCmp gIsN (eVar 1) (eC .non)) (tCmp gLt (eVar 0) (eVar 1))) (sRaise "BadCount") sNil) (sIf (tAnd (tCmp gIsN (eVar 2) (eC .non)) (tCmp gGt (eVar 0) (eVar 2))) (sRaise "BadCount") sNil)))
def m_check_count : List D → S → R D := fnM 3 G_check_count
theorem ok_check_count {P : Program} {w : World} {K : PySem.W.Frag} {mg : Str → Option Value} {base : Heap} {Tb : List (Addr × Str)} {f : Addr} {fd : FuncData} (F : Fun K "check_count" "check_count" s_check_count f fd) (e_BadCount : ErrOk K mg "BadCount") (k_is_integer : DefOk P w K mg base Tb "is_integer" 1 1 [] m_is_integer) : FnOk P w K mg base (L2N.CX P w) 2 f fd ["value", "low", "high"] (spM P w K mg base Tb 3 m_check_count) := by
  refine def_fn F sc_check_count fun st hT cdv A outer s H E hr => ?_
  subst hT
  have px := cx_passes (P := P) (w := w) (K := K) (mg := mg) (base := base) (N := N_check_count) (qual := "check_count") (stm := s_check_count) (f := f) (cdv := cdv) (A := A) (outer := outer) (s := s) (H := H) (E := E)
  exact (sd_cons (s_if (td_not (td_tru (ed_call k_is_integer (hr.mono (by omega)) px (ad_cons (ed_var 0) ad_nil)))) (sd_one (s_raise rfl (L2N.takes_of rfl rfl rfl rfl) e_BadCount)) sd_nil) (sd_cons (s_if (WD.td (wd_and (td_cmp opd_isN (ed_var 1) ed_non (nomark _)) (wd_and1 (td_cmp opd_lt (ed_var 0) (ed_var 1) (nomark _))))) (sd_one (s_raise rfl (L2N.takes_of rfl rfl rfl rfl) e_BadCount)) sd_nil) (sd_one (s_if (WD.td (wd_and (td_cmp opd_isN (ed_var 2) ed_non (nomark _)) (wd_and1 (td_cmp opd_gt (ed_var 0) (ed_var 2) (nomark _))))) (sd_one (s_raise rfl (L2N.takes_of rfl rfl rfl rfl) e_BadCount)) sd_nil))))
abbrev s_is_format : Stmt := topS 24
abbrev N_is_format : List Str := ["form", "p", "lo", "hi"]
theorem sc_is_format : FnScope N_is_format ["form"] (defScope s_is_format) := ⟨rfl, rfl, rfl, by decide +kernel, rfl, by decide +kernel, by decide +kernel⟩
def G_is_format : FS := (sSeq (sIf (tNot (tTru (eApp 2 [] m_are_integers (aCons (eVar 0) (aCons (eC (.int 3)) aNil))))) (sRet (eC (.bl false))) sNil) (sSeq (sTgt (eVar 0) (nTup 3 (nCons (nName 1) (nCons (nName 2) (nCons (nName 3) nNil))))) (sRet (eAnd (eChain (eC (.int 2)) (cLink gLe (eVar 1) (cLast gLe (eC (.int 140))))) (eChain (eUn gNeg (eC (.int 600))) (cLink gLe (eVar 2) (cLink gLe (eVar 3) (cLast gLe (eC (.int 600))))))))))
def m_is_format : List D → S → R D := fnM 4 G_is_format
theorem ok_is_format {P : Program} {w : World} {K : PySem.W.Frag} {mg : Str → Option Value} {base : Heap} {Tb : List (Addr × Str)} {f : Addr} {fd : FuncData} (F : Fun K "is_format" "is_format" s_is_format f fd) (k_are_integers : DefOk P w K mg base Tb "are_integers" 2 2 [] m_are_integers) : FnOk P w K mg base (L2N.CX P w) 3 f fd ["form"] (spM P w K mg base Tb 1 m_is_format) := by
  refine def_fn F sc_is_format fun st hT cdv A outer s H E hr => ?_
  subst hT
  have px := cx_passes (P := P) (w := w) (K := K) (mg := mg) (base := base) (N := N_is_format) (qual := "is_format") (stm := s_is_format) (f := f) (cdv := cdv) (A := A) (outer := outer) (s := s) (H := H) (E := E)
  exact (sd_cons (s_if (td_not (td_tru (ed_call k_are_integers (hr.mono (by omega)) px (ad_cons (ed_var 0) (ad_cons ed_int ad_nil))))) (sd_one (s_ret ed_bl)) sd_nil) (sd_cons (s_tgt (ed_var 0) (gd_tup rfl (gd_cons (gd_name 1 sc_is_format.nd) (gd_cons (gd_name 2 sc_is_format.nd) (gd_cons (gd_name 3 sc_is_format.nd) gd_nil))))) (sd_one (s_ret (ed_and (ed_chain ed_int (ch_link opd_le (ed_var 1) (ch_last opd_le ed_int))) (ed_one (ed_chain (ed_neg ed_int) (ch_link opd_le (ed_var 2) (ch_link opd_le (ed_var 3) (ch_last opd_le ed_int))))))))))
abbrev s_check_format : Stmt := topS 25
abbrev N_check_format : List Str := ["form"]
theorem sc_check_format : FnScope N_check_format ["form"] (defScope s_check_format) := ⟨rfl, rfl, rfl, by decide +kernel, rfl, by decide +kernel, by decide +kernel⟩
def G_check_format : FS := (sIf (tNot (tTru (eApp 1 [] m_is_format (aCons (eVar 0) aNil)))) (sRaise "BadFormat") sNil)
def m_check_format : List D → S → R D := fnM 1 G_check_format
theorem ok_check_format {P : Program} {w : World} {K : PySem.W.Frag} {mg : Str → Option Value} {base : Heap} {Tb : List (Addr × Str)} {f : Addr} {fd : FuncData} (F : Fun K "check_format" "check_format" s_check_format f fd) (e_BadFormat : ErrOk K mg "BadFormat") (k_is_format : DefOk P w K mg base Tb "is_format" 3 1 [] m_is_format) : FnOk P w K mg base (L2N.CX P w) 4 f fd ["form"] (spM P w K mg base Tb 1 m_check_format) := by
  refine def_fn F sc_check_format fun st hT cdv A outer s H E hr => ?_
  subst hT
  have px := cx_passes (P := P) (w := w) (K := K) (mg := mg) (base := base) (N := N_check_format) (qual := "check_format") (stm := s_check_format) (f := f) (cdv := cdv) (A := A) (outer := outer) (s := s) (H := H) (E := E)
  exact (sd_one (s_if (td_not (td_tru (ed_call k_is_format (hr.mono (by omega)) px (ad_cons (ed_var 0) ad_nil)))) (sd_one (s_raise rfl (L2N.takes_of rfl rfl rfl rfl) e_BadFormat)) sd_nil))
abbrev s_unit_at : Stmt := topS 26
abbrev N_unit_at : List Str := ["form", "power", "p", "lo", "_"]
theorem sc_unit_at : FnScope N_unit_at ["form", "power"] (defScope s_unit_at) := ⟨rfl, rfl, rfl, by decide +kernel, rfl, by decide +kernel, by decide +kernel⟩
def G_unit_at : FS := (sSeq (sTgt (eVar 0) (nTup 3 (nCons (nName 2) (nCons (nName 3) (nCons (nName 4) nNil))))) (sRet (eCall gMax (aCons (eOp gAdd (eOp (gI gSubI) (eVar 1) (eVar 2)) (eC (.int 1))) (aCons (eVar 3) aNil)))))
def m_unit_at : List D → S → R D := fnM 5 G_unit_at
theorem ok_unit_at {P : Program} {w : World} {K : PySem.W.Frag} {mg : Str → Option Value} {base : Heap} {Tb : List (Addr × Str)} {f : Addr} {fd : FuncData} (F : Fun K "unit_at" "unit_at" s_unit_at f fd) (z_max : mg "max" = none) : FnOk P w K mg base (L2N.CX P w) 1 f fd ["form", "power"] (spM P w K mg base Tb 2 m_unit_at) := by
  refine def_fn F sc_unit_at fun st hT cdv A outer s H E hr => ?_
  subst hT
  have px := cx_passes (P := P) (w := w) (K := K) (mg := mg) (base := base) (N := N_unit_at) (qual := "unit_at") (stm := s_unit_at) (f := f) (cdv := cdv) (A := A) (outer := outer) (s := s) (H := H) (E := E)
  exact (sd_cons (s_tgt (ed_var 0) (gd_tup rfl (gd_cons (gd_name 2 sc_unit_at.nd) (gd_cons (gd_name 3 sc_unit_at.nd) (gd_cons (gd_name 4 sc_unit_at.nd) gd_nil))))) (sd_one (s_ret (ed_callB (cd_max rfl) (by rfl) z_max (by decide +kernel) (ad_cons (ed_op opd_add (ed_op opd_sub (ed_var 1) (ed_var 2)) ed_int) (ad_cons (ed_var 3) ad_nil))))))
abbrev s_in_bounds : Stmt := topS 29
abbrev N_in_bounds : List Str := ["m", "q"]
theorem sc_in_bounds : FnScope N_in_bounds ["m", "q"] (defScope s_in_bounds) := ⟨rfl, rfl, rfl, by decide +kernel, rfl, by decide +kernel, by decide +kernel⟩
def G_in_bounds : FS := (sRet (eAnd (eOp gLe (eUn gBits (eVar 0)) (eC (.int 600))) (eChain (eUn gNeg (eC (.int 2000))) (cLink gLe (eVar 1) (cLast gLe (eC (.int 2000)))))))
def m_in_bounds : List D → S → R D := fnM 2 G_in_bounds
theorem ok_in_bounds {P : Program} {w : World} {K : PySem.W.Frag} {mg : Str → Option Value} {base : Heap} {Tb : List (Addr × Str)} {f : Addr} {fd : FuncData} (F : Fun K "in_bounds" "in_bounds" s_in_bounds f fd) : FnOk P w K mg base (L2N.CX P w) 1 f fd ["m", "q"] (spM P w K mg base Tb 2 m_in_bounds) := by
  refine def_fn F sc_in_bounds fun st hT cdv A outer s H E hr => ?_
  subst hT
  have px := cx_passes (P := P) (w := w) (K := K) (mg := mg) (base := base) (N := N_in_bounds) (qual := "in_bounds") (stm := s_in_bounds) (f := f) (cdv := cdv) (A := A) (outer := outer) (s := s) (H := H) (E := E)
  exact (sd_one (s_ret (ed_and (ed_cmp opd_le (ed_bits (ed_var 0)) ed_int (nomark _)) (ed_one (ed_chain (ed_neg ed_int) (ch_link opd_le (ed_var 1) (ch_last opd_le ed_int)))))))
abbrev s_is_number : Stmt := topS 30
abbrev N_is_number : List Str := ["value", "s", "m", "q"]
theorem sc_is_number : FnScope N_is_number ["value"] (defScope s_is_number) := ⟨rfl, rfl, rfl, by decide +kernel, rfl, by decide +kernel, by decide +kernel⟩
def G_is_number : FS := (sSeq (sIf (tNot (tTru (eApp 2 [] m_are_integers (aCons (eVar 0) (aCons (eC (.int 3)) aNil))))) (sRet (eC (.bl false))) sNil) (sSeq (sTgt (eVar 0) (nTup 3 (nCons (nName 1) (nCons (nName 2) (nCons (nName 3) nNil))))) (sSeq (sIf (tAnd (tCmp gNe (eVar 1) (eC (.int 0))) (tCmp gNe (eVar 1) (eC (.int 1)))) (sRet (eC (.bl false))) sNil) (sSeq (sIf (tCmp gGt (eVar 2) (eC (.int 0))) (sRet (eAnd (eOp gEq (eOp (gI gAndI) (eVar 2) (eC (.int 1))) (eC (.int 1))) (eApp 2 [] m_in_bounds (aCons (eVar 2) (aCons (eVar 3) aNil))))) sNil) (sRet (eAnd (eOp gEq (eVar 3) (eC (.int 0))) (eOr (eOp gGe (eVar 2) (eUn gNeg (eC (.int 1)))) (eOp gEq (eVar 0) (eC d_NAN)))))))))
def m_is_number : List D → S → R D := fnM 4 G_is_number
theorem ok_is_number {P : Program} {w : World} {K : PySem.W.Frag} {mg : Str → Option Value} {base : Heap} {Tb : List (Addr × Str)} {f : Addr} {fd : FuncData} (F : Fun K "is_number" "is_number" s_is_number f fd) (g_NAN : GlobK K mg "NAN" d_NAN) (k_are_integers : DefOk P w K mg base Tb "are_integers" 2 2 [] m_are_integers) (k_in_bounds : DefOk P w K mg base Tb "in_bounds" 1 2 [] m_in_bounds) : FnOk P w K mg base (L2N.CX P w) 3 f fd ["value"] (spM P w K mg base Tb 1 m_is_number) := by
  refine def_fn F sc_is_number fun st hT cdv A outer s H E hr => ?_
  subst hT
  have px := cx_passes (P := P) (w := w) (K := K) (mg := mg) (base := base) (N := N_is_number) (qual := "is_number") (stm := s_is_number) (f := f) (cdv := cdv) (A := A) (outer := outer) (s := s) (H := H) (E := E)
  exact (sd_cons (s_if (td_not (td_tru (ed_call k_are_integers (hr.mono (by omega)) px (ad_cons (ed_var 0) (ad_cons ed_int ad_nil))))) (sd_one (s_ret ed_bl)) sd_nil) (sd_cons (s_tgt (ed_var 0) (gd_tup rfl (gd_cons (gd_name 1 sc_is_number.nd) (gd_cons (gd_name 2 sc_is_number.nd) (gd_cons (gd_name 3 sc_is_number.nd) gd_nil))))) (sd_cons (s_if (WD.td (wd_and (td_cmp (opd_ne (hu64 hr)) (ed_var 1) ed_int (nomark _)) (wd_and1 (td_cmp (opd_ne (hu64 hr)) (ed_var 1) ed_int (nomark _))))) (sd_one (s_ret ed_bl)) sd_nil) (sd_cons (s_if (td_cmp opd_gt (ed_var 2) ed_int (nomark _)) (sd_one (s_ret (ed_and (ed_cmp (opd_eq (hu64 hr)) (ed_op opd_and (ed_var 2) ed_int) ed_int (nomark _)) (ed_one (ed_call k_in_bounds (hr.mono (by omega)) px (ad_cons (ed_var 2) (ad_cons (ed_var 3) ad_nil))))))) sd_nil) (sd_one (s_ret (ed_and (ed_cmp (opd_eq (hu64 hr)) (ed_var 3) ed_int (nomark _)) (ed_one (ed_or (ed_cmp opd_ge (ed_var 2) (ed_neg ed_int) (nomark _)) (ed_one (ed_cmp (opd_eq (hu64 hr)) (ed_var 0) (ed_globK g_NAN (by rfl)) (nomark _))))))))))))
abbrev s_check_number : Stmt := topS 31
abbrev N_check_number : List Str := ["x"]
theorem sc_check_number : FnScope N_check_number ["x"] (defScope s_check_number) := ⟨rfl, rfl, rfl, by decide +kernel, rfl, by decide +kernel, by decide +kernel⟩
def G_check_number : FS := (sIf (tNot (tTru (eApp 1 [] m_is_number (aCons (eVar 0) aNil)))) (sRaise "BadNumber") sNil)
def m_check_number : List D → S → R D := fnM 1 G_check_number
theorem ok_check_number {P : Program} {w : World} {K : PySem.W.Frag} {mg : Str → Option Value} {base : Heap} {Tb : List (Addr × Str)} {f : Addr} {fd : FuncData} (F : Fun K "check_number" "check_number" s_check_number f fd) (e_BadNumber : ErrOk K mg "BadNumber") (k_is_number : DefOk P w K mg base Tb "is_number" 3 1 [] m_is_number) : FnOk P w K mg base (L2N.CX P w) 4 f fd ["x"] (spM P w K mg base Tb 1 m_check_number) := by
  refine def_fn F sc_check_number fun st hT cdv A outer s H E hr => ?_
  subst hT
  have px := cx_passes (P := P) (w := w) (K := K) (mg := mg) (base := base) (N := N_check_number) (qual := "check_number") (stm := s_check_number) (f := f) (cdv := cdv) (A := A) (outer := outer) (s := s) (H := H) (E := E)
  exact (sd_one (s_if (td_not (td_tru (ed_call k_is_number (hr.mono (by omega)) px (ad_cons (ed_var 0) ad_nil)))) (sd_one (s_raise rfl (L2N.takes_of rfl rfl rfl rfl) e_BadNumber)) sd_nil))
abbrev s_is_zero : Stmt := topS 32
abbrev N_is_zero : List Str := ["x"]
theorem sc_is_zero : FnScope N_is_zero ["x"] (defScope s_is_zero) := ⟨rfl, rfl, rfl, by decide +kernel, rfl, by decide +kernel, by decide +kernel⟩
def G_is_zero : FS := (sRet (eOp gEq (eOp gIx (eVar 0) (eC (.int 1))) (eC (.int 0))))
def m_is_zero : List D → S → R D := fnM 1 G_is_zero
theorem ok_is_zero {P : Program} {w : World} {K : PySem.W.Frag} {mg : Str → Option Value} {base : Heap} {Tb : List (Addr × Str)} {f : Addr} {fd : FuncData} (F : Fun K "is_zero" "is_zero" s_is_zero f fd) : FnOk P w K mg base (L2N.CX P w) 1 f fd ["x"] (spM P w K mg base Tb 1 m_is_zero) := by
  refine def_fn F sc_is_zero fun st hT cdv A outer s H E hr => ?_
  subst hT
  have px := cx_passes (P := P) (w := w) (K := K) (mg := mg) (base := base) (N := N_is_zero) (qual := "is_zero") (stm := s_is_zero) (f := f) (cdv := cdv) (A := A) (outer := outer) (s := s) (H := H) (E := E)
  exact (sd_one (s_ret (ed_cmp (opd_eq (hu64 hr)) (ed_ix (ed_var 0) ed_int) ed_int (nomark _))))
abbrev s_is_infinite : Stmt := topS 33
abbrev N_is_infinite : List Str := ["x"]
theorem sc_is_infinite : FnScope N_is_infinite ["x"] (defScope s_is_infinite) := ⟨rfl, rfl, rfl, by decide +kernel, rfl, by decide +kernel, by decide +kernel⟩
def G_is_infinite : FS := (sRet (eOp gEq (eOp gIx (eVar 0) (eC (.int 1))) (eUn gNeg (eC (.int 1)))))
def m_is_infinite : List D → S → R D := fnM 1 G_is_infinite
theorem ok_is_infinite {P : Program} {w : World} {K : PySem.W.Frag} {mg : Str → Option Value} {base : Heap} {Tb : List (Addr × Str)} {f : Addr} {fd : FuncData} (F : Fun K "is_infinite" "is_infinite" s_is_infinite f fd) : FnOk P w K mg base (L2N.CX P w) 1 f fd ["x"] (spM P w K mg base Tb 1 m_is_infinite) := by
  refine def_fn F sc_is_infinite fun st hT cdv A outer s H E hr => ?_
  subst hT
  have px := cx_passes (P := P) (w := w) (K := K) (mg := mg) (base := base) (N := N_is_infinite) (qual := "is_infinite") (stm := s_is_infinite) (f := f) (cdv := cdv) (A := A) (outer := outer) (s := s) (H := H) (E := E)
  exact (sd_one (s_ret (ed_cmp (opd_eq (hu64 hr)) (ed_ix (ed_var 0) ed_int) (ed_neg ed_int) (nomark _))))
abbrev s_is_nan : Stmt := topS 34
abbrev N_is_nan : List Str := ["x"]
theorem sc_is_nan : FnScope N_is_nan ["x"] (defScope s_is_nan) := ⟨rfl, rfl, rfl, by decide +kernel, rfl, by decide +kernel, by decide +kernel⟩
def G_is_nan : FS := (sRet (eOp gEq (eOp gIx (eVar 0) (eC (.int 1))) (eUn gNeg (eC (.int 2)))))
def m_is_nan : List D → S → R D := fnM 1 G_is_nan
theorem ok_is_nan {P : Program} {w : World} {K : PySem.W.Frag} {mg : Str → Option Value} {base : Heap} {Tb : List (Addr × Str)} {f : Addr} {fd : FuncData} (F : Fun K "is_nan" "is_nan" s_is_nan f fd) : FnOk P w K mg base (L2N.CX P w) 1 f fd ["x"] (spM P w K mg base Tb 1 m_is_nan) := by
  refine def_fn F sc_is_nan fun st hT cdv A outer s H E hr => ?_
  subst hT
  have px := cx_passes (P := P) (w := w) (K := K) (mg := mg) (base := base) (N := N_is_nan) (qual := "is_nan") (stm := s_is_nan) (f := f) (cdv := cdv) (A := A) (outer := outer) (s := s) (H := H) (E := E)
  exact (sd_one (s_ret (ed_cmp (opd_eq (hu64 hr)) (ed_ix (ed_var 0) ed_int) (ed_neg ed_int) (nomark _))))
abbrev s_check_valued : Stmt := topS 35
abbrev N_check_valued : List Str := ["x"]
theorem sc_check_valued : FnScope N_check_valued ["x"] (defScope s_check_valued) := ⟨rfl, rfl, rfl, by decide +kernel, rfl, by decide +kernel, by decide +kernel⟩
def G_check_valued : FS := (sSeq (sExpr (eApp 1 [] m_check_number (aCons (eVar 0) aNil))) (sIf (tCmp gLt (eOp gIx (eVar 0) (eC (.int 1))) (eC (.int 0))) (sRaise "BadNumber") sNil))
def m_check_valued : List D → S → R D := fnM 1 G_check_valued
theorem ok_check_valued {P : Program} {w : World} {K : PySem.W.Frag} {mg : Str → Option Value} {base : Heap} {Tb : List (Addr × Str)} {f : Addr} {fd : FuncData} (F : Fun K "check_valued" "check_valued" s_check_valued f fd) (e_BadNumber : ErrOk K mg "BadNumber") (k_check_number : DefOk P w K mg base Tb "check_number" 4 1 [] m_check_number) : FnOk P w K mg base (L2N.CX P w) 5 f fd ["x"] (spM P w K mg base Tb 1 m_check_valued) := by
  refine def_fn F sc_check_valued fun st hT cdv A outer s H E hr => ?_
  subst hT
  have px := cx_passes (P := P) (w := w) (K := K) (mg := mg) (base := base) (N := N_check_valued) (qual := "check_valued") (stm := s_check_valued) (f := f) (cdv := cdv) (A := A) (outer := outer) (s := s) (H := H) (E := E)
  exact (sd_cons (s_expr (ed_call k_check_number (hr.mono (by omega)) px (ad_cons (ed_var 0) ad_nil))) (sd_one (s_if (td_cmp opd_lt (ed_ix (ed_var 0) ed_int) ed_int (nomark _)) (sd_one (s_raise rfl (L2N.takes_of rfl rfl rfl rfl) e_BadNumber)) sd_nil)))
abbrev s_odd_parts : Stmt := topS 36
abbrev N_odd_parts : List Str := ["m", "q", "shift"]
theorem sc_odd_parts : FnScope N_odd_parts ["m", "q"] (defScope s_odd_parts) := ⟨rfl, rfl, rfl, by decide +kernel, rfl, by decide +kernel, by decide +kernel⟩
def G_odd_parts : FS := (sSeq (sSet 2 (eOp (gI gSubI) (eUn gBits (eOp (gI gAndI) (eVar 0) (eUn gNeg (eVar 0)))) (eC (.int 1)))) (sRet (eTup (aCons (eOp (gI gShrI) (eVar 0) (eVar 2)) (aCons (eOp gAdd (eVar 1) (eVar 2)) aNil)))))
def m_odd_parts : List D → S → R D := fnM 3 G_odd_parts
theorem ok_odd_parts {P : Program} {w : World} {K : PySem.W.Frag} {mg : Str → Option Value} {base : Heap} {Tb : List (Addr × Str)} {f : Addr} {fd : FuncData} (F : Fun K "odd_parts" "odd_parts" s_odd_parts f fd) : FnOk P w K mg base (L2N.CX P w) 1 f fd ["m", "q"] (spM P w K mg base Tb 2 m_odd_parts) := by
  refine def_fn F sc_odd_parts fun st hT cdv A outer s H E hr => ?_
  subst hT
  have px := cx_passes (P := P) (w := w) (K := K) (mg := mg) (base := base) (N := N_odd_parts) (qual := "odd_parts") (stm := s_odd_parts) (f := f) (cdv := cdv) (A := A) (outer := outer) (s := s) (H := H) (E := E)
  exact (sd_cons (s_set 2 sc_odd_parts.nd (ed_op opd_sub (ed_bits (ed_op opd_and (ed_var 0) (ed_neg (ed_var 0)))) ed_int)) (sd_one (s_ret (ed_tup (ad_cons (ed_op opd_shr (ed_var 0) (ed_var 2)) (ad_cons (ed_op opd_add (ed_var 1) (ed_var 2)) ad_nil))))))
abbrev s_signed : Stmt := topS 37
abbrev N_signed : List Str := ["s", "m", "q", "odd", "power"]
theorem sc_signed : FnScope N_signed ["s", "m", "q"] (defScope s_signed) := ⟨rfl, rfl, rfl, by decide +kernel, rfl, by decide +kernel, by decide +kernel⟩
def G_signed : FS := (sSeq (sIf (tCmp gEq (eVar 1) (eC (.int 0))) (sRet (eTup (aCons (eVar 0) (aCons (eC (.int 0)) (aCons (eC (.int 0)) aNil))))) sNil) (sSeq (sTgt (eApp 2 [] m_odd_parts (aCons (eVar 1) (aCons (eVar 2) aNil))) (nTup 2 (nCons (nName 3) (nCons (nName 4) nNil)))) (sRet (eTup (aCons (eVar 0) (aCons (eVar 3) (aCons (eVar 4) aNil)))))))
def m_signed : List D → S → R D := fnM 5 G_signed
theorem ok_signed {P : Program} {w : World} {K : PySem.W.Frag} {mg : Str → Option Value} {base : Heap} {Tb : List (Addr × Str)} {f : Addr} {fd : FuncData} (F : Fun K "signed" "signed" s_signed f fd) (k_odd_parts : DefOk P w K mg base Tb "odd_parts" 1 2 [] m_odd_parts) : FnOk P w K mg base (L2N.CX P w) 2 f fd ["s", "m", "q"] (spM P w K mg base Tb 3 m_signed) := by
  refine def_fn F sc_signed fun st hT cdv A outer s H E hr => ?_
  subst hT
  have px := cx_passes (P := P) (w := w) (K := K) (mg := mg) (base := base) (N := N_signed) (qual := "signed") (stm := s_signed) (f := f) (cdv := cdv) (A := A) (outer := outer) (s := s) (H := H) (E := E)
  exact (sd_cons (s_if (td_cmp (opd_eq (hu64 hr)) (ed_var 1) ed_int (nomark _)) (sd_one (s_ret (ed_tup (ad_cons (ed_var 0) (ad_cons ed_int (ad_cons ed_int ad_nil)))))) sd_nil) (sd_cons (s_tgt (ed_call k_odd_parts (hr.mono (by omega)) px (ad_cons (ed_var 1) (ad_cons (ed_var 2) ad_nil))) (gd_tup rfl (gd_cons (gd_name 3 sc_signed.nd) (gd_cons (gd_name 4 sc_signed.nd) gd_nil)))) (sd_one (s_ret (ed_tup (ad_cons (ed_var 0) (ad_cons (ed_var 3) (ad_cons (ed_var 4) ad_nil))))))))
abbrev s_signed_part : Stmt := topS 38
abbrev N_signed_part : List Str := ["x"]
theorem sc_signed_part : FnScope N_signed_part ["x"] (defScope s_signed_part) := ⟨rfl, rfl, rfl, by decide +kernel, rfl, by decide +kernel, by decide +kernel⟩
def G_signed_part : FS := (sRet (eIf (tCmp gEq (eOp gIx (eVar 0) (eC (.int 0))) (eC (.int 1))) (eUn gNeg (eOp gIx (eVar 0) (eC (.int 1)))) (eOp gIx (eVar 0) (eC (.int 1)))))
def m_signed_part : List D → S → R D := fnM 1 G_signed_part
theorem ok_signed_part {P : Program} {w : World} {K : PySem.W.Frag} {mg : Str → Option Value} {base : Heap} {Tb : List (Addr × Str)} {f : Addr} {fd : FuncData} (F : Fun K "signed_part" "signed_part" s_signed_part f fd) : FnOk P w K mg base (L2N.CX P w) 1 f fd ["x"] (spM P w K mg base Tb 1 m_signed_part) := by
  refine def_fn F sc_signed_part fun st hT cdv A outer s H E hr => ?_
  subst hT
  have px := cx_passes (P := P) (w := w) (K := K) (mg := mg) (base := base) (N := N_signed_part) (qual := "signed_part") (stm := s_signed_part) (f := f) (cdv := cdv) (A := A) (outer := outer) (s := s) (H := H) (E := E)
  exact (sd_one (s_ret (ed_if (td_cmp (opd_eq (hu64 hr)) (ed_ix (ed_var 0) ed_int) ed_int (nomark _)) (ed_neg (ed_ix (ed_var 0) ed_int)) (ed_ix (ed_var 0) ed_int))))
abbrev s_dyadic : Stmt := topS 39
abbrev N_dyadic : List Str := ["m", "q", "odd", "power"]
theorem sc_dyadic : FnScope N_dyadic ["m", "q"] (defScope s_dyadic) := ⟨rfl, rfl, rfl, by decide +kernel, rfl, by decide +kernel, by decide +kernel⟩
def G_dyadic : FS := (sSeq (sIf (tCmp gEq (eVar 0) (eC (.int 0))) (sRet (eTup (aCons (eC (.int 0)) (aCons (eC (.int 1)) (aCons (eC (.int 1)) aNil))))) sNil) (sSeq (sTgt (eApp 2 [] m_odd_parts (aCons (eVar 0) (aCons (eVar 1) aNil))) (nTup 2 (nCons (nName 2) (nCons (nName 3) nNil)))) (sSeq (sIf (tCmp gGe (eVar 3) (eC (.int 0))) (sRet (eTup (aCons (eOp (gI gShlI) (eVar 2) (eVar 3)) (aCons (eC (.int 1)) (aCons (eC (.int 1)) aNil))))) sNil) (sRet (eTup (aCons (eVar 2) (aCons (eOp (gI gShlI) (eC (.int 1)) (eUn gNeg (eVar 3))) (aCons (eC (.int 1)) aNil))))))))
def m_dyadic : List D → S → R D := fnM 4 G_dyadic
theorem ok_dyadic {P : Program} {w : World} {K : PySem.W.Frag} {mg : Str → Option Value} {base : Heap} {Tb : List (Addr × Str)} {f : Addr} {fd : FuncData} (F : Fun K "dyadic" "dyadic" s_dyadic f fd) (k_odd_parts : DefOk P w K mg base Tb "odd_parts" 1 2 [] m_odd_parts) : FnOk P w K mg base (L2N.CX P w) 2 f fd ["m", "q"] (spM P w K mg base Tb 2 m_dyadic) := by
  refine def_fn F sc_dyadic fun st hT cdv A outer s H E hr => ?_
  subst hT
  have px := cx_passes (P := P) (w := w) (K := K) (mg := mg) (base := base) (N := N_dyadic) (qual := "dyadic") (stm := s_dyadic) (f := f) (cdv := cdv) (A := A) (outer := outer) (s := s) (H := H) (E := E)
  exact (sd_cons (s_if (td_cmp (opd_eq (hu64 hr)) (ed_var 0) ed_int (nomark _)) (sd_one (s_ret (ed_tup (ad_cons ed_int (ad_cons ed_int (ad_cons ed_int ad_nil)))))) sd_nil) (sd_cons (s_tgt (ed_call k_odd_parts (hr.mono (by omega)) px (ad_cons (ed_var 0) (ad_cons (ed_var 1) ad_nil))) (gd_tup rfl (gd_cons (gd_name 2 sc_dyadic.nd) (gd_cons (gd_name 3 sc_dyadic.nd) gd_nil)))) (sd_cons (s_if (td_cmp opd_ge (ed_var 3) ed_int (nomark _)) (sd_one (s_ret (ed_tup (ad_cons (ed_op opd_shl (ed_var 2) (ed_var 3)) (ad_cons ed_int (ad_cons ed_int ad_nil)))))) sd_nil) (sd_one (s_ret (ed_tup (ad_cons (ed_var 2) (ad_cons (ed_op opd_shl ed_int (ed_neg (ed_var 3))) (ad_cons ed_int ad_nil)))))))))
abbrev s_compare_integers : Stmt := topS 40
abbrev N_compare_integers : List Str := ["a", "b"]
theorem sc_compare_integers : FnScope N_compare_integers ["a", "b"] (defScope s_compare_integers) := ⟨rfl, rfl, rfl, by decide +kernel, rfl, by decide +kernel, by decide +kernel⟩
def G_compare_integers : FS := (sSeq (sIf (tCmp gEq (eVar 0) (eVar 1)) (sRet (eC (.int 0))) sNil) (sRet (eIf (tCmp gLt (eVar 0) (eVar 1)) (eUn gNeg (eC (.int 1))) (eC (.int 1)))))
def m_compare_integers : List D → S → R D := fnM 2 G_compare_integers
theorem ok_compare_integers {P : Program} {w : World} {K : PySem.W.Frag} {mg : Str → Option Value} {base : Heap} {Tb : List (Addr × Str)} {f : Addr} {fd : FuncData} (F : Fun K "compare_integers" "compare_integers" s_compare_integers f fd) : FnOk P w K mg base (L2N.CX P w) 1 f fd ["a", "b"] (spM P w K mg base Tb 2 m_compare_integers) := by
  refine def_fn F sc_compare_integers fun st hT cdv A outer s H E hr => ?_
  subst hT
  have px := cx_passes (P := P) (w := w) (K := K) (mg := mg) (base := base) (N := N_compare_integers) (qual := "compare_integers") (stm := s_compare_integers) (f := f) (cdv := cdv) (A := A) (outer := outer) (s := s) (H := H) (E := E)
  exact (sd_cons (s_if (td_cmp (opd_eq (hu64 hr)) (ed_var 0) (ed_var 1) (nomark _)) (sd_one (s_ret ed_int)) sd_nil) (sd_one (s_ret (ed_if (td_cmp opd_lt (ed_var 0) (ed_var 1) (nomark _)) (ed_neg ed_int) ed_int))))
abbrev s_exact_value : Stmt := topS 41
abbrev N_exact_value : List Str := ["x"]
theorem sc_exact_value : FnScope N_exact_value ["x"] (defScope s_exact_value) := ⟨rfl, rfl, rfl, by decide +kernel, rfl, by decide +kernel, by decide +kernel⟩
def G_exact_value : FS := (sRet (eApp 2 [] m_dyadic (aCons (eApp 1 [] m_signed_part (aCons (eVar 0) aNil)) (aCons (eOp gIx (eVar 0) (eC (.int 2))) aNil))))
def m_exact_value : List D → S → R D := fnM 1 G_exact_value
theorem ok_exact_value {P : Program} {w : World} {K : PySem.W.Frag} {mg : Str → Option Value} {base : Heap} {Tb : List (Addr × Str)} {f : Addr} {fd : FuncData} (F : Fun K "exact_value" "exact_value" s_exact_value f fd) (k_dyadic : DefOk P w K mg base Tb "dyadic" 2 2 [] m_dyadic) (k_signed_part : DefOk P w K mg base Tb "signed_part" 1 1 [] m_signed_part) : FnOk P w K mg base (L2N.CX P w) 3 f fd ["x"] (spM P w K mg base Tb 1 m_exact_value) := by
  refine def_fn F sc_exact_value fun st hT cdv A outer s H E hr => ?_
  subst hT
  have px := cx_passes (P := P) (w := w) (K := K) (mg := mg) (base := base) (N := N_exact_value) (qual := "exact_value") (stm := s_exact_value) (f := f) (cdv := cdv) (A := A) (outer := outer) (s := s) (H := H) (E := E)
  exact (sd_one (s_ret (ed_call k_dyadic (hr.mono (by omega)) px (ad_cons (ed_call k_signed_part (hr.mono (by omega)) px (ad_cons (ed_var 0) ad_nil)) (ad_cons (ed_ix (ed_var 0) ed_int) ad_nil)))))
abbrev s_is_exact : Stmt := topS 44
abbrev N_is_exact : List Str := ["value", "n", "d", "k"]
theorem sc_is_exact : FnScope N_is_exact ["value"] (defScope s_is_exact) := ⟨rfl, rfl, rfl, by decide +kernel, rfl, by decide +kernel, by decide +kernel⟩
def G_is_exact : FS := (sSeq (sIf (tNot (tTru (eApp 2 [] m_are_integers (aCons (eVar 0) (aCons (eC (.int 3)) aNil))))) (sRet (eC (.bl false))) sNil) (sSeq (sTgt (eVar 0) (nTup 3 (nCons (nName 1) (nCons (nName 2) (nCons (nName 3) nNil))))) (sSeq (sIf (tOr (tCmp gLt (eVar 2) (eC (.int 1))) (tOr (tCmp gLt (eVar 3) (eC (.int 1))) (tOr (tCmp gGt (eVar 3) (eC (.int 2))) (tAnd (tCmp gEq (eVar 3) (eC (.int 2))) (tCmp gLt (eVar 1) (eC (.int 0))))))) (sRet (eC (.bl false))) sNil) (sRet (eAnd (eOp gLe (eUn gBits (eVar 1)) (eC d_EXACT_BITS)) (eOp gLe (eUn gBits (eVar 2)) (eC d_EXACT_BITS)))))))
def m_is_exact : List D → S → R D := fnM 4 G_is_exact
theorem ok_is_exact {P : Program} {w : World} {K : PySem.W.Frag} {mg : Str → Option Value} {base : Heap} {Tb : List (Addr × Str)} {f : Addr} {fd : FuncData} (F : Fun K "is_exact" "is_exact" s_is_exact f fd) (g_EXACT_BITS : GlobK K mg "EXACT_BITS" d_EXACT_BITS) (k_are_integers : DefOk P w K mg base Tb "are_integers" 2 2 [] m_are_integers) : FnOk P w K mg base (L2N.CX P w) 3 f fd ["value"] (spM P w K mg base Tb 1 m_is_exact) := by
  refine def_fn F sc_is_exact fun st hT cdv A outer s H E hr => ?_
  subst hT
  have px := cx_passes (P := P) (w := w) (K := K) (mg := mg) (base := base) (N := N_is_exact) (qual := "is_exact") (stm := s_is_exact) (f := f) (cdv := cdv) (A := A) (outer := outer) (s := s) (H := H) (E := E)
  exact (sd_cons (s_if (td_not (td_tru (ed_call k_are_integers (hr.mono (by omega)) px (ad_cons (ed_var 0) (ad_cons ed_int ad_nil))))) (sd_one (s_ret ed_bl)) sd_nil) (sd_cons (s_tgt (ed_var 0) (gd_tup rfl (gd_cons (gd_name 1 sc_is_exact.nd) (gd_cons (gd_name 2 sc_is_exact.nd) (gd_cons (gd_name 3 sc_is_exact.nd) gd_nil))))) (sd_cons (s_if (WD.td (wd_or (td_cmp opd_lt (ed_var 2) ed_int (nomark _)) (wd_or (td_cmp opd_lt (ed_var 3) ed_int (nomark _)) (wd_or (td_cmp opd_gt (ed_var 3) ed_int (nomark _)) (wd_or1 (WD.td (wd_and (td_cmp (opd_eq (hu64 hr)) (ed_var 3) ed_int (nomark _)) (wd_and1 (td_cmp opd_lt (ed_var 1) ed_int (nomark _)))))))))) (sd_one (s_ret ed_bl)) sd_nil) (sd_one (s_ret (ed_and (ed_cmp opd_le (ed_bits (ed_var 1)) (ed_globK g_EXACT_BITS (by rfl)) (nomark _)) (ed_one (ed_cmp opd_le (ed_bits (ed_var 2)) (ed_globK g_EXACT_BITS (by rfl)) (nomark _)))))))))
abbrev s_check_exact : Stmt := topS 45
abbrev N_check_exact : List Str := ["exact"]
theorem sc_check_exact : FnScope N_check_exact ["exact"] (defScope s_check_exact) := ⟨rfl, rfl, rfl, by decide +kernel, rfl, by decide +kernel, by decide +kernel⟩
def G_check_exact : FS := (sIf (tNot (tTru (eApp 1 [] m_is_exact (aCons (eVar 0) aNil)))) (sRaise "BadExact") sNil)
def m_check_exact : List D → S → R D := fnM 1 G_check_exact
theorem ok_check_exact {P : Program} {w : World} {K : PySem.W.Frag} {mg : Str → Option Value} {base : Heap} {Tb : List (Addr × Str)} {f : Addr} {fd : FuncData} (F : Fun K "check_exact" "check_exact" s_check_exact f fd) (e_BadExact : ErrOk K mg "BadExact") (k_is_exact : DefOk P w K mg base Tb "is_exact" 3 1 [] m_is_exact) : FnOk P w K mg base (L2N.CX P w) 4 f fd ["exact"] (spM P w K mg base Tb 1 m_check_exact) := by
  refine def_fn F sc_check_exact fun st hT cdv A outer s H E hr => ?_
  subst hT
  have px := cx_passes (P := P) (w := w) (K := K) (mg := mg) (base := base) (N := N_check_exact) (qual := "check_exact") (stm := s_check_exact) (f := f) (cdv := cdv) (A := A) (outer := outer) (s := s) (H := H) (E := E)
  exact (sd_one (s_if (td_not (td_tru (ed_call k_is_exact (hr.mono (by omega)) px (ad_cons (ed_var 0) ad_nil)))) (sd_one (s_raise rfl (L2N.takes_of rfl rfl rfl rfl) e_BadExact)) sd_nil))
abbrev s_lowest : Stmt := topS 46
abbrev N_lowest : List Str := ["n", "d", "k", "common"]
theorem sc_lowest : FnScope N_lowest ["n", "d", "k"] (defScope s_lowest) := ⟨rfl, rfl, rfl, by decide +kernel, rfl, by decide +kernel, by decide +kernel⟩
def G_lowest : FS := (sSeq (sSet 3 (eCall gGcd (aCons (eVar 0) (aCons (eVar 1) aNil)))) (sRet (eTup (aCons (eOp (gI gDivB) (eVar 0) (eVar 3)) (aCons (eOp (gI gDivB) (eVar 1) (eVar 3)) (aCons (eVar 2) aNil))))))
def m_lowest : List D → S → R D := fnM 4 G_lowest
theorem ok_lowest {P : Program} {w : World} {K : PySem.W.Frag} {mg : Str → Option Value} {base : Heap} {Tb : List (Addr × Str)} {f : Addr} {fd : FuncData} (F : Fun K "lowest" "lowest" s_lowest f fd) (b_gcd : mg "gcd" = some (.builtin "math.gcd")) (sr : SeerB P w base) : FnOk P w K mg base (L2N.CX P w) 34 f fd ["n", "d", "k"] (spM P w K mg base Tb 3 m_lowest) := by
  refine def_fn F sc_lowest fun st hT cdv A outer s H E hr => ?_
  subst hT
  have px := cx_passes (P := P) (w := w) (K := K) (mg := mg) (base := base) (N := N_lowest) (qual := "lowest") (stm := s_lowest) (f := f) (cdv := cdv) (A := A) (outer := outer) (s := s) (H := H) (E := E)
  exact (sd_cons (s_set 3 sc_lowest.nd (ed_callG cd_gcd (by rfl) b_gcd (ad_cons (ed_var 0) (ad_cons (ed_var 1) ad_nil)))) (sd_one (s_ret (ed_tup (ad_cons (ed_op (opd_divB sr rfl rfl rfl rfl rfl (big_ok hr (by omega))) (ed_var 0) (ed_var 3)) (ad_cons (ed_op (opd_divB sr rfl rfl rfl rfl rfl (big_ok hr (by omega))) (ed_var 1) (ed_var 3)) (ad_cons (ed_var 2) ad_nil)))))))
abbrev s_powered : Stmt := topS 47
abbrev N_powered : List Str := ["base", "k"]
theorem sc_powered : FnScope N_powered ["base", "k"] (defScope s_powered) := ⟨rfl, rfl, rfl, by decide +kernel, rfl, by decide +kernel, by decide +kernel⟩
def G_powered : FS := (sRet (eIf (tCmp gEq (eVar 1) (eC (.int 1))) (eVar 0) (eOp (gI gMulI) (eVar 0) (eVar 0))))
def m_powered : List D → S → R D := fnM 2 G_powered
theorem ok_powered {P : Program} {w : World} {K : PySem.W.Frag} {mg : Str → Option Value} {base : Heap} {Tb : List (Addr × Str)} {f : Addr} {fd : FuncData} (F : Fun K "powered" "powered" s_powered f fd) : FnOk P w K mg base (L2N.CX P w) 1 f fd ["base", "k"] (spM P w K mg base Tb 2 m_powered) := by
  refine def_fn F sc_powered fun st hT cdv A outer s H E hr => ?_
  subst hT
  have px := cx_passes (P := P) (w := w) (K := K) (mg := mg) (base := base) (N := N_powered) (qual := "powered") (stm := s_powered) (f := f) (cdv := cdv) (A := A) (outer := outer) (s := s) (H := H) (E := E)
  exact (sd_one (s_ret (ed_if (td_cmp (opd_eq (hu64 hr)) (ed_var 1) ed_int (nomark _)) (ed_var 0) (ed_op opd_mul (ed_var 0) (ed_var 0)))))
abbrev s_power_of : Stmt := topS 48
abbrev N_power_of : List Str := ["exact", "n", "power", "d", "k", "below"]
theorem sc_power_of : FnScope N_power_of ["exact"] (defScope s_power_of) := ⟨rfl, rfl, rfl, by decide +kernel, rfl, by decide +kernel, by decide +kernel⟩
def G_power_of : FS := (sSeq (sTgt (eVar 0) (nTup 3 (nCons (nName 1) (nCons (nName 3) (nCons (nName 4) nNil))))) (sSeq (sSet 1 (eCall gAbs (aCons (eVar 1) aNil))) (sSeq (sSet 2 (eOp (gI gSubI) (eUn gBits (eVar 1)) (eUn gBits (eVar 3)))) (sSeq (sIf (tCmp gGe (eVar 2) (eC (.int 0))) (sSet 5 (eOp gLt (eVar 1) (eOp (gI gShlI) (eVar 3) (eVar 2)))) (sSet 5 (eOp gLt (eOp (gI gShlI) (eVar 1) (eUn gNeg (eVar 2))) (eVar 3)))) (sSeq (sIf (tTru (eVar 5)) (sSet 2 (eOp (gI gSubI) (eVar 2) (eC (.int 1)))) sNil) (sRet (eIf (tCmp gEq (eVar 4) (eC (.int 1))) (eVar 2) (eOp (gI gDivI) (eVar 2) (eC (.int 2))))))))))
def m_power_of : List D → S → R D := fnM 6 G_power_of
theorem ok_power_of {P : Program} {w : World} {K : PySem.W.Frag} {mg : Str → Option Value} {base : Heap} {Tb : List (Addr × Str)} {f : Addr} {fd : FuncData} (F : Fun K "power_of" "power_of" s_power_of f fd) (z_abs : mg "abs" = none) : FnOk P w K mg base (L2N.CX P w) 1 f fd ["exact"] (spM P w K mg base Tb 1 m_power_of) := by
  refine def_fn F sc_power_of fun st hT cdv A outer s H E hr => ?_
  subst hT
  have px := cx_passes (P := P) (w := w) (K := K) (mg := mg) (base := base) (N := N_power_of) (qual := "power_of") (stm := s_power_of) (f := f) (cdv := cdv) (A := A) (outer := outer) (s := s) (H := H) (E := E)
  exact (sd_cons (s_tgt (ed_var 0) (gd_tup rfl (gd_cons (gd_name 1 sc_power_of.nd) (gd_cons (gd_name 3 sc_power_of.nd) (gd_cons (gd_name 4 sc_power_of.nd) gd_nil))))) (sd_cons (s_set 1 sc_power_of.nd (ed_callB cd_abs (by rfl) z_abs (by decide +kernel) (ad_cons (ed_var 1) ad_nil))) (sd_cons (s_set 2 sc_power_of.nd (ed_op opd_sub (ed_bits (ed_var 1)) (ed_bits (ed_var 3)))) (sd_cons (s_if (td_cmp opd_ge (ed_var 2) ed_int (nomark _)) (sd_one (s_set 5 sc_power_of.nd (ed_cmp opd_lt (ed_var 1) (ed_op opd_shl (ed_var 3) (ed_var 2)) (nomark _)))) (sd_one (s_set 5 sc_power_of.nd (ed_cmp opd_lt (ed_op opd_shl (ed_var 1) (ed_neg (ed_var 2))) (ed_var 3) (nomark _))))) (sd_cons (s_if (td_tru (ed_var 5)) (sd_one (s_set 2 sc_power_of.nd (ed_op opd_sub (ed_var 2) ed_int))) sd_nil) (sd_one (s_ret (ed_if (td_cmp (opd_eq (hu64 hr)) (ed_var 4) ed_int (nomark _)) (ed_var 2) (ed_op opd_div (ed_var 2) ed_int)))))))))
abbrev s_place_of : Stmt := topS 49
abbrev N_place_of : List Str := ["exact", "unit", "shift", "over", "under", "count", "half", "n", "d", "k"]
theorem sc_place_of : FnScope N_place_of ["exact", "unit"] (defScope s_place_of) := ⟨rfl, rfl, rfl, by decide +kernel, rfl, by decide +kernel, by decide +kernel⟩
def G_place_of : FS := (sSeq (sTgt (eVar 0) (nTup 3 (nCons (nName 7) (nCons (nName 8) (nCons (nName 9) nNil))))) (sSeq (sSet 2 (eIf (tCmp gEq (eVar 9) (eC (.int 1))) (eVar 1) (eOp (gI gMulI) (eC (.int 2)) (eVar 1)))) (sSeq (sSet 3 (eOp (gI gShlI) (eCall gAbs (aCons (eVar 7) aNil)) (eCall gMax (aCons (eUn gNeg (eVar 2)) (aCons (eC (.int 0)) aNil))))) (sSeq (sSet 4 (eOp (gI gShlI) (eVar 8) (eCall gMax (aCons (eVar 2) (aCons (eC (.int 0)) aNil))))) (sSeq (sSet 5 (eIf (tCmp gEq (eVar 9) (eC (.int 1))) (eOp (gI gDivB) (eVar 3) (eVar 4)) (eCall gIsqrt (aCons (eOp (gI gDivB) (eVar 3) (eVar 4)) aNil)))) (sSeq (sIf (tCmp gEq (eVar 3) (eOp (gI gMulI) (eApp 2 [] m_powered (aCons (eVar 5) (aCons (eVar 9) aNil))) (eVar 4))) (sRet (eTup (aCons (eVar 5) (aCons (eC (.int 0)) aNil)))) sNil) (sSeq (sSet 6 (eOp (gI gMulI) (eApp 2 [] m_powered (aCons (eOp gAdd (eOp (gI gMulI) (eC (.int 2)) (eVar 5)) (eC (.int 1))) (aCons (eVar 9) aNil))) (eVar 4))) (sRet (eTup (aCons (eVar 5) (aCons (eOp gAdd (eC (.int 2)) (eApp 2 [] m_compare_integers (aCons (eOp (gI gShlI) (eVar 3) (eVar 9)) (aCons (eVar 6) aNil)))) aNil)))))))))))
def m_place_of : List D → S → R D := fnM 10 G_place_of
theorem ok_place_of {P : Program} {w : World} {K : PySem.W.Frag} {mg : Str → Option Value} {base : Heap} {Tb : List (Addr × Str)} {f : Addr} {fd : FuncData} (F : Fun K "place_of" "place_of" s_place_of f fd) (z_abs : mg "abs" = none) (z_max : mg "max" = none) (b_isqrt : mg "isqrt" = some (.builtin "math.isqrt")) (sr : SeerB P w base) (k_compare_integers : DefOk P w K mg base Tb "compare_integers" 1 2 [] m_compare_integers) (k_powered : DefOk P w K mg base Tb "powered" 1 2 [] m_powered) : FnOk P w K mg base (L2N.CX P w) 34 f fd ["exact", "unit"] (spM P w K mg base Tb 2 m_place_of) := by
  refine def_fn F sc_place_of fun st hT cdv A outer s H E hr => ?_
  subst hT
  have px := cx_passes (P := P) (w := w) (K := K) (mg := mg) (base := base) (N := N_place_of) (qual := "place_of") (stm := s_place_of) (f := f) (cdv := cdv) (A := A) (outer := outer) (s := s) (H := H) (E := E)
  exact (sd_cons (s_tgt (ed_var 0) (gd_tup rfl (gd_cons (gd_name 7 sc_place_of.nd) (gd_cons (gd_name 8 sc_place_of.nd) (gd_cons (gd_name 9 sc_place_of.nd) gd_nil))))) (sd_cons (s_set 2 sc_place_of.nd (ed_if (td_cmp (opd_eq (hu64 hr)) (ed_var 9) ed_int (nomark _)) (ed_var 1) (ed_op opd_mul ed_int (ed_var 1)))) (sd_cons (s_set 3 sc_place_of.nd (ed_op opd_shl (ed_callB cd_abs (by rfl) z_abs (by decide +kernel) (ad_cons (ed_var 7) ad_nil)) (ed_callB (cd_max rfl) (by rfl) z_max (by decide +kernel) (ad_cons (ed_neg (ed_var 2)) (ad_cons ed_int ad_nil))))) (sd_cons (s_set 4 sc_place_of.nd (ed_op opd_shl (ed_var 8) (ed_callB (cd_max rfl) (by rfl) z_max (by decide +kernel) (ad_cons (ed_var 2) (ad_cons ed_int ad_nil))))) (sd_cons (s_set 5 sc_place_of.nd (ed_if (td_cmp (opd_eq (hu64 hr)) (ed_var 9) ed_int (nomark _)) (ed_op (opd_divB sr rfl rfl rfl rfl rfl (big_ok hr (by omega))) (ed_var 3) (ed_var 4)) (ed_callG (cd_isqrt sr rfl rfl rfl rfl rfl (big_ok hr (by omega))) (by rfl) b_isqrt (ad_cons (ed_op (opd_divB sr rfl rfl rfl rfl rfl (big_ok hr (by omega))) (ed_var 3) (ed_var 4)) ad_nil)))) (sd_cons (s_if (td_cmp (opd_eq (hu64 hr)) (ed_var 3) (ed_op opd_mul (ed_call k_powered (hr.mono (by omega)) px (ad_cons (ed_var 5) (ad_cons (ed_var 9) ad_nil))) (ed_var 4)) (nomark _)) (sd_one (s_ret (ed_tup (ad_cons (ed_var 5) (ad_cons ed_int ad_nil))))) sd_nil) (sd_cons (s_set 6 sc_place_of.nd (ed_op opd_mul (ed_call k_powered (hr.mono (by omega)) px (ad_cons (ed_op opd_add (ed_op opd_mul ed_int (ed_var 5)) ed_int) (ad_cons (ed_var 9) ad_nil))) (ed_var 4))) (sd_one (s_ret (ed_tup (ad_cons (ed_var 5) (ad_cons (ed_op opd_add ed_int (ed_call k_compare_integers (hr.mono (by omega)) px (ad_cons (ed_op opd_shl (ed_var 3) (ed_var 9)) (ad_cons (ed_var 6) ad_nil)))) ad_nil))))))))))))
abbrev s_place : Stmt := topS 50
abbrev N_place : List Str := ["exact", "u"]
theorem sc_place : FnScope N_place ["exact", "u"] (defScope s_place) := ⟨rfl, rfl, rfl, by decide +kernel, rfl, by decide +kernel, by decide +kernel⟩
def G_place : FS := (sSeq (sExpr (eApp 1 [] m_check_exact (aCons (eVar 0) aNil))) (sSeq (sExpr (eApp 3 [] m_check_count (aCons (eVar 1) (aCons (eUn gNeg (eC (.int 5000))) (aCons (eC (.int 5000)) aNil))))) (sRet (eApp 2 [] m_place_of (aCons (eVar 0) (aCons (eVar 1) aNil))))))
def m_place : List D → S → R D := fnM 2 G_place
theorem ok_place {P : Program} {w : World} {K : PySem.W.Frag} {mg : Str → Option Value} {base : Heap} {Tb : List (Addr × Str)} {f : Addr} {fd : FuncData} (F : Fun K "place" "place" s_place f fd) (k_check_count : DefOk P w K mg base Tb "check_count" 2 3 [] m_check_count) (k_check_exact : DefOk P w K mg base Tb "check_exact" 4 1 [] m_check_exact) (k_place_of : DefOk P w K mg base Tb "place_of" 34 2 [] m_place_of) : FnOk P w K mg base (L2N.CX P w) 35 f fd ["exact", "u"] (spM P w K mg base Tb 2 m_place) := by
  refine def_fn F sc_place fun st hT cdv A outer s H E hr => ?_
  subst hT
  have px := cx_passes (P := P) (w := w) (K := K) (mg := mg) (base := base) (N := N_place) (qual := "place") (stm := s_place) (f := f) (cdv := cdv) (A := A) (outer := outer) (s := s) (H := H) (E := E)
  exact (sd_cons (s_expr (ed_call k_check_exact (hr.mono (by omega)) px (ad_cons (ed_var 0) ad_nil))) (sd_cons (s_expr (ed_call k_check_count (hr.mono (by omega)) px (ad_cons (ed_var 1) (ad_cons (ed_neg ed_int) (ad_cons ed_int ad_nil))))) (sd_one (s_ret (ed_call k_place_of (hr.mono (by omega)) px (ad_cons (ed_var 0) (ad_cons (ed_var 1) ad_nil)))))))
abbrev s_is_mode : Stmt := topS 53
abbrev N_is_mode : List Str := ["value"]
theorem sc_is_mode : FnScope N_is_mode ["value"] (defScope s_is_mode) := ⟨rfl, rfl, rfl, by decide +kernel, rfl, by decide +kernel, by decide +kernel⟩
def G_is_mode : FS := (sRet (eAnd (eOp gIs (eCall gType (aCons (eVar 0) aNil)) (eC (.ty "str"))) (eOp gIn (eVar 0) (eC d_MODES))))
def m_is_mode : List D → S → R D := fnM 1 G_is_mode
theorem ok_is_mode {P : Program} {w : World} {K : PySem.W.Frag} {mg : Str → Option Value} {base : Heap} {Tb : List (Addr × Str)} {f : Addr} {fd : FuncData} (F : Fun K "is_mode" "is_mode" s_is_mode f fd) (z_str : mg "str" = none) (z_type : mg "type" = none) (g_MODES : GlobK K mg "MODES" d_MODES) : FnOk P w K mg base (L2N.CX P w) 1 f fd ["value"] (spM P w K mg base Tb 1 m_is_mode) := by
  refine def_fn F sc_is_mode fun st hT cdv A outer s H E hr => ?_
  subst hT
  have px := cx_passes (P := P) (w := w) (K := K) (mg := mg) (base := base) (N := N_is_mode) (qual := "is_mode") (stm := s_is_mode) (f := f) (cdv := cdv) (A := A) (outer := outer) (s := s) (H := H) (E := E)
  exact (sd_one (s_ret (ed_and (ed_cmp opd_is (ed_callTy cd_type (by rfl) z_type (by decide +kernel) (ad_cons (ed_var 0) ad_nil)) (ed_ty (by rfl) z_str (by decide +kernel)) (nomark _)) (ed_one (ed_cmp opd_in (ed_var 0) (ed_globK g_MODES (by rfl)) (by rfl))))))
abbrev s_check_mode : Stmt := topS 54
abbrev N_check_mode : List Str := ["mode"]
theorem sc_check_mode : FnScope N_check_mode ["mode"] (defScope s_check_mode) := ⟨rfl, rfl, rfl, by decide +kernel, rfl, by decide +kernel, by decide +kernel⟩
def G_check_mode : FS := (sIf (tNot (tTru (eApp 1 [] m_is_mode (aCons (eVar 0) aNil)))) (sRaise "BadMode") sNil)
def m_check_mode : List D → S → R D := fnM 1 G_check_mode
theorem ok_check_mode {P : Program} {w : World} {K : PySem.W.Frag} {mg : Str → Option Value} {base : Heap} {Tb : List (Addr × Str)} {f : Addr} {fd : FuncData} (F : Fun K "check_mode" "check_mode" s_check_mode f fd) (e_BadMode : ErrOk K mg "BadMode") (k_is_mode : DefOk P w K mg base Tb "is_mode" 1 1 [] m_is_mode) : FnOk P w K mg base (L2N.CX P w) 2 f fd ["mode"] (spM P w K mg base Tb 1 m_check_mode) := by
  refine def_fn F sc_check_mode fun st hT cdv A outer s H E hr => ?_
  subst hT
  have px := cx_passes (P := P) (w := w) (K := K) (mg := mg) (base := base) (N := N_check_mode) (qual := "check_mode") (stm := s_check_mode) (f := f) (cdv := cdv) (A := A) (outer := outer) (s := s) (H := H) (E := E)
  exact (sd_one (s_if (td_not (td_tru (ed_call k_is_mode (hr.mono (by omega)) px (ad_cons (ed_var 0) ad_nil)))) (sd_one (s_raise rfl (L2N.takes_of rfl rfl rfl rfl) e_BadMode)) sd_nil))
abbrev s_steps_up : Stmt := topS 55
abbrev N_steps_up : List Str := ["mode", "s", "k", "where"]
theorem sc_steps_up : FnScope N_steps_up ["mode", "s", "k", "where"] (defScope s_steps_up) := ⟨rfl, rfl, rfl, by decide +kernel, rfl, by decide +kernel, by decide +kernel⟩
def G_steps_up : FS := (sSeq (sIf (tOr (tCmp gEq (eVar 3) (eC (.int 0))) (tCmp gEq (eVar 0) (eC (.str "zero")))) (sRet (eC (.bl false))) sNil) (sSeq (sIf (tCmp gEq (eVar 0) (eC (.str "up"))) (sRet (eOp gEq (eVar 1) (eC (.int 0)))) sNil) (sSeq (sIf (tCmp gEq (eVar 0) (eC (.str "down"))) (sRet (eOp gEq (eVar 1) (eC (.int 1)))) sNil) (sSeq (sIf (tCmp gEq (eVar 0) (eC (.str "odd"))) (sRet (eOp gEq (eOp (gI gModI) (eVar 2) (eC (.int 2))) (eC (.int 0)))) sNil) (sSeq (sIf (tCmp gEq (eVar 3) (eC (.int 2))) (sRet (eOr (eOp gEq (eVar 0) (eC (.str "away"))) (eOp gEq (eOp (gI gModI) (eVar 2) (eC (.int 2))) (eC (.int 1))))) sNil) (sRet (eOp gEq (eVar 3) (eC (.int 3)))))))))
def m_steps_up : List D → S → R D := fnM 4 G_steps_up
theorem ok_steps_up {P : Program} {w : World} {K : PySem.W.Frag} {mg : Str → Option Value} {base : Heap} {Tb : List (Addr × Str)} {f : Addr} {fd : FuncData} (F : Fun K "steps_up" "steps_up" s_steps_up f fd) : FnOk P w K mg base (L2N.CX P w) 1 f fd ["mode", "s", "k", "where"] (spM P w K mg base Tb 4 m_steps_up) := by
  refine def_fn F sc_steps_up fun st hT cdv A outer s H E hr => ?_
  subst hT
  have px := cx_passes (P := P) (w := w) (K := K) (mg := mg) (base := base) (N := N_steps_up) (qual := "steps_up") (stm := s_steps_up) (f := f) (cdv := cdv) (A := A) (outer := outer) (s := s) (H := H) (E := E)
  exact (sd_cons (s_if (WD.td (wd_or (td_cmp (opd_eq (hu64 hr)) (ed_var 3) ed_int (nomark _)) (wd_or1 (td_cmp (opd_eq (hu64 hr)) (ed_var 0) ed_str (nomark _))))) (sd_one (s_ret ed_bl)) sd_nil) (sd_cons (s_if (td_cmp (opd_eq (hu64 hr)) (ed_var 0) ed_str (nomark _)) (sd_one (s_ret (ed_cmp (opd_eq (hu64 hr)) (ed_var 1) ed_int (nomark _)))) sd_nil) (sd_cons (s_if (td_cmp (opd_eq (hu64 hr)) (ed_var 0) ed_str (nomark _)) (sd_one (s_ret (ed_cmp (opd_eq (hu64 hr)) (ed_var 1) ed_int (nomark _)))) sd_nil) (sd_cons (s_if (td_cmp (opd_eq (hu64 hr)) (ed_var 0) ed_str (nomark _)) (sd_one (s_ret (ed_cmp (opd_eq (hu64 hr)) (ed_op opd_mod (ed_var 2) ed_int) ed_int (nomark _)))) sd_nil) (sd_cons (s_if (td_cmp (opd_eq (hu64 hr)) (ed_var 3) ed_int (nomark _)) (sd_one (s_ret (ed_or (ed_cmp (opd_eq (hu64 hr)) (ed_var 0) ed_str (nomark _)) (ed_one (ed_cmp (opd_eq (hu64 hr)) (ed_op opd_mod (ed_var 2) ed_int) ed_int (nomark _)))))) sd_nil) (sd_one (s_ret (ed_cmp (opd_eq (hu64 hr)) (ed_var 3) ed_int (nomark _)))))))))
abbrev s_choice : Stmt := topS 56
abbrev N_choice : List Str := ["mode", "s", "k", "where"]
theorem sc_choice : FnScope N_choice ["mode", "s", "k", "where"] (defScope s_choice) := ⟨rfl, rfl, rfl, by decide +kernel, rfl, by decide +kernel, by decide +kernel⟩
def G_choice : FS := (sRet (eIf (tTru (eApp 4 [] m_steps_up (aCons (eVar 0) (aCons (eVar 1) (aCons (eVar 2) (aCons (eVar 3) aNil)))))) (eOp gAdd (eVar 2) (eC (.int 1))) (eVar 2)))
def m_choice : List D → S → R D := fnM 4 G_choice
theorem ok_choice {P : Program} {w : World} {K : PySem.W.Frag} {mg : Str → Option Value} {base : Heap} {Tb : List (Addr × Str)} {f : Addr} {fd : FuncData} (F : Fun K "choice" "choice" s_choice f fd) (k_steps_up : DefOk P w K mg base Tb "steps_up" 1 4 [] m_steps_up) : FnOk P w K mg base (L2N.CX P w) 2 f fd ["mode", "s", "k", "where"] (spM P w K mg base Tb 4 m_choice) := by
  refine def_fn F sc_choice fun st hT cdv A outer s H E hr => ?_
  subst hT
  have px := cx_passes (P := P) (w := w) (K := K) (mg := mg) (base := base) (N := N_choice) (qual := "choice") (stm := s_choice) (f := f) (cdv := cdv) (A := A) (outer := outer) (s := s) (H := H) (E := E)
  exact (sd_one (s_ret (ed_if (td_tru (ed_call k_steps_up (hr.mono (by omega)) px (ad_cons (ed_var 0) (ad_cons (ed_var 1) (ad_cons (ed_var 2) (ad_cons (ed_var 3) ad_nil)))))) (ed_op opd_add (ed_var 2) ed_int) (ed_var 2))))
abbrev s_exact_sign : Stmt := topS 57
abbrev N_exact_sign : List Str := ["exact"]
theorem sc_exact_sign : FnScope N_exact_sign ["exact"] (defScope s_exact_sign) := ⟨rfl, rfl, rfl, by decide +kernel, rfl, by decide +kernel, by decide +kernel⟩
def G_exact_sign : FS := (sRet (eIf (tCmp gLt (eOp gIx (eVar 0) (eC (.int 0))) (eC (.int 0))) (eC (.int 1)) (eC (.int 0))))
def m_exact_sign : List D → S → R D := fnM 1 G_exact_sign
theorem ok_exact_sign {P : Program} {w : World} {K : PySem.W.Frag} {mg : Str → Option Value} {base : Heap} {Tb : List (Addr × Str)} {f : Addr} {fd : FuncData} (F : Fun K "exact_sign" "exact_sign" s_exact_sign f fd) : FnOk P w K mg base (L2N.CX P w) 1 f fd ["exact"] (spM P w K mg base Tb 1 m_exact_sign) := by
  refine def_fn F sc_exact_sign fun st hT cdv A outer s H E hr => ?_
  subst hT
  have px := cx_passes (P := P) (w := w) (K := K) (mg := mg) (base := base) (N := N_exact_sign) (qual := "exact_sign") (stm := s_exact_sign) (f := f) (cdv := cdv) (A := A) (outer := outer) (s := s) (H := H) (E := E)
  exact (sd_one (s_ret (ed_if (td_cmp opd_lt (ed_ix (ed_var 0) ed_int) ed_int (nomark _)) ed_int ed_int)))
abbrev s_overflowed : Stmt := topS 58
abbrev N_overflowed : List Str := ["form", "mode", "s", "inward", "p", "_", "hi"]
theorem sc_overflowed : FnScope N_overflowed ["form", "mode", "s"] (defScope s_overflowed) := ⟨rfl, rfl, rfl, by decide +kernel, rfl, by decide +kernel, by decide +kernel⟩
def G_overflowed : FS := (sSeq (sTgt (eVar 0) (nTup 3 (nCons (nName 4) (nCons (nName 5) (nCons (nName 6) nNil))))) (sSeq (sSet 3 (eIf (tCmp gEq (eVar 2) (eC (.int 1))) (eC (.str "up")) (eC (.str "down")))) (sSeq (sIf (tOr (tCmp gEq (eVar 1) (eC (.str "zero"))) (tOr (tCmp gEq (eVar 1) (eC (.str "odd"))) (tCmp gEq (eVar 1) (eVar 3)))) (sRet (eTup (aCons (eVar 2) (aCons (eOp (gI gSubI) (eOp (gI gShlI) (eC (.int 1)) (eVar 4)) (eC (.int 1))) (aCons (eVar 6) aNil))))) sNil) (sRet (eTup (aCons (eVar 2) (aCons (eUn gNeg (eC (.int 1))) (aCons (eC (.int 0)) aNil))))))))
def m_overflowed : List D → S → R D := fnM 7 G_overflowed
theorem ok_overflowed {P : Program} {w : World} {K : PySem.W.Frag} {mg : Str → Option Value} {base : Heap} {Tb : List (Addr × Str)} {f : Addr} {fd : FuncData} (F : Fun K "overflowed" "overflowed" s_overflowed f fd) : FnOk P w K mg base (L2N.CX P w) 1 f fd ["form", "mode", "s"] (spM P w K mg base Tb 3 m_overflowed) := by
  refine def_fn F sc_overflowed fun st hT cdv A outer s H E hr => ?_
  subst hT
  have px := cx_passes (P := P) (w := w) (K := K) (mg := mg) (base := base) (N := N_overflowed) (qual := "overflowed") (stm := s_overflowed) (f := f) (cdv := cdv) (A := A) (outer := outer) (s := s) (H := H) (E := E)
  exact (sd_cons (s_tgt (ed_var 0) (gd_tup rfl (gd_cons (gd_name 4 sc_overflowed.nd) (gd_cons (gd_name 5 sc_overflowed.nd) (gd_cons (gd_name 6 sc_overflowed.nd) gd_nil))))) (sd_cons (s_set 3 sc_overflowed.nd (ed_if (td_cmp (opd_eq (hu64 hr)) (ed_var 2) ed_int (nomark _)) ed_str ed_str)) (sd_cons (s_if (WD.td (wd_or (td_cmp (opd_eq (hu64 hr)) (ed_var 1) ed_str (nomark _)) (wd_or (td_cmp (opd_eq (hu64 hr)) (ed_var 1) ed_str (nomark _)) (wd_or1 (td_cmp (opd_eq (hu64 hr)) (ed_var 1) (ed_var 3) (nomark _)))))) (sd_one (s_ret (ed_tup (ad_cons (ed_var 2) (ad_cons (ed_op opd_sub (ed_op opd_shl ed_int (ed_var 4)) ed_int) (ad_cons (ed_var 6) ad_nil)))))) sd_nil) (sd_one (s_ret (ed_tup (ad_cons (ed_var 2) (ad_cons (ed_neg ed_int) (ad_cons ed_int ad_nil)))))))))
abbrev s_is_tiny : Stmt := topS 59
abbrev N_is_tiny : List Str := ["form", "power"]
theorem sc_is_tiny : FnScope N_is_tiny ["form", "power"] (defScope s_is_tiny) := ⟨rfl, rfl, rfl, by decide +kernel, rfl, by decide +kernel, by decide +kernel⟩
def G_is_tiny : FS := (sRet (eOp gLt (eVar 1) (eOp (gI gSubI) (eOp gAdd (eOp gIx (eVar 0) (eC (.int 1))) (eOp gIx (eVar 0) (eC (.int 0)))) (eC (.int 1)))))
def m_is_tiny : List D → S → R D := fnM 2 G_is_tiny
theorem ok_is_tiny {P : Program} {w : World} {K : PySem.W.Frag} {mg : Str → Option Value} {base : Heap} {Tb : List (Addr × Str)} {f : Addr} {fd : FuncData} (F : Fun K "is_tiny" "is_tiny" s_is_tiny f fd) : FnOk P w K mg base (L2N.CX P w) 1 f fd ["form", "power"] (spM P w K mg base Tb 2 m_is_tiny) := by
  refine def_fn F sc_is_tiny fun st hT cdv A outer s H E hr => ?_
  subst hT
  have px := cx_passes (P := P) (w := w) (K := K) (mg := mg) (base := base) (N := N_is_tiny) (qual := "is_tiny") (stm := s_is_tiny) (f := f) (cdv := cdv) (A := A) (outer := outer) (s := s) (H := H) (E := E)
  exact (sd_one (s_ret (ed_cmp opd_lt (ed_var 1) (ed_op opd_sub (ed_op opd_add (ed_ix (ed_var 0) ed_int) (ed_ix (ed_var 0) ed_int)) ed_int) (nomark _))))
abbrev s_round_exact : Stmt := topS 60
abbrev N_round_exact : List Str := ["form", "exact", "mode", "s", "sign", "power", "unit", "count", "x", "k", "where"]
theorem sc_round_exact : FnScope N_round_exact ["form", "exact", "mode", "s"] (defScope s_round_exact) := ⟨rfl, rfl, rfl, by decide +kernel, rfl, by decide +kernel, by decide +kernel⟩
def G_round_exact : FS := (sSeq (sIf (tCmp gEq (eOp gIx (eVar 1) (eC (.int 0))) (eC (.int 0))) (sRet (eTup (aCons (eTup (aCons (eVar 3) (aCons (eC (.int 0)) (aCons (eC (.int 0)) aNil)))) (aCons (eTup aNil) aNil)))) sNil) (sSeq (sSet 4 (eApp 1 [] m_exact_sign (aCons (eVar 1) aNil))) (sSeq (sSet 5 (eApp 1 [] m_power_of (aCons (eVar 1) aNil))) (sSeq (sSet 6 (eApp 2 [] m_unit_at (aCons (eVar 0) (aCons (eVar 5) aNil)))) (sSeq (sTgt (eApp 2 [] m_place_of (aCons (eVar 1) (aCons (eVar 6) aNil))) (nTup 2 (nCons (nName 9) (nCons (nName 10) nNil)))) (sSeq (sSet 7 (eApp 4 [] m_choice (aCons (eVar 2) (aCons (eVar 4) (aCons (eVar 9) (aCons (eVar 10) aNil)))))) (sSeq (sIf (tCmp gGt (eOp gAdd (eUn gBits (eVar 7)) (eVar 6)) (eOp gAdd (eOp gIx (eVar 0) (eC (.int 2))) (eOp gIx (eVar 0) (eC (.int 0))))) (sRet (eTup (aCons (eApp 3 [] m_overflowed (aCons (eVar 0) (aCons (eVar 2) (aCons (eVar 4) aNil)))) (aCons (eTup (aCons (eC (.str "overflow")) (aCons (eC (.str "inexact")) aNil))) aNil)))) sNil) (sSeq (sSet 8 (eApp 3 [] m_signed (aCons (eVar 4) (aCons (eVar 7) (aCons (eVar 6) aNil))))) (sSeq (sIf (tCmp gEq (eVar 10) (eC (.int 0))) (sRet (eTup (aCons (eVar 8) (aCons (eTup aNil) aNil)))) sNil) (sRet (eTup (aCons (eVar 8) (aCons (eIf (tTru (eApp 2 [] m_is_tiny (aCons (eVar 0) (aCons (eVar 5) aNil)))) (eTup (aCons (eC (.str "underflow")) (aCons (eC (.str "inexact")) aNil))) (eTup (aCons (eC (.str "inexact")) aNil))) aNil)))))))))))))
def m_round_exact : List D → S → R D := fnM 11 G_round_exact
theorem ok_round_exact {P : Program} {w : World} {K : PySem.W.Frag} {mg : Str → Option Value} {base : Heap} {Tb : List (Addr × Str)} {f : Addr} {fd : FuncData} (F : Fun K "round_exact" "round_exact" s_round_exact f fd) (k_choice : DefOk P w K mg base Tb "choice" 2 4 [] m_choice) (k_exact_sign : DefOk P w K mg base Tb "exact_sign" 1 1 [] m_exact_sign) (k_is_tiny : DefOk P w K mg base Tb "is_tiny" 1 2 [] m_is_tiny) (k_overflowed : DefOk P w K mg base Tb "overflowed" 1 3 [] m_overflowed) (k_place_of : DefOk P w K mg base Tb "place_of" 34 2 [] m_place_of) (k_power_of : DefOk P w K mg base Tb "power_of" 1 1 [] m_power_of) (k_signed : DefOk P w K mg base Tb "signed" 2 3 [] m_signed) (k_unit_at : DefOk P w K mg base Tb "unit_at" 1 2 [] m_unit_at) : FnOk P w K mg base (L2N.CX P w) 35 f fd ["form", "exact", "mode", "s"] (spM P w K mg base Tb 4 m_round_exact) := by
  refine def_fn F sc_round_exact fun st hT cdv A outer s H E hr => ?_
  subst hT
  have px := cx_passes (P := P) (w := w) (K := K) (mg := mg) (base := base) (N := N_round_exact) (qual := "round_exact") (stm := s_round_exact) (f := f) (cdv := cdv) (A := A) (outer := outer) (s := s) (H := H) (E := E)
  exact (sd_cons (s_if (td_cmp (opd_eq (hu64 hr)) (ed_ix (ed_var 1) ed_int) ed_int (nomark _)) (sd_one (s_ret (ed_tup (ad_cons (ed_tup (ad_cons (ed_var 3) (ad_cons ed_int (ad_cons ed_int ad_nil)))) (ad_cons (ed_tup ad_nil) ad_nil))))) sd_nil) (sd_cons (s_set 4 sc_round_exact.nd (ed_call k_exact_sign (hr.mono (by omega)) px (ad_cons (ed_var 1) ad_nil))) (sd_cons (s_set 5 sc_round_exact.nd (ed_call k_power_of (hr.mono (by omega)) px (ad_cons (ed_var 1) ad_nil))) (sd_cons (s_set 6 sc_round_exact.nd (ed_call k_unit_at (hr.mono (by omega)) px (ad_cons (ed_var 0) (ad_cons (ed_var 5) ad_nil)))) (sd_cons (s_tgt (ed_call k_place_of (hr.mono (by omega)) px (ad_cons (ed_var 1) (ad_cons (ed_var 6) ad_nil))) (gd_tup rfl (gd_cons (gd_name 9 sc_round_exact.nd) (gd_cons (gd_name 10 sc_round_exact.nd) gd_nil)))) (sd_cons (s_set 7 sc_round_exact.nd (ed_call k_choice (hr.mono (by omega)) px (ad_cons (ed_var 2) (ad_cons (ed_var 4) (ad_cons (ed_var 9) (ad_cons (ed_var 10) ad_nil)))))) (sd_cons (s_if (td_cmp opd_gt (ed_op opd_add (ed_bits (ed_var 7)) (ed_var 6)) (ed_op opd_add (ed_ix (ed_var 0) ed_int) (ed_ix (ed_var 0) ed_int)) (nomark _)) (sd_one (s_ret (ed_tup (ad_cons (ed_call k_overflowed (hr.mono (by omega)) px (ad_cons (ed_var 0) (ad_cons (ed_var 2) (ad_cons (ed_var 4) ad_nil)))) (ad_cons (ed_tup (ad_cons ed_str (ad_cons ed_str ad_nil))) ad_nil))))) sd_nil) (sd_cons (s_set 8 sc_round_exact.nd (ed_call k_signed (hr.mono (by omega)) px (ad_cons (ed_var 4) (ad_cons (ed_var 7) (ad_cons (ed_var 6) ad_nil))))) (sd_cons (s_if (td_cmp (opd_eq (hu64 hr)) (ed_var 10) ed_int (nomark _)) (sd_one (s_ret (ed_tup (ad_cons (ed_var 8) (ad_cons (ed_tup ad_nil) ad_nil))))) sd_nil) (sd_one (s_ret (ed_tup (ad_cons (ed_var 8) (ad_cons (ed_if (td_tru (ed_call k_is_tiny (hr.mono (by omega)) px (ad_cons (ed_var 0) (ad_cons (ed_var 5) ad_nil)))) (ed_tup (ad_cons ed_str (ad_cons ed_str ad_nil))) (ed_tup (ad_cons ed_str ad_nil))) ad_nil))))))))))))))
abbrev s_check_step : Stmt := topS 63
abbrev N_check_step : List Str := ["form", "xs", "mode", "x"]
theorem sc_check_step : FnScope N_check_step ["form", "xs", "mode"] (defScope s_check_step) := ⟨rfl, rfl, rfl, by decide +kernel, rfl, by decide +kernel, by decide +kernel⟩
def G_check_step : FS := (sSeq (sExpr (eApp 1 [] m_check_format (aCons (eVar 0) aNil))) (sSeq (sFor (iTpl (eVar 1)) (nName 3) (sExpr (eApp 1 [] m_check_number (aCons (eVar 3) aNil)))) (sExpr (eApp 1 [] m_check_mode (aCons (eVar 2) aNil)))))
def m_check_step : List D → S → R D := fnM 4 G_check_step
theorem ok_check_step {P : Program} {w : World} {K : PySem.W.Frag} {mg : Str → Option Value} {base : Heap} {Tb : List (Addr × Str)} {f : Addr} {fd : FuncData} (F : Fun K "check_step" "check_step" s_check_step f fd) (k_check_format : DefOk P w K mg base Tb "check_format" 4 1 [] m_check_format) (k_check_mode : DefOk P w K mg base Tb "check_mode" 2 1 [] m_check_mode) (k_check_number : DefOk P w K mg base Tb "check_number" 4 1 [] m_check_number) : FnOk P w K mg base (L2N.CX P w) 5 f fd ["form", "xs", "mode"] (spM P w K mg base Tb 3 m_check_step) := by
  refine def_fn F sc_check_step fun st hT cdv A outer s H E hr => ?_
  subst hT
  have px := cx_passes (P := P) (w := w) (K := K) (mg := mg) (base := base) (N := N_check_step) (qual := "check_step") (stm := s_check_step) (f := f) (cdv := cdv) (A := A) (outer := outer) (s := s) (H := H) (E := E)
  exact (sd_cons (s_expr (ed_call k_check_format (hr.mono (by omega)) px (ad_cons (ed_var 0) ad_nil))) (sd_cons (s_for (passes_of rfl) rfl (id_tup (ed_var 1)) (gd_name 3 sc_check_step.nd) (sd_one (s_expr (ed_call k_check_number (hr.mono (by omega)) px (ad_cons (ed_var 3) ad_nil))))) (sd_one (s_expr (ed_call k_check_mode (hr.mono (by omega)) px (ad_cons (ed_var 2) ad_nil))))))
abbrev s_any_nan : Stmt := topS 64
abbrev N_any_nan : List Str := ["xs", "x"]
theorem sc_any_nan : FnScope N_any_nan ["xs"] (defScope s_any_nan) := ⟨rfl, rfl, rfl, by decide +kernel, rfl, by decide +kernel, by decide +kernel⟩
def G_any_nan : FS := (sRet (eCall gAny (aCons (eLc 1 (iTpl (eVar 0)) tAll (eApp 1 [] m_is_nan (aCons (eVar 1) aNil))) aNil)))
def m_any_nan : List D → S → R D := fnM 2 G_any_nan
theorem ok_any_nan {P : Program} {w : World} {K : PySem.W.Frag} {mg : Str → Option Value} {base : Heap} {Tb : List (Addr × Str)} {f : Addr} {fd : FuncData} (F : Fun K "any_nan" "any_nan" s_any_nan f fd) (z_any : mg "any" = none) (k_is_nan : DefOk P w K mg base Tb "is_nan" 1 1 [] m_is_nan) : FnOk P w K mg base (L2N.CX P w) 2 f fd ["xs"] (spM P w K mg base Tb 1 m_any_nan) := by
  refine def_fn F sc_any_nan fun st hT cdv A outer s H E hr => ?_
  subst hT
  have px := cx_passes (P := P) (w := w) (K := K) (mg := mg) (base := base) (N := N_any_nan) (qual := "any_nan") (stm := s_any_nan) (f := f) (cdv := cdv) (A := A) (outer := outer) (s := s) (H := H) (E := E)
  exact (sd_one (s_ret (ed_callB (cd_any rfl) (by rfl) z_any (by decide +kernel) (ad_cons (ed_lc 1 (N := N_any_nan) rfl sc_any_nan.nd (id_tup (ed_var 0)) (blkOk_by (N := N_any_nan) (sc := defScope s_any_nan) (own := [("x", 1)]) (by decide +kernel)) (fun _ _ _ _ _ => pg_name (i := 1) sc_any_nan.nd rfl (by first | exact Or.inl rfl | exact Or.inr rfl)) (fun _ _ _ _ _ => tds_nil) (fun _ _ _ _ _ => (ed_call k_is_nan (hr.mono (by omega)) passN (ad_cons (ed_var 1) ad_nil)))) ad_nil))))
abbrev s_dyadic_sum : Stmt := topS 65
abbrev N_dyadic_sum : List Str := ["m", "q", "m2", "q2", "unit"]
theorem sc_dyadic_sum : FnScope N_dyadic_sum ["m", "q", "m2", "q2"] (defScope s_dyadic_sum) := ⟨rfl, rfl, rfl, by decide +kernel, rfl, by decide +kernel, by decide +kernel⟩
def G_dyadic_sum : FS := (sSeq (sSet 4 (eCall gMin (aCons (eVar 1) (aCons (eVar 3) aNil)))) (sRet (eTup (aCons (eOp gAdd (eOp (gI gShlI) (eVar 0) (eOp (gI gSubI) (eVar 1) (eVar 4))) (eOp (gI gShlI) (eVar 2) (eOp (gI gSubI) (eVar 3) (eVar 4)))) (aCons (eVar 4) aNil)))))
def m_dyadic_sum : List D → S → R D := fnM 5 G_dyadic_sum
theorem ok_dyadic_sum {P : Program} {w : World} {K : PySem.W.Frag} {mg : Str → Option Value} {base : Heap} {Tb : List (Addr × Str)} {f : Addr} {fd : FuncData} (F : Fun K "dyadic_sum" "dyadic_sum" s_dyadic_sum f fd) (z_min : mg "min" = none) : FnOk P w K mg base (L2N.CX P w) 1 f fd ["m", "q", "m2", "q2"] (spM P w K mg base Tb 4 m_dyadic_sum) := by
  refine def_fn F sc_dyadic_sum fun st hT cdv A outer s H E hr => ?_
  subst hT
  have px := cx_passes (P := P) (w := w) (K := K) (mg := mg) (base := base) (N := N_dyadic_sum) (qual := "dyadic_sum") (stm := s_dyadic_sum) (f := f) (cdv := cdv) (A := A) (outer := outer) (s := s) (H := H) (E := E)
  exact (sd_cons (s_set 4 sc_dyadic_sum.nd (ed_callB (cd_min rfl) (by rfl) z_min (by decide +kernel) (ad_cons (ed_var 1) (ad_cons (ed_var 3) ad_nil)))) (sd_one (s_ret (ed_tup (ad_cons (ed_op opd_add (ed_op opd_shl (ed_var 0) (ed_op opd_sub (ed_var 1) (ed_var 4))) (ed_op opd_shl (ed_var 2) (ed_op opd_sub (ed_var 3) (ed_var 4)))) (ad_cons (ed_var 4) ad_nil))))))
abbrev s_zero_sign : Stmt := topS 66
abbrev N_zero_sign : List Str := ["s", "s2", "both_zero", "mode"]
theorem sc_zero_sign : FnScope N_zero_sign ["s", "s2", "both_zero", "mode"] (defScope s_zero_sign) := ⟨rfl, rfl, rfl, by decide +kernel, rfl, by decide +kernel, by decide +kernel⟩
def G_zero_sign : FS := (sSeq (sIf (tAnd (tTru (eVar 2)) (tCmp gEq (eVar 0) (eVar 1))) (sRet (eVar 0)) sNil) (sRet (eIf (tCmp gEq (eVar 3) (eC (.str "down"))) (eC (.int 1)) (eC (.int 0)))))
def m_zero_sign : List D → S → R D := fnM 4 G_zero_sign
theorem ok_zero_sign {P : Program} {w : World} {K : PySem.W.Frag} {mg : Str → Option Value} {base : Heap} {Tb : List (Addr × Str)} {f : Addr} {fd : FuncData} (F : Fun K "zero_sign" "zero_sign" s_zero_sign f fd) : FnOk P w K mg base (L2N.CX P w) 1 f fd ["s", "s2", "both_zero", "mode"] (spM P w K mg base Tb 4 m_zero_sign) := by
  refine def_fn F sc_zero_sign fun st hT cdv A outer s H E hr => ?_
  subst hT
  have px := cx_passes (P := P) (w := w) (K := K) (mg := mg) (base := base) (N := N_zero_sign) (qual := "zero_sign") (stm := s_zero_sign) (f := f) (cdv := cdv) (A := A) (outer := outer) (s := s) (H := H) (E := E)
  exact (sd_cons (s_if (WD.td (wd_and (td_tru (ed_var 2)) (wd_and1 (td_cmp (opd_eq (hu64 hr)) (ed_var 0) (ed_var 1) (nomark _))))) (sd_one (s_ret (ed_var 0))) sd_nil) (sd_one (s_ret (ed_if (td_cmp (opd_eq (hu64 hr)) (ed_var 3) ed_str (nomark _)) ed_int ed_int))))
abbrev s_product_parts : Stmt := topS 67
abbrev N_product_parts : List Str := ["x", "y"]
theorem sc_product_parts : FnScope N_product_parts ["x", "y"] (defScope s_product_parts) := ⟨rfl, rfl, rfl, by decide +kernel, rfl, by decide +kernel, by decide +kernel⟩
def G_product_parts : FS := (sRet (eTup (aCons (eOp (gI gXorI) (eOp gIx (eVar 0) (eC (.int 0))) (eOp gIx (eVar 1) (eC (.int 0)))) (aCons (eOp (gI gMulI) (eOp gIx (eVar 0) (eC (.int 1))) (eOp gIx (eVar 1) (eC (.int 1)))) (aCons (eOp gAdd (eOp gIx (eVar 0) (eC (.int 2))) (eOp gIx (eVar 1) (eC (.int 2)))) aNil)))))
def m_product_parts : List D → S → R D := fnM 2 G_product_parts
theorem ok_product_parts {P : Program} {w : World} {K : PySem.W.Frag} {mg : Str → Option Value} {base : Heap} {Tb : List (Addr × Str)} {f : Addr} {fd : FuncData} (F : Fun K "product_parts" "product_parts" s_product_parts f fd) : FnOk P w K mg base (L2N.CX P w) 1 f fd ["x", "y"] (spM P w K mg base Tb 2 m_product_parts) := by
  refine def_fn F sc_product_parts fun st hT cdv A outer s H E hr => ?_
  subst hT
  have px := cx_passes (P := P) (w := w) (K := K) (mg := mg) (base := base) (N := N_product_parts) (qual := "product_parts") (stm := s_product_parts) (f := f) (cdv := cdv) (A := A) (outer := outer) (s := s) (H := H) (E := E)
  exact (sd_one (s_ret (ed_tup (ad_cons (ed_op opd_xor (ed_ix (ed_var 0) ed_int) (ed_ix (ed_var 1) ed_int)) (ad_cons (ed_op opd_mul (ed_ix (ed_var 0) ed_int) (ed_ix (ed_var 1) ed_int)) (ad_cons (ed_op opd_add (ed_ix (ed_var 0) ed_int) (ed_ix (ed_var 1) ed_int)) ad_nil))))))
abbrev s_round_sum_of : Stmt := topS 68
abbrev N_round_sum_of : List Str := ["form", "x", "y", "mode", "s", "m", "unit"]
theorem sc_round_sum_of : FnScope N_round_sum_of ["form", "x", "y", "mode"] (defScope s_round_sum_of) := ⟨rfl, rfl, rfl, by decide +kernel, rfl, by decide +kernel, by decide +kernel⟩
def G_round_sum_of : FS := (sSeq (sTgt (eApp 4 [] m_dyadic_sum (aCons (eApp 1 [] m_signed_part (aCons (eVar 1) aNil)) (aCons (eOp gIx (eVar 1) (eC (.int 2))) (aCons (eApp 1 [] m_signed_part (aCons (eVar 2) aNil)) (aCons (eOp gIx (eVar 2) (eC (.int 2))) aNil))))) (nTup 2 (nCons (nName 5) (nCons (nName 6) nNil)))) (sSeq (sSet 4 (eApp 4 [] m_zero_sign (aCons (eOp gIx (eVar 1) (eC (.int 0))) (aCons (eOp gIx (eVar 2) (eC (.int 0))) (aCons (eAnd (eOp gEq (eOp gIx (eVar 1) (eC (.int 1))) (eC (.int 0))) (eOp gEq (eOp gIx (eVar 2) (eC (.int 1))) (eC (.int 0)))) (aCons (eVar 3) aNil)))))) (sRet (eApp 4 [] m_round_exact (aCons (eVar 0) (aCons (eApp 2 [] m_dyadic (aCons (eVar 5) (aCons (eVar 6) aNil))) (aCons (eVar 3) (aCons (eVar 4) aNil))))))))
def m_round_sum_of : List D → S → R D := fnM 7 G_round_sum_of
theorem ok_round_sum_of {P : Program} {w : World} {K : PySem.W.Frag} {mg : Str → Option Value} {base : Heap} {Tb : List (Addr × Str)} {f : Addr} {fd : FuncData} (F : Fun K "round_sum_of" "round_sum_of" s_round_sum_of f fd) (k_dyadic : DefOk P w K mg base Tb "dyadic" 2 2 [] m_dyadic) (k_dyadic_sum : DefOk P w K mg base Tb "dyadic_sum" 1 4 [] m_dyadic_sum) (k_round_exact : DefOk P w K mg base Tb "round_exact" 35 4 [] m_round_exact) (k_signed_part : DefOk P w K mg base Tb "signed_part" 1 1 [] m_signed_part) (k_zero_sign : DefOk P w K mg base Tb "zero_sign" 1 4 [] m_zero_sign) : FnOk P w K mg base (L2N.CX P w) 36 f fd ["form", "x", "y", "mode"] (spM P w K mg base Tb 4 m_round_sum_of) := by
  refine def_fn F sc_round_sum_of fun st hT cdv A outer s H E hr => ?_
  subst hT
  have px := cx_passes (P := P) (w := w) (K := K) (mg := mg) (base := base) (N := N_round_sum_of) (qual := "round_sum_of") (stm := s_round_sum_of) (f := f) (cdv := cdv) (A := A) (outer := outer) (s := s) (H := H) (E := E)
  exact (sd_cons (s_tgt (ed_call k_dyadic_sum (hr.mono (by omega)) px (ad_cons (ed_call k_signed_part (hr.mono (by omega)) px (ad_cons (ed_var 1) ad_nil)) (ad_cons (ed_ix (ed_var 1) ed_int) (ad_cons (ed_call k_signed_part (hr.mono (by omega)) px (ad_cons (ed_var 2) ad_nil)) (ad_cons (ed_ix (ed_var 2) ed_int) ad_nil))))) (gd_tup rfl (gd_cons (gd_name 5 sc_round_sum_of.nd) (gd_cons (gd_name 6 sc_round_sum_of.nd) gd_nil)))) (sd_cons (s_set 4 sc_round_sum_of.nd (ed_call k_zero_sign (hr.mono (by omega)) px (ad_cons (ed_ix (ed_var 1) ed_int) (ad_cons (ed_ix (ed_var 2) ed_int) (ad_cons (ed_and (ed_cmp (opd_eq (hu64 hr)) (ed_ix (ed_var 1) ed_int) ed_int (nomark _)) (ed_one (ed_cmp (opd_eq (hu64 hr)) (ed_ix (ed_var 2) ed_int) ed_int (nomark _)))) (ad_cons (ed_var 3) ad_nil)))))) (sd_one (s_ret (ed_call k_round_exact (hr.mono (by omega)) px (ad_cons (ed_var 0) (ad_cons (ed_call k_dyadic (hr.mono (by omega)) px (ad_cons (ed_var 5) (ad_cons (ed_var 6) ad_nil))) (ad_cons (ed_var 3) (ad_cons (ed_var 4) ad_nil)))))))))
abbrev s_sum_answer : Stmt := topS 69
abbrev N_sum_answer : List Str := ["form", "x", "y", "mode"]
theorem sc_sum_answer : FnScope N_sum_answer ["form", "x", "y", "mode"] (defScope s_sum_answer) := ⟨rfl, rfl, rfl, by decide +kernel, rfl, by decide +kernel, by decide +kernel⟩
def G_sum_answer : FS := (sSeq (sIf (tTru (eApp 1 [] m_any_nan (aCons (eTup (aCons (eVar 1) (aCons (eVar 2) aNil))) aNil))) (sRet (eTup (aCons (eC d_NAN) (aCons (eTup aNil) aNil)))) sNil) (sSeq (sIf (tAnd (tTru (eApp 1 [] m_is_infinite (aCons (eVar 1) aNil))) (tAnd (tTru (eApp 1 [] m_is_infinite (aCons (eVar 2) aNil))) (tCmp gNe (eOp gIx (eVar 1) (eC (.int 0))) (eOp gIx (eVar 2) (eC (.int 0)))))) (sRet (eC d_INVALID)) sNil) (sSeq (sIf (tTru (eApp 1 [] m_is_infinite (aCons (eVar 1) aNil))) (sRet (eTup (aCons (eVar 1) (aCons (eTup aNil) aNil)))) sNil) (sSeq (sIf (tTru (eApp 1 [] m_is_infinite (aCons (eVar 2) aNil))) (sRet (eTup (aCons (eVar 2) (aCons (eTup aNil) aNil)))) sNil) (sRet (eApp 4 [] m_round_sum_of (aCons (eVar 0) (aCons (eVar 1) (aCons (eVar 2) (aCons (eVar 3) aNil))))))))))
def m_sum_answer : List D → S → R D := fnM 4 G_sum_answer
theorem ok_sum_answer {P : Program} {w : World} {K : PySem.W.Frag} {mg : Str → Option Value} {base : Heap} {Tb : List (Addr × Str)} {f : Addr} {fd : FuncData} (F : Fun K "sum_answer" "sum_answer" s_sum_answer f fd) (g_INVALID : GlobK K mg "INVALID" d_INVALID) (g_NAN : GlobK K mg "NAN" d_NAN) (k_any_nan : DefOk P w K mg base Tb "any_nan" 2 1 [] m_any_nan) (k_is_infinite : DefOk P w K mg base Tb "is_infinite" 1 1 [] m_is_infinite) (k_round_sum_of : DefOk P w K mg base Tb "round_sum_of" 36 4 [] m_round_sum_of) : FnOk P w K mg base (L2N.CX P w) 37 f fd ["form", "x", "y", "mode"] (spM P w K mg base Tb 4 m_sum_answer) := by
  refine def_fn F sc_sum_answer fun st hT cdv A outer s H E hr => ?_
  subst hT
  have px := cx_passes (P := P) (w := w) (K := K) (mg := mg) (base := base) (N := N_sum_answer) (qual := "sum_answer") (stm := s_sum_answer) (f := f) (cdv := cdv) (A := A) (outer := outer) (s := s) (H := H) (E := E)
  exact (sd_cons (s_if (td_tru (ed_call k_any_nan (hr.mono (by omega)) px (ad_cons (ed_tup (ad_cons (ed_var 1) (ad_cons (ed_var 2) ad_nil))) ad_nil))) (sd_one (s_ret (ed_tup (ad_cons (ed_globK g_NAN (by rfl)) (ad_cons (ed_tup ad_nil) ad_nil))))) sd_nil) (sd_cons (s_if (WD.td (wd_and (td_tru (ed_call k_is_infinite (hr.mono (by omega)) px (ad_cons (ed_var 1) ad_nil))) (wd_and (td_tru (ed_call k_is_infinite (hr.mono (by omega)) px (ad_cons (ed_var 2) ad_nil))) (wd_and1 (td_cmp (opd_ne (hu64 hr)) (ed_ix (ed_var 1) ed_int) (ed_ix (ed_var 2) ed_int) (nomark _)))))) (sd_one (s_ret (ed_globK g_INVALID (by rfl)))) sd_nil) (sd_cons (s_if (td_tru (ed_call k_is_infinite (hr.mono (by omega)) px (ad_cons (ed_var 1) ad_nil))) (sd_one (s_ret (ed_tup (ad_cons (ed_var 1) (ad_cons (ed_tup ad_nil) ad_nil))))) sd_nil) (sd_cons (s_if (td_tru (ed_call k_is_infinite (hr.mono (by omega)) px (ad_cons (ed_var 2) ad_nil))) (sd_one (s_ret (ed_tup (ad_cons (ed_var 2) (ad_cons (ed_tup ad_nil) ad_nil))))) sd_nil) (sd_one (s_ret (ed_call k_round_sum_of (hr.mono (by omega)) px (ad_cons (ed_var 0) (ad_cons (ed_var 1) (ad_cons (ed_var 2) (ad_cons (ed_var 3) ad_nil)))))))))))
abbrev s_muladd_answer : Stmt := topS 70
abbrev N_muladd_answer : List Str := ["form", "x", "y", "z", "mode"]
theorem sc_muladd_answer : FnScope N_muladd_answer ["form", "x", "y", "z", "mode"] (defScope s_muladd_answer) := ⟨rfl, rfl, rfl, by decide +kernel, rfl, by decide +kernel, by decide +kernel⟩
def G_muladd_answer : FS := (sSeq (sIf (tTru (eApp 1 [] m_any_nan (aCons (eTup (aCons (eVar 1) (aCons (eVar 2) (aCons (eVar 3) aNil)))) aNil))) (sRet (eTup (aCons (eC d_NAN) (aCons (eTup aNil) aNil)))) sNil) (sSeq (sIf (tOr (tTru (eApp 1 [] m_is_infinite (aCons (eVar 1) aNil))) (tTru (eApp 1 [] m_is_infinite (aCons (eVar 2) aNil)))) (sSeq (sIf (tOr (tTru (eApp 1 [] m_is_zero (aCons (eVar 1) aNil))) (tTru (eApp 1 [] m_is_zero (aCons (eVar 2) aNil)))) (sRet (eC d_INVALID)) sNil) (sRet (eApp 4 [] m_sum_answer (aCons (eVar 0) (aCons (eTup (aCons (eOp (gI gXorI) (eOp gIx (eVar 1) (eC (.int 0))) (eOp gIx (eVar 2) (eC (.int 0)))) (aCons (eUn gNeg (eC (.int 1))) (aCons (eC (.int 0)) aNil)))) (aCons (eVar 3) (aCons (eVar 4) aNil))))))) sNil) (sSeq (sIf (tTru (eApp 1 [] m_is_infinite (aCons (eVar 3) aNil))) (sRet (eTup (aCons (eVar 3) (aCons (eTup aNil) aNil)))) sNil) (sRet (eApp 4 [] m_round_sum_of (aCons (eVar 0) (aCons (eApp 2 [] m_product_parts (aCons (eVar 1) (aCons (eVar 2) aNil))) (aCons (eVar 3) (aCons (eVar 4) aNil)))))))))
def m_muladd_answer : List D → S → R D := fnM 5 G_muladd_answer
theorem ok_muladd_answer {P : Program} {w : World} {K : PySem.W.Frag} {mg : Str → Option Value} {base : Heap} {Tb : List (Addr × Str)} {f : Addr} {fd : FuncData} (F : Fun K "muladd_answer" "muladd_answer" s_muladd_answer f fd) (g_INVALID : GlobK K mg "INVALID" d_INVALID) (g_NAN : GlobK K mg "NAN" d_NAN) (k_any_nan : DefOk P w K mg base Tb "any_nan" 2 1 [] m_any_nan) (k_is_infinite : DefOk P w K mg base Tb "is_infinite" 1 1 [] m_is_infinite) (k_is_zero : DefOk P w K mg base Tb "is_zero" 1 1 [] m_is_zero) (k_product_parts : DefOk P w K mg base Tb "product_parts" 1 2 [] m_product_parts) (k_round_sum_of : DefOk P w K mg base Tb "round_sum_of" 36 4 [] m_round_sum_of) (k_sum_answer : DefOk P w K mg base Tb "sum_answer" 37 4 [] m_sum_answer) : FnOk P w K mg base (L2N.CX P w) 38 f fd ["form", "x", "y", "z", "mode"] (spM P w K mg base Tb 5 m_muladd_answer) := by
  refine def_fn F sc_muladd_answer fun st hT cdv A outer s H E hr => ?_
  subst hT
  have px := cx_passes (P := P) (w := w) (K := K) (mg := mg) (base := base) (N := N_muladd_answer) (qual := "muladd_answer") (stm := s_muladd_answer) (f := f) (cdv := cdv) (A := A) (outer := outer) (s := s) (H := H) (E := E)
  exact (sd_cons (s_if (td_tru (ed_call k_any_nan (hr.mono (by omega)) px (ad_cons (ed_tup (ad_cons (ed_var 1) (ad_cons (ed_var 2) (ad_cons (ed_var 3) ad_nil)))) ad_nil))) (sd_one (s_ret (ed_tup (ad_cons (ed_globK g_NAN (by rfl)) (ad_cons (ed_tup ad_nil) ad_nil))))) sd_nil) (sd_cons (s_if (WD.td (wd_or (td_tru (ed_call k_is_infinite (hr.mono (by omega)) px (ad_cons (ed_var 1) ad_nil))) (wd_or1 (td_tru (ed_call k_is_infinite (hr.mono (by omega)) px (ad_cons (ed_var 2) ad_nil)))))) (sd_cons (s_if (WD.td (wd_or (td_tru (ed_call k_is_zero (hr.mono (by omega)) px (ad_cons (ed_var 1) ad_nil))) (wd_or1 (td_tru (ed_call k_is_zero (hr.mono (by omega)) px (ad_cons (ed_var 2) ad_nil)))))) (sd_one (s_ret (ed_globK g_INVALID (by rfl)))) sd_nil) (sd_one (s_ret (ed_call k_sum_answer (hr.mono (by omega)) px (ad_cons (ed_var 0) (ad_cons (ed_tup (ad_cons (ed_op opd_xor (ed_ix (ed_var 1) ed_int) (ed_ix (ed_var 2) ed_int)) (ad_cons (ed_neg ed_int) (ad_cons ed_int ad_nil)))) (ad_cons (ed_var 3) (ad_cons (ed_var 4) ad_nil)))))))) sd_nil) (sd_cons (s_if (td_tru (ed_call k_is_infinite (hr.mono (by omega)) px (ad_cons (ed_var 3) ad_nil))) (sd_one (s_ret (ed_tup (ad_cons (ed_var 3) (ad_cons (ed_tup ad_nil) ad_nil))))) sd_nil) (sd_one (s_ret (ed_call k_round_sum_of (hr.mono (by omega)) px (ad_cons (ed_var 0) (ad_cons (ed_call k_product_parts (hr.mono (by omega)) px (ad_cons (ed_var 1) (ad_cons (ed_var 2) ad_nil))) (ad_cons (ed_var 3) (ad_cons (ed_var 4) ad_nil))))))))))
abbrev s_muladd : Stmt := topS 71
abbrev N_muladd : List Str := ["form", "x", "y", "z", "mode"]
theorem sc_muladd : FnScope N_muladd ["form", "x", "y", "z", "mode"] (defScope s_muladd) := ⟨rfl, rfl, rfl, by decide +kernel, rfl, by decide +kernel, by decide +kernel⟩
def G_muladd : FS := (sSeq (sExpr (eApp 3 [] m_check_step (aCons (eVar 0) (aCons (eTup (aCons (eVar 1) (aCons (eVar 2) (aCons (eVar 3) aNil)))) (aCons (eVar 4) aNil))))) (sRet (eApp 5 [] m_muladd_answer (aCons (eVar 0) (aCons (eVar 1) (aCons (eVar 2) (aCons (eVar 3) (aCons (eVar 4) aNil))))))))
def m_muladd : List D → S → R D := fnM 5 G_muladd
theorem ok_muladd {P : Program} {w : World} {K : PySem.W.Frag} {mg : Str → Option Value} {base : Heap} {Tb : List (Addr × Str)} {f : Addr} {fd : FuncData} (F : Fun K "muladd" "muladd" s_muladd f fd) (k_check_step : DefOk P w K mg base Tb "check_step" 5 3 [] m_check_step) (k_muladd_answer : DefOk P w K mg base Tb "muladd_answer" 38 5 [] m_muladd_answer) : FnOk P w K mg base (L2N.CX P w) 39 f fd ["form", "x", "y", "z", "mode"] (spM P w K mg base Tb 5 m_muladd) := by
  refine def_fn F sc_muladd fun st hT cdv A outer s H E hr => ?_
  subst hT
  have px := cx_passes (P := P) (w := w) (K := K) (mg := mg) (base := base) (N := N_muladd) (qual := "muladd") (stm := s_muladd) (f := f) (cdv := cdv) (A := A) (outer := outer) (s := s) (H := H) (E := E)
  exact (sd_cons (s_expr (ed_call k_check_step (hr.mono (by omega)) px (ad_cons (ed_var 0) (ad_cons (ed_tup (ad_cons (ed_var 1) (ad_cons (ed_var 2) (ad_cons (ed_var 3) ad_nil)))) (ad_cons (ed_var 4) ad_nil))))) (sd_one (s_ret (ed_call k_muladd_answer (hr.mono (by omega)) px (ad_cons (ed_var 0) (ad_cons (ed_var 1) (ad_cons (ed_var 2) (ad_cons (ed_var 3) (ad_cons (ed_var 4) ad_nil)))))))))
abbrev s_finite_rest : Stmt := topS 73
abbrev N_finite_rest : List Str := ["x", "y", "nearest", "unit", "whole_x", "whole_y", "count", "left", "past_half"]
theorem sc_finite_rest : FnScope N_finite_rest ["x", "y", "nearest"] (defScope s_finite_rest) := ⟨rfl, rfl, rfl, by decide +kernel, rfl, by decide +kernel, by decide +kernel⟩
def G_finite_rest : FS := (sSeq (sSet 3 (eCall gMin (aCons (eOp gIx (eVar 0) (eC (.int 2))) (aCons (eOp gIx (eVar 1) (eC (.int 2))) aNil)))) (sSeq (sSet 4 (eOp (gI gShlI) (eOp gIx (eVar 0) (eC (.int 1))) (eOp (gI gSubI) (eOp gIx (eVar 0) (eC (.int 2))) (eVar 3)))) (sSeq (sSet 5 (eOp (gI gShlI) (eOp gIx (eVar 1) (eC (.int 1))) (eOp (gI gSubI) (eOp gIx (eVar 1) (eC (.int 2))) (eVar 3)))) (sSeq (sSet 6 (eOp (gI gDivI) (eVar 4) (eVar 5))) (sSeq (sSet 7 (eOp (gI gSubI) (eVar 4) (eOp (gI gMulI) (eVar 6) (eVar 5)))) (sSeq (sSet 8 (eOr (eOp gGt (eOp (gI gMulI) (eC (.int 2)) (eVar 7)) (eVar 5)) (eAnd (eOp gEq (eOp (gI gMulI) (eC (.int 2)) (eVar 7)) (eVar 5)) (eOp gEq (eOp (gI gModI) (eVar 6) (eC (.int 2))) (eC (.int 1)))))) (sSeq (sIf (tAnd (tTru (eVar 2)) (tTru (eVar 8))) (sRet (eApp 3 [] m_signed (aCons (eOp (gI gSubI) (eC (.int 1)) (eOp gIx (eVar 0) (eC (.int 0)))) (aCons (eOp (gI gSubI) (eVar 5) (eVar 7)) (aCons (eVar 3) aNil))))) sNil) (sRet (eApp 3 [] m_signed (aCons (eOp gIx (eVar 0) (eC (.int 0))) (aCons (eVar 7) (aCons (eVar 3) aNil))))))))))))
def m_finite_rest : List D → S → R D := fnM 9 G_finite_rest
theorem ok_finite_rest {P : Program} {w : World} {K : PySem.W.Frag} {mg : Str → Option Value} {base : Heap} {Tb : List (Addr × Str)} {f : Addr} {fd : FuncData} (F : Fun K "finite_rest" "finite_rest" s_finite_rest f fd) (z_min : mg "min" = none) (k_signed : DefOk P w K mg base Tb "signed" 2 3 [] m_signed) : FnOk P w K mg base (L2N.CX P w) 3 f fd ["x", "y", "nearest"] (spM P w K mg base Tb 3 m_finite_rest) := by
  refine def_fn F sc_finite_rest fun st hT cdv A outer s H E hr => ?_
  subst hT
  have px := cx_passes (P := P) (w := w) (K := K) (mg := mg) (base := base) (N := N_finite_rest) (qual := "finite_rest") (stm := s_finite_rest) (f := f) (cdv := cdv) (A := A) (outer := outer) (s := s) (H := H) (E := E)
  exact (sd_cons (s_set 3 sc_finite_rest.nd (ed_callB (cd_min rfl) (by rfl) z_min (by decide +kernel) (ad_cons (ed_ix (ed_var 0) ed_int) (ad_cons (ed_ix (ed_var 1) ed_int) ad_nil)))) (sd_cons (s_set 4 sc_finite_rest.nd (ed_op opd_shl (ed_ix (ed_var 0) ed_int) (ed_op opd_sub (ed_ix (ed_var 0) ed_int) (ed_var 3)))) (sd_cons (s_set 5 sc_finite_rest.nd (ed_op opd_shl (ed_ix (ed_var 1) ed_int) (ed_op opd_sub (ed_ix (ed_var 1) ed_int) (ed_var 3)))) (sd_cons (s_set 6 sc_finite_rest.nd (ed_op opd_div (ed_var 4) (ed_var 5))) (sd_cons (s_set 7 sc_finite_rest.nd (ed_op opd_sub (ed_var 4) (ed_op opd_mul (ed_var 6) (ed_var 5)))) (sd_cons (s_set 8 sc_finite_rest.nd (ed_or (ed_cmp opd_gt (ed_op opd_mul ed_int (ed_var 7)) (ed_var 5) (nomark _)) (ed_one (ed_and (ed_cmp (opd_eq (hu64 hr)) (ed_op opd_mul ed_int (ed_var 7)) (ed_var 5) (nomark _)) (ed_one (ed_cmp (opd_eq (hu64 hr)) (ed_op opd_mod (ed_var 6) ed_int) ed_int (nomark _))))))) (sd_cons (s_if (WD.td (wd_and (td_tru (ed_var 2)) (wd_and1 (td_tru (ed_var 8))))) (sd_one (s_ret (ed_call k_signed (hr.mono (by omega)) px (ad_cons (ed_op opd_sub ed_int (ed_ix (ed_var 0) ed_int)) (ad_cons (ed_op opd_sub (ed_var 5) (ed_var 7)) (ad_cons (ed_var 3) ad_nil)))))) sd_nil) (sd_one (s_ret (ed_call k_signed (hr.mono (by omega)) px (ad_cons (ed_ix (ed_var 0) ed_int) (ad_cons (ed_var 7) (ad_cons (ed_var 3) ad_nil)))))))))))))
abbrev s_rest_answer : Stmt := topS 74
abbrev N_rest_answer : List Str := ["x", "y", "nearest", "found"]
theorem sc_rest_answer : FnScope N_rest_answer ["x", "y", "nearest"] (defScope s_rest_answer) := ⟨rfl, rfl, rfl, by decide +kernel, rfl, by decide +kernel, by decide +kernel⟩
def G_rest_answer : FS := (sSeq (sExpr (eApp 1 [] m_check_number (aCons (eVar 0) aNil))) (sSeq (sExpr (eApp 1 [] m_check_number (aCons (eVar 1) aNil))) (sSeq (sIf (tTru (eApp 1 [] m_any_nan (aCons (eTup (aCons (eVar 0) (aCons (eVar 1) aNil))) aNil))) (sRet (eTup (aCons (eC d_NAN) (aCons (eTup aNil) aNil)))) sNil) (sSeq (sIf (tOr (tTru (eApp 1 [] m_is_infinite (aCons (eVar 0) aNil))) (tTru (eApp 1 [] m_is_zero (aCons (eVar 1) aNil)))) (sRet (eC d_INVALID)) sNil) (sSeq (sIf (tOr (tTru (eApp 1 [] m_is_infinite (aCons (eVar 1) aNil))) (tTru (eApp 1 [] m_is_zero (aCons (eVar 0) aNil)))) (sRet (eTup (aCons (eVar 0) (aCons (eTup aNil) aNil)))) sNil) (sSeq (sSet 3 (eApp 3 [] m_finite_rest (aCons (eVar 0) (aCons (eVar 1) (aCons (eVar 2) aNil))))) (sSeq (sIf (tNot (tTru (eApp 1 [] m_is_number (aCons (eVar 3) aNil)))) (sRaise "BadNumber") sNil) (sRet (eTup (aCons (eVar 3) (aCons (eTup aNil) aNil)))))))))))
def m_rest_answer : List D → S → R D := fnM 4 G_rest_answer
theorem ok_rest_answer {P : Program} {w : World} {K : PySem.W.Frag} {mg : Str → Option Value} {base : Heap} {Tb : List (Addr × Str)} {f : Addr} {fd : FuncData} (F : Fun K "rest_answer" "rest_answer" s_rest_answer f fd) (e_BadNumber : ErrOk K mg "BadNumber") (g_INVALID : GlobK K mg "INVALID" d_INVALID) (g_NAN : GlobK K mg "NAN" d_NAN) (k_any_nan : DefOk P w K mg base Tb "any_nan" 2 1 [] m_any_nan) (k_check_number : DefOk P w K mg base Tb "check_number" 4 1 [] m_check_number) (k_finite_rest : DefOk P w K mg base Tb "finite_rest" 3 3 [] m_finite_rest) (k_is_infinite : DefOk P w K mg base Tb "is_infinite" 1 1 [] m_is_infinite) (k_is_number : DefOk P w K mg base Tb "is_number" 3 1 [] m_is_number) (k_is_zero : DefOk P w K mg base Tb "is_zero" 1 1 [] m_is_zero) : FnOk P w K mg base (L2N.CX P w) 5 f fd ["x", "y", "nearest"] (spM P w K mg base Tb 3 m_rest_answer) := by
  refine def_fn F sc_rest_answer fun st hT cdv A outer s H E hr => ?_
  subst hT
  have px := cx_passes (P := P) (w := w) (K := K) (mg := mg) (base := base) (N := N_rest_answer) (qual := "rest_answer") (stm := s_rest_answer) (f := f) (cdv := cdv) (A := A) (outer := outer) (s := s) (H := H) (E := E)
  exact (sd_cons (s_expr (ed_call k_check_number (hr.mono (by omega)) px (ad_cons (ed_var 0) ad_nil))) (sd_cons (s_expr (ed_call k_check_number (hr.mono (by omega)) px (ad_cons (ed_var 1) ad_nil))) (sd_cons (s_if (td_tru (ed_call k_any_nan (hr.mono (by omega)) px (ad_cons (ed_tup (ad_cons (ed_var 0) (ad_cons (ed_var 1) ad_nil))) ad_nil))) (sd_one (s_ret (ed_tup (ad_cons (ed_globK g_NAN (by rfl)) (ad_cons (ed_tup ad_nil) ad_nil))))) sd_nil) (sd_cons (s_if (WD.td (wd_or (td_tru (ed_call k_is_infinite (hr.mono (by omega)) px (ad_cons (ed_var 0) ad_nil))) (wd_or1 (td_tru (ed_call k_is_zero (hr.mono (by omega)) px (ad_cons (ed_var 1) ad_nil)))))) (sd_one (s_ret (ed_globK g_INVALID (by rfl)))) sd_nil) (sd_cons (s_if (WD.td (wd_or (td_tru (ed_call k_is_infinite (hr.mono (by omega)) px (ad_cons (ed_var 1) ad_nil))) (wd_or1 (td_tru (ed_call k_is_zero (hr.mono (by omega)) px (ad_cons (ed_var 0) ad_nil)))))) (sd_one (s_ret (ed_tup (ad_cons (ed_var 0) (ad_cons (ed_tup ad_nil) ad_nil))))) sd_nil) (sd_cons (s_set 3 sc_rest_answer.nd (ed_call k_finite_rest (hr.mono (by omega)) px (ad_cons (ed_var 0) (ad_cons (ed_var 1) (ad_cons (ed_var 2) ad_nil))))) (sd_cons (s_if (td_not (td_tru (ed_call k_is_number (hr.mono (by omega)) px (ad_cons (ed_var 3) ad_nil)))) (sd_one (s_raise rfl (L2N.takes_of rfl rfl rfl rfl) e_BadNumber)) sd_nil) (sd_one (s_ret (ed_tup (ad_cons (ed_var 3) (ad_cons (ed_tup ad_nil) ad_nil))))))))))))
abbrev s_rest : Stmt := topS 75
abbrev N_rest : List Str := ["x", "y"]
theorem sc_rest : FnScope N_rest ["x", "y"] (defScope s_rest) := ⟨rfl, rfl, rfl, by decide +kernel, rfl, by decide +kernel, by decide +kernel⟩
def G_rest : FS := (sRet (eApp 3 [] m_rest_answer (aCons (eVar 0) (aCons (eVar 1) (aCons (eC (.bl true)) aNil)))))
def m_rest : List D → S → R D := fnM 2 G_rest
theorem ok_rest {P : Program} {w : World} {K : PySem.W.Frag} {mg : Str → Option Value} {base : Heap} {Tb : List (Addr × Str)} {f : Addr} {fd : FuncData} (F : Fun K "rest" "rest" s_rest f fd) (k_rest_answer : DefOk P w K mg base Tb "rest_answer" 5 3 [] m_rest_answer) : FnOk P w K mg base (L2N.CX P w) 6 f fd ["x", "y"] (spM P w K mg base Tb 2 m_rest) := by
  refine def_fn F sc_rest fun st hT cdv A outer s H E hr => ?_
  subst hT
  have px := cx_passes (P := P) (w := w) (K := K) (mg := mg) (base := base) (N := N_rest) (qual := "rest") (stm := s_rest) (f := f) (cdv := cdv) (A := A) (outer := outer) (s := s) (H := H) (E := E)
  exact (sd_one (s_ret (ed_call k_rest_answer (hr.mono (by omega)) px (ad_cons (ed_var 0) (ad_cons (ed_var 1) (ad_cons ed_bl ad_nil))))))
abbrev s_cut_rest : Stmt := topS 76
abbrev N_cut_rest : List Str := ["x", "y"]
theorem sc_cut_rest : FnScope N_cut_rest ["x", "y"] (defScope s_cut_rest) := ⟨rfl, rfl, rfl, by decide +kernel, rfl, by decide +kernel, by decide +kernel⟩
def G_cut_rest : FS := (sRet (eApp 3 [] m_rest_answer (aCons (eVar 0) (aCons (eVar 1) (aCons (eC (.bl false)) aNil)))))
def m_cut_rest : List D → S → R D := fnM 2 G_cut_rest
theorem ok_cut_rest {P : Program} {w : World} {K : PySem.W.Frag} {mg : Str → Option Value} {base : Heap} {Tb : List (Addr × Str)} {f : Addr} {fd : FuncData} (F : Fun K "cut_rest" "cut_rest" s_cut_rest f fd) (k_rest_answer : DefOk P w K mg base Tb "rest_answer" 5 3 [] m_rest_answer) : FnOk P w K mg base (L2N.CX P w) 6 f fd ["x", "y"] (spM P w K mg base Tb 2 m_cut_rest) := by
  refine def_fn F sc_cut_rest fun st hT cdv A outer s H E hr => ?_
  subst hT
  have px := cx_passes (P := P) (w := w) (K := K) (mg := mg) (base := base) (N := N_cut_rest) (qual := "cut_rest") (stm := s_cut_rest) (f := f) (cdv := cdv) (A := A) (outer := outer) (s := s) (H := H) (E := E)
  exact (sd_one (s_ret (ed_call k_rest_answer (hr.mono (by omega)) px (ad_cons (ed_var 0) (ad_cons (ed_var 1) (ad_cons ed_bl ad_nil))))))
abbrev s_exact_quotient_of : Stmt := topS 78
abbrev N_exact_quotient_of : List Str := ["x", "y", "n", "d", "_", "n2", "d2"]
theorem sc_exact_quotient_of : FnScope N_exact_quotient_of ["x", "y"] (defScope s_exact_quotient_of) := ⟨rfl, rfl, rfl, by decide +kernel, rfl, by decide +kernel, by decide +kernel⟩
def G_exact_quotient_of : FS := (sSeq (sTgt (eApp 1 [] m_exact_value (aCons (eVar 0) aNil)) (nTup 3 (nCons (nName 2) (nCons (nName 3) (nCons (nName 4) nNil))))) (sSeq (sTgt (eApp 1 [] m_exact_value (aCons (eVar 1) aNil)) (nTup 3 (nCons (nName 5) (nCons (nName 6) (nCons (nName 4) nNil))))) (sSeq (sIf (tCmp gLt (eVar 5) (eC (.int 0))) (sPar 5 6 (aCons (eUn gNeg (eVar 5)) (aCons (eUn gNeg (eVar 6)) aNil))) sNil) (sRet (eApp 3 [] m_lowest (aCons (eOp (gI gMulI) (eVar 2) (eVar 6)) (aCons (eOp (gI gMulI) (eVar 3) (eVar 5)) (aCons (eC (.int 1)) aNil))))))))
def m_exact_quotient_of : List D → S → R D := fnM 7 G_exact_quotient_of
theorem ok_exact_quotient_of {P : Program} {w : World} {K : PySem.W.Frag} {mg : Str → Option Value} {base : Heap} {Tb : List (Addr × Str)} {f : Addr} {fd : FuncData} (F : Fun K "exact_quotient_of" "exact_quotient_of" s_exact_quotient_of f fd) (k_exact_value : DefOk P w K mg base Tb "exact_value" 3 1 [] m_exact_value) (k_lowest : DefOk P w K mg base Tb "lowest" 34 3 [] m_lowest) : FnOk P w K mg base (L2N.CX P w) 35 f fd ["x", "y"] (spM P w K mg base Tb 2 m_exact_quotient_of) := by
  refine def_fn F sc_exact_quotient_of fun st hT cdv A outer s H E hr => ?_
  subst hT
  have px := cx_passes (P := P) (w := w) (K := K) (mg := mg) (base := base) (N := N_exact_quotient_of) (qual := "exact_quotient_of") (stm := s_exact_quotient_of) (f := f) (cdv := cdv) (A := A) (outer := outer) (s := s) (H := H) (E := E)
  exact (sd_cons (s_tgt (ed_call k_exact_value (hr.mono (by omega)) px (ad_cons (ed_var 0) ad_nil)) (gd_tup rfl (gd_cons (gd_name 2 sc_exact_quotient_of.nd) (gd_cons (gd_name 3 sc_exact_quotient_of.nd) (gd_cons (gd_name 4 sc_exact_quotient_of.nd) gd_nil))))) (sd_cons (s_tgt (ed_call k_exact_value (hr.mono (by omega)) px (ad_cons (ed_var 1) ad_nil)) (gd_tup rfl (gd_cons (gd_name 5 sc_exact_quotient_of.nd) (gd_cons (gd_name 6 sc_exact_quotient_of.nd) (gd_cons (gd_name 4 sc_exact_quotient_of.nd) gd_nil))))) (sd_cons (s_if (td_cmp opd_lt (ed_var 5) ed_int (nomark _)) (sd_one (s_par 5 6 rfl sc_exact_quotient_of.nd (ad_cons (ed_neg (ed_var 5)) (ad_cons (ed_neg (ed_var 6)) ad_nil)))) sd_nil) (sd_one (s_ret (ed_call k_lowest (hr.mono (by omega)) px (ad_cons (ed_op opd_mul (ed_var 2) (ed_var 6)) (ad_cons (ed_op opd_mul (ed_var 3) (ed_var 5)) (ad_cons ed_int ad_nil)))))))))
abbrev s_exact_quotient : Stmt := topS 79
abbrev N_exact_quotient : List Str := ["x", "y"]
theorem sc_exact_quotient : FnScope N_exact_quotient ["x", "y"] (defScope s_exact_quotient) := ⟨rfl, rfl, rfl, by decide +kernel, rfl, by decide +kernel, by decide +kernel⟩
def G_exact_quotient : FS := (sSeq (sExpr (eApp 1 [] m_check_valued (aCons (eVar 0) aNil))) (sSeq (sExpr (eApp 1 [] m_check_valued (aCons (eVar 1) aNil))) (sSeq (sIf (tTru (eApp 1 [] m_is_zero (aCons (eVar 1) aNil))) (sRaise "BadNumber") sNil) (sRet (eApp 2 [] m_exact_quotient_of (aCons (eVar 0) (aCons (eVar 1) aNil)))))))
def m_exact_quotient : List D → S → R D := fnM 2 G_exact_quotient
theorem ok_exact_quotient {P : Program} {w : World} {K : PySem.W.Frag} {mg : Str → Option Value} {base : Heap} {Tb : List (Addr × Str)} {f : Addr} {fd : FuncData} (F : Fun K "exact_quotient" "exact_quotient" s_exact_quotient f fd) (e_BadNumber : ErrOk K mg "BadNumber") (k_check_valued : DefOk P w K mg base Tb "check_valued" 5 1 [] m_check_valued) (k_exact_quotient_of : DefOk P w K mg base Tb "exact_quotient_of" 35 2 [] m_exact_quotient_of) (k_is_zero : DefOk P w K mg base Tb "is_zero" 1 1 [] m_is_zero) : FnOk P w K mg base (L2N.CX P w) 36 f fd ["x", "y"] (spM P w K mg base Tb 2 m_exact_quotient) := by
  refine def_fn F sc_exact_quotient fun st hT cdv A outer s H E hr => ?_
  subst hT
  have px := cx_passes (P := P) (w := w) (K := K) (mg := mg) (base := base) (N := N_exact_quotient) (qual := "exact_quotient") (stm := s_exact_quotient) (f := f) (cdv := cdv) (A := A) (outer := outer) (s := s) (H := H) (E := E)
  exact (sd_cons (s_expr (ed_call k_check_valued (hr.mono (by omega)) px (ad_cons (ed_var 0) ad_nil))) (sd_cons (s_expr (ed_call k_check_valued (hr.mono (by omega)) px (ad_cons (ed_var 1) ad_nil))) (sd_cons (s_if (td_tru (ed_call k_is_zero (hr.mono (by omega)) px (ad_cons (ed_var 1) ad_nil))) (sd_one (s_raise rfl (L2N.takes_of rfl rfl rfl rfl) e_BadNumber)) sd_nil) (sd_one (s_ret (ed_call k_exact_quotient_of (hr.mono (by omega)) px (ad_cons (ed_var 0) (ad_cons (ed_var 1) ad_nil))))))))
abbrev s__law_store : Stmt := topS 81
abbrev N__law_store : List Str := ["cells", "given"]
theorem sc__law_store : FnScope N__law_store ["cells"] (defScope s__law_store) := ⟨rfl, rfl, rfl, by decide +kernel, rfl, by decide +kernel, by decide +kernel⟩
def G__law_store : FS := (sRet (eLst (aCons (eLc 1 (iTpl (eVar 0)) tAll (eCall gInt (aCons (eVar 1) aNil))) (aCons (eC (.int 0)) (aCons (eC (.int 0)) (aCons (eC (.int 90001)) (aCons (eC (.int 0)) aNil)))))))
def m__law_store : List D → S → R D := fnM 2 G__law_store
theorem ok__law_store {P : Program} {w : World} {K : PySem.W.Frag} {mg : Str → Option Value} {base : Heap} {Tb : List (Addr × Str)} {f : Addr} {fd : FuncData} (F : Fun K "_law_store" "_law_store" s__law_store f fd) (z_int : mg "int" = none) : FnOk P w K mg base (L2N.CX P w) 1 f fd ["cells"] (spM P w K mg base Tb 1 m__law_store) := by
  refine def_fn F sc__law_store fun st hT cdv A outer s H E hr => ?_
  subst hT
  have px := cx_passes (P := P) (w := w) (K := K) (mg := mg) (base := base) (N := N__law_store) (qual := "_law_store") (stm := s__law_store) (f := f) (cdv := cdv) (A := A) (outer := outer) (s := s) (H := H) (E := E)
  exact (sd_one (s_ret (ed_lst (ad_cons (ed_lc 1 (N := N__law_store) rfl sc__law_store.nd (id_tup (ed_var 0)) (blkOk_by (N := N__law_store) (sc := defScope s__law_store) (own := [("given", 1)]) (by decide +kernel)) (fun _ _ _ _ _ => pg_name (i := 1) sc__law_store.nd rfl (by first | exact Or.inl rfl | exact Or.inr rfl)) (fun _ _ _ _ _ => tds_nil) (fun _ _ _ _ _ => (ed_callTy cd_int (by rfl) z_int (by decide +kernel) (ad_cons (ed_var 1) ad_nil)))) (ad_cons ed_int (ad_cons ed_int (ad_cons ed_int (ad_cons ed_int ad_nil))))))))
abbrev s__law_mix : Stmt := topS 82
abbrev N__law_mix : List Str := ["given", "turn", "first", "second"]
theorem sc__law_mix : FnScope N__law_mix ["given", "turn"] (defScope s__law_mix) := ⟨rfl, rfl, rfl, by decide +kernel, rfl, by decide +kernel, by decide +kernel⟩
def G__law_mix : FS := (sSeq (sSet 2 (eOp (gI gModI) (eCall gInt (aCons (eOp gAdd (eOp gAdd (eOp (gI gMulI) (eOp (gI gModI) (eCall gInt (aCons (eVar 0) aNil)) (eC (.int 2147483647))) (eC (.int 48271))) (eOp (gI gMulI) (eVar 1) (eC (.int 69621)))) (eC (.int 11))) aNil)) (eC (.int 2147483647)))) (sSeq (sSet 3 (eOp (gI gModI) (eCall gInt (aCons (eOp gAdd (eOp gAdd (eOp (gI gMulI) (eVar 2) (eVar 2)) (eOp (gI gMulI) (eVar 1) (eC (.int 40692)))) (eC (.int 48611))) aNil)) (eC (.int 2147483629)))) (sRet (eOp (gI gModI) (eCall gInt (aCons (eOp gAdd (eOp gAdd (eOp (gI gMulI) (eVar 3) (eC (.int 16807))) (eOp (gI gDivI) (eVar 2) (eC (.int 977)))) (eOp (gI gMulI) (eVar 1) (eC (.int 3)))) aNil)) (eC (.int 2147483587))))))
def m__law_mix : List D → S → R D := fnM 4 G__law_mix
theorem ok__law_mix {P : Program} {w : World} {K : PySem.W.Frag} {mg : Str → Option Value} {base : Heap} {Tb : List (Addr × Str)} {f : Addr} {fd : FuncData} (F : Fun K "_law_mix" "_law_mix" s__law_mix f fd) (z_int : mg "int" = none) : FnOk P w K mg base (L2N.CX P w) 1 f fd ["given", "turn"] (spM P w K mg base Tb 2 m__law_mix) := by
  refine def_fn F sc__law_mix fun st hT cdv A outer s H E hr => ?_
  subst hT
  have px := cx_passes (P := P) (w := w) (K := K) (mg := mg) (base := base) (N := N__law_mix) (qual := "_law_mix") (stm := s__law_mix) (f := f) (cdv := cdv) (A := A) (outer := outer) (s := s) (H := H) (E := E)
  exact (sd_cons (s_set 2 sc__law_mix.nd (ed_op opd_mod (ed_callTy cd_int (by rfl) z_int (by decide +kernel) (ad_cons (ed_op opd_add (ed_op opd_add (ed_op opd_mul (ed_op opd_mod (ed_callTy cd_int (by rfl) z_int (by decide +kernel) (ad_cons (ed_var 0) ad_nil)) ed_int) ed_int) (ed_op opd_mul (ed_var 1) ed_int)) ed_int) ad_nil)) ed_int)) (sd_cons (s_set 3 sc__law_mix.nd (ed_op opd_mod (ed_callTy cd_int (by rfl) z_int (by decide +kernel) (ad_cons (ed_op opd_add (ed_op opd_add (ed_op opd_mul (ed_var 2) (ed_var 2)) (ed_op opd_mul (ed_var 1) ed_int)) ed_int) ad_nil)) ed_int)) (sd_one (s_ret (ed_op opd_mod (ed_callTy cd_int (by rfl) z_int (by decide +kernel) (ad_cons (ed_op opd_add (ed_op opd_add (ed_op opd_mul (ed_var 3) ed_int) (ed_op opd_div (ed_var 2) ed_int)) (ed_op opd_mul (ed_var 1) ed_int)) ad_nil)) ed_int)))))
abbrev s__law_wide : Stmt := topS 83
abbrev N__law_wide : List Str := ["given", "turn", "bound", "mixed", "joined", "part"]
theorem sc__law_wide : FnScope N__law_wide ["given", "turn", "bound"] (defScope s__law_wide) := ⟨rfl, rfl, rfl, by decide +kernel, rfl, by decide +kernel, by decide +kernel⟩
def G__law_wide : FS := (sSeq (sSet 3 (eApp 2 [] m__law_mix (aCons (eVar 0) (aCons (eVar 1) aNil)))) (sSeq (sSet 4 (eC (.int 0))) (sSeq (sFor (iRng1 (aCons (eOp gAdd (eOp (gI gDivI) (eUn gBits (eVar 2)) (eC (.int 30))) (eC (.int 2))) aNil)) (nName 5) (sSeq (sSet 3 (eApp 2 [] m__law_mix (aCons (eOp gAdd (eVar 3) (eOp (gI gMulI) (eVar 5) (eC (.int 40503)))) (aCons (eOp gAdd (eVar 1) (eVar 5)) aNil)))) (sSet 4 (eOp gAdd (eOp (gI gMulI) (eVar 4) (eC (.int 2147483587))) (eVar 3))))) (sRet (eOp (gI gModI) (eCall gInt (aCons (eVar 4) aNil)) (eVar 2))))))
def m__law_wide : List D → S → R D := fnM 6 G__law_wide
theorem ok__law_wide {P : Program} {w : World} {K : PySem.W.Frag} {mg : Str → Option Value} {base : Heap} {Tb : List (Addr × Str)} {f : Addr} {fd : FuncData} (F : Fun K "_law_wide" "_law_wide" s__law_wide f fd) (z_int : mg "int" = none) (z_range : mg "range" = none) (k__law_mix : DefOk P w K mg base Tb "_law_mix" 1 2 [] m__law_mix) : FnOk P w K mg base (L2N.CX P w) 2 f fd ["given", "turn", "bound"] (spM P w K mg base Tb 3 m__law_wide) := by
  refine def_fn F sc__law_wide fun st hT cdv A outer s H E hr => ?_
  subst hT
  have px := cx_passes (P := P) (w := w) (K := K) (mg := mg) (base := base) (N := N__law_wide) (qual := "_law_wide") (stm := s__law_wide) (f := f) (cdv := cdv) (A := A) (outer := outer) (s := s) (H := H) (E := E)
  exact (sd_cons (s_set 3 sc__law_wide.nd (ed_call k__law_mix (hr.mono (by omega)) px (ad_cons (ed_var 0) (ad_cons (ed_var 1) ad_nil)))) (sd_cons (s_set 4 sc__law_wide.nd ed_int) (sd_cons (s_for (passes_of rfl) rfl (id_range1 (ad_cons (ed_op opd_add (ed_op opd_div (ed_bits (ed_var 2)) ed_int) ed_int) ad_nil) z_range) (gd_name 5 sc__law_wide.nd) (sd_cons (s_set 3 sc__law_wide.nd (ed_call k__law_mix (hr.mono (by omega)) px (ad_cons (ed_op opd_add (ed_var 3) (ed_op opd_mul (ed_var 5) ed_int)) (ad_cons (ed_op opd_add (ed_var 1) (ed_var 5)) ad_nil)))) (sd_one (s_set 4 sc__law_wide.nd (ed_op opd_add (ed_op opd_mul (ed_var 4) ed_int) (ed_var 3)))))) (sd_one (s_ret (ed_op opd_mod (ed_callTy cd_int (by rfl) z_int (by decide +kernel) (ad_cons (ed_var 4) ad_nil)) (ed_var 2)))))))
abbrev s__law_take : Stmt := topS 84
abbrev N__law_take : List Str := ["store", "bound", "given", "left"]
theorem sc__law_take : FnScope N__law_take ["store", "bound"] (defScope s__law_take) := ⟨rfl, rfl, rfl, by decide +kernel, rfl, by decide +kernel, by decide +kernel⟩
def G__law_take : FS := (sSeq (sIf (tCmp gLt (eVar 1) (eC (.int 2))) (sRet (eC (.int 0))) sNil) (sSeq (sSt 0 4 (eOp gAdd (eSt 0 4) (eC (.int 1)))) (sSeq (sIf (tAnd (tCmp gEq (eSt 0 2) (eC (.int 0))) (tCmp gLt (eSt 0 1) (eStLen 0))) (sSeq (sSet 2 (eStCell 0)) (sSeq (sSt 0 1 (eOp gAdd (eSt 0 1) (eC (.int 1)))) (sSeq (sSt 0 3 (eApp 2 [] m__law_mix (aCons (eOp gAdd (eVar 2) (eSt 0 3)) (aCons (eSt 0 1) aNil)))) (sSeq (sIf (tCmp gLt (eCall gAbs (aCons (eVar 2) aNil)) (eOp (gI gPowI) (eC (.int 10)) (eC (.int 18)))) (sRet (eApp 3 [] m__law_wide (aCons (eVar 2) (aCons (eSt 0 4) (aCons (eVar 1) aNil))))) sNil) (sSt 0 2 (eCall gAbs (aCons (eVar 2) aNil))))))) sNil) (sSeq (sIf (tCmp gGt (eSt 0 2) (eC (.int 0))) (sSeq (sSet 3 (eSt 0 2)) (sSeq (sSt 0 2 (eOp (gI gDivB) (eVar 3) (eVar 1))) (sRet (eOp (gI gModI) (eCall gInt (aCons (eVar 3) aNil)) (eVar 1))))) sNil) (sRet (eApp 3 [] m__law_wide (aCons (eSt 0 3) (aCons (eSt 0 4) (aCons (eVar 1) aNil)))))))))
def m__law_take : List D → S → R D := fnM 4 G__law_take
theorem ok__law_take {P : Program} {w : World} {K : PySem.W.Frag} {mg : Str → Option Value} {base : Heap} {Tb : List (Addr × Str)} {f : Addr} {fd : FuncData} (F : Fun K "_law_take" "_law_take" s__law_take f fd) (z_abs : mg "abs" = none) (z_int : mg "int" = none) (z_len : mg "len" = none) (sr : SeerB P w base) (k__law_mix : DefOk P w K mg base Tb "_law_mix" 1 2 [] m__law_mix) (k__law_wide : DefOk P w K mg base Tb "_law_wide" 2 3 [] m__law_wide) : FnOk P w K mg base (L2N.CX P w) 34 f fd ["store", "bound"] (spM P w K mg base Tb 2 m__law_take) := by
  refine def_fn F sc__law_take fun st hT cdv A outer s H E hr => ?_
  subst hT
  have px := cx_passes (P := P) (w := w) (K := K) (mg := mg) (base := base) (N := N__law_take) (qual := "_law_take") (stm := s__law_take) (f := f) (cdv := cdv) (A := A) (outer := outer) (s := s) (H := H) (E := E)
  exact (sd_cons (s_if (td_cmp opd_lt (ed_var 1) ed_int (nomark _)) (sd_one (s_ret ed_int)) sd_nil) (sd_cons (s_st 0 4 (ed_op opd_add (ed_st 0 4) ed_int)) (sd_cons (s_if (WD.td (wd_and (td_cmp (opd_eq (hu64 hr)) (ed_st 0 2) ed_int (nomark _)) (wd_and1 (td_cmp opd_lt (ed_st 0 1) (ed_stLen 0 (by rfl) z_len) (nomark _))))) (sd_cons (s_set 2 sc__law_take.nd (ed_stCell 0)) (sd_cons (s_st 0 1 (ed_op opd_add (ed_st 0 1) ed_int)) (sd_cons (s_st 0 3 (ed_call k__law_mix (hr.mono (by omega)) px (ad_cons (ed_op opd_add (ed_var 2) (ed_st 0 3)) (ad_cons (ed_st 0 1) ad_nil)))) (sd_cons (s_if (td_cmp opd_lt (ed_callB cd_abs (by rfl) z_abs (by decide +kernel) (ad_cons (ed_var 2) ad_nil)) (ed_op opd_pow ed_int ed_int) (nomark _)) (sd_one (s_ret (ed_call k__law_wide (hr.mono (by omega)) px (ad_cons (ed_var 2) (ad_cons (ed_st 0 4) (ad_cons (ed_var 1) ad_nil)))))) sd_nil) (sd_one (s_st 0 2 (ed_callB cd_abs (by rfl) z_abs (by decide +kernel) (ad_cons (ed_var 2) ad_nil)))))))) sd_nil) (sd_cons (s_if (td_cmp opd_gt (ed_st 0 2) ed_int (nomark _)) (sd_cons (s_set 3 sc__law_take.nd (ed_st 0 2)) (sd_cons (s_st 0 2 (ed_op (opd_divB sr rfl rfl rfl rfl rfl (big_ok hr (by omega))) (ed_var 3) (ed_var 1))) (sd_one (s_ret (ed_op opd_mod (ed_callTy cd_int (by rfl) z_int (by decide +kernel) (ad_cons (ed_var 3) ad_nil)) (ed_var 1)))))) sd_nil) (sd_one (s_ret (ed_call k__law_wide (hr.mono (by omega)) px (ad_cons (ed_st 0 3) (ad_cons (ed_st 0 4) (ad_cons (ed_var 1) ad_nil))))))))))
abbrev s__law_edge : Stmt := topS 85
abbrev N__law_edge : List Str := ["store", "low", "high", "kind"]
theorem sc__law_edge : FnScope N__law_edge ["store", "low", "high"] (defScope s__law_edge) := ⟨rfl, rfl, rfl, by decide +kernel, rfl, by decide +kernel, by decide +kernel⟩
def G__law_edge : FS := (sSeq (sSet 3 (eApp 2 [] m__law_take (aCons (eVar 0) (aCons (eC (.int 12)) aNil)))) (sSeq (sIf (tOr (tCmp gLe (eVar 2) (eVar 1)) (tCmp gEq (eVar 3) (eC (.int 0)))) (sRet (eVar 1)) sNil) (sSeq (sIf (tCmp gEq (eVar 3) (eC (.int 1))) (sRet (eVar 2)) sNil) (sSeq (sIf (tCmp gEq (eVar 3) (eC (.int 2))) (sRet (eOp gAdd (eVar 1) (eC (.int 1)))) sNil) (sSeq (sIf (tCmp gEq (eVar 3) (eC (.int 3))) (sRet (eOp (gI gSubI) (eVar 2) (eC (.int 1)))) sNil) (sSeq (sIf (tCmp gEq (eVar 3) (eC (.int 4))) (sRet (eCall gMin (aCons (eCall gMax (aCons (eC (.int 0)) (aCons (eVar 1) aNil))) (aCons (eVar 2) aNil)))) sNil) (sSeq (sIf (tCmp gLt (eVar 3) (eC (.int 7))) (sRet (eCall gMin (aCons (eVar 2) (aCons (eOp gAdd (eVar 1) (eApp 2 [] m__law_take (aCons (eVar 0) (aCons (eC (.int 10)) aNil)))) aNil)))) sNil) (sRet (eOp gAdd (eVar 1) (eApp 2 [] m__law_take (aCons (eVar 0) (aCons (eOp gAdd (eOp (gI gSubI) (eVar 2) (eVar 1)) (eC (.int 1))) aNil))))))))))))
def m__law_edge : List D → S → R D := fnM 4 G__law_edge
theorem ok__law_edge {P : Program} {w : World} {K : PySem.W.Frag} {mg : Str → Option Value} {base : Heap} {Tb : List (Addr × Str)} {f : Addr} {fd : FuncData} (F : Fun K "_law_edge" "_law_edge" s__law_edge f fd) (z_max : mg "max" = none) (z_min : mg "min" = none) (k__law_take : DefOk P w K mg base Tb "_law_take" 34 2 [] m__law_take) : FnOk P w K mg base (L2N.CX P w) 35 f fd ["store", "low", "high"] (spM P w K mg base Tb 3 m__law_edge) := by
  refine def_fn F sc__law_edge fun st hT cdv A outer s H E hr => ?_
  subst hT
  have px := cx_passes (P := P) (w := w) (K := K) (mg := mg) (base := base) (N := N__law_edge) (qual := "_law_edge") (stm := s__law_edge) (f := f) (cdv := cdv) (A := A) (outer := outer) (s := s) (H := H) (E := E)
  exact (sd_cons (s_set 3 sc__law_edge.nd (ed_call k__law_take (hr.mono (by omega)) px (ad_cons (ed_var 0) (ad_cons ed_int ad_nil)))) (sd_cons (s_if (WD.td (wd_or (td_cmp opd_le (ed_var 2) (ed_var 1) (nomark _)) (wd_or1 (td_cmp (opd_eq (hu64 hr)) (ed_var 3) ed_int (nomark _))))) (sd_one (s_ret (ed_var 1))) sd_nil) (sd_cons (s_if (td_cmp (opd_eq (hu64 hr)) (ed_var 3) ed_int (nomark _)) (sd_one (s_ret (ed_var 2))) sd_nil) (sd_cons (s_if (td_cmp (opd_eq (hu64 hr)) (ed_var 3) ed_int (nomark _)) (sd_one (s_ret (ed_op opd_add (ed_var 1) ed_int))) sd_nil) (sd_cons (s_if (td_cmp (opd_eq (hu64 hr)) (ed_var 3) ed_int (nomark _)) (sd_one (s_ret (ed_op opd_sub (ed_var 2) ed_int))) sd_nil) (sd_cons (s_if (td_cmp (opd_eq (hu64 hr)) (ed_var 3) ed_int (nomark _)) (sd_one (s_ret (ed_callB (cd_min rfl) (by rfl) z_min (by decide +kernel) (ad_cons (ed_callB (cd_max rfl) (by rfl) z_max (by decide +kernel) (ad_cons ed_int (ad_cons (ed_var 1) ad_nil))) (ad_cons (ed_var 2) ad_nil))))) sd_nil) (sd_cons (s_if (td_cmp opd_lt (ed_var 3) ed_int (nomark _)) (sd_one (s_ret (ed_callB (cd_min rfl) (by rfl) z_min (by decide +kernel) (ad_cons (ed_var 2) (ad_cons (ed_op opd_add (ed_var 1) (ed_call k__law_take (hr.mono (by omega)) px (ad_cons (ed_var 0) (ad_cons ed_int ad_nil)))) ad_nil))))) sd_nil) (sd_one (s_ret (ed_op opd_add (ed_var 1) (ed_call k__law_take (hr.mono (by omega)) px (ad_cons (ed_var 0) (ad_cons (ed_op opd_add (ed_op opd_sub (ed_var 2) (ed_var 1)) ed_int) ad_nil)))))))))))))
abbrev s__law_scaled : Stmt := topS 86
abbrev N__law_scaled : List Str := ["store", "most", "wide", "kind"]
theorem sc__law_scaled : FnScope N__law_scaled ["store", "most"] (defScope s__law_scaled) := ⟨rfl, rfl, rfl, by decide +kernel, rfl, by decide +kernel, by decide +kernel⟩
def G__law_scaled : FS := (sSeq (sSet 2 (eApp 2 [] m__law_take (aCons (eVar 0) (aCons (eOp gAdd (eVar 1) (eC (.int 1))) aNil)))) (sSeq (sSet 3 (eApp 2 [] m__law_take (aCons (eVar 0) (aCons (eC (.int 8)) aNil)))) (sSeq (sIf (tCmp gEq (eVar 3) (eC (.int 0))) (sRet (eOp (gI gSubI) (eOp (gI gShlI) (eC (.int 1)) (eVar 2)) (eC (.int 1)))) sNil) (sSeq (sIf (tAnd (tCmp gEq (eVar 3) (eC (.int 1))) (tCmp gLt (eVar 2) (eVar 1))) (sRet (eOp (gI gShlI) (eC (.int 1)) (eVar 2))) sNil) (sSeq (sIf (tAnd (tCmp gEq (eVar 3) (eC (.int 2))) (tCmp gGt (eVar 2) (eC (.int 1)))) (sRet (eOp (gI gSubI) (eOp (gI gShlI) (eC (.int 1)) (eVar 2)) (eC (.int 2)))) sNil) (sRet (eApp 2 [] m__law_take (aCons (eVar 0) (aCons (eOp (gI gShlI) (eC (.int 1)) (eVar 2)) aNil)))))))))
def m__law_scaled : List D → S → R D := fnM 4 G__law_scaled
theorem ok__law_scaled {P : Program} {w : World} {K : PySem.W.Frag} {mg : Str → Option Value} {base : Heap} {Tb : List (Addr × Str)} {f : Addr} {fd : FuncData} (F : Fun K "_law_scaled" "_law_scaled" s__law_scaled f fd) (k__law_take : DefOk P w K mg base Tb "_law_take" 34 2 [] m__law_take) : FnOk P w K mg base (L2N.CX P w) 35 f fd ["store", "most"] (spM P w K mg base Tb 2 m__law_scaled) := by
  refine def_fn F sc__law_scaled fun st hT cdv A outer s H E hr => ?_
  subst hT
  have px := cx_passes (P := P) (w := w) (K := K) (mg := mg) (base := base) (N := N__law_scaled) (qual := "_law_scaled") (stm := s__law_scaled) (f := f) (cdv := cdv) (A := A) (outer := outer) (s := s) (H := H) (E := E)
  exact (sd_cons (s_set 2 sc__law_scaled.nd (ed_call k__law_take (hr.mono (by omega)) px (ad_cons (ed_var 0) (ad_cons (ed_op opd_add (ed_var 1) ed_int) ad_nil)))) (sd_cons (s_set 3 sc__law_scaled.nd (ed_call k__law_take (hr.mono (by omega)) px (ad_cons (ed_var 0) (ad_cons ed_int ad_nil)))) (sd_cons (s_if (td_cmp (opd_eq (hu64 hr)) (ed_var 3) ed_int (nomark _)) (sd_one (s_ret (ed_op opd_sub (ed_op opd_shl ed_int (ed_var 2)) ed_int))) sd_nil) (sd_cons (s_if (WD.td (wd_and (td_cmp (opd_eq (hu64 hr)) (ed_var 3) ed_int (nomark _)) (wd_and1 (td_cmp opd_lt (ed_var 2) (ed_var 1) (nomark _))))) (sd_one (s_ret (ed_op opd_shl ed_int (ed_var 2)))) sd_nil) (sd_cons (s_if (WD.td (wd_and (td_cmp (opd_eq (hu64 hr)) (ed_var 3) ed_int (nomark _)) (wd_and1 (td_cmp opd_gt (ed_var 2) ed_int (nomark _))))) (sd_one (s_ret (ed_op opd_sub (ed_op opd_shl ed_int (ed_var 2)) ed_int))) sd_nil) (sd_one (s_ret (ed_call k__law_take (hr.mono (by omega)) px (ad_cons (ed_var 0) (ad_cons (ed_op opd_shl ed_int (ed_var 2)) ad_nil))))))))))
abbrev s__law_no_integer : Stmt := topS 87
abbrev N__law_no_integer : List Str := ["store", "row"]
theorem sc__law_no_integer : FnScope N__law_no_integer ["store"] (defScope s__law_no_integer) := ⟨rfl, rfl, rfl, by decide +kernel, rfl, by decide +kernel, by decide +kernel⟩
def G__law_no_integer : FS := (sSeq (sSet 1 (eLst (aCons (eC .non) (aCons (eC (.bl true)) (aCons (eC (.bl false)) (aCons (eC (.str "0")) (aCons (eC (.str "")) (aCons (eTup (aCons (eC (.int 1)) aNil)) (aCons (eTup aNil) (aCons (eLst (aCons (eC (.int 0)) aNil)) (aCons (eLst aNil) aNil))))))))))) (sRet (eOp gIx (eVar 1) (eApp 2 [] m__law_take (aCons (eVar 0) (aCons (eCall gLen (aCons (eVar 1) aNil)) aNil))))))
def m__law_no_integer : List D → S → R D := fnM 2 G__law_no_integer
theorem ok__law_no_integer {P : Program} {w : World} {K : PySem.W.Frag} {mg : Str → Option Value} {base : Heap} {Tb : List (Addr × Str)} {f : Addr} {fd : FuncData} (F : Fun K "_law_no_integer" "_law_no_integer" s__law_no_integer f fd) (z_len : mg "len" = none) (k__law_take : DefOk P w K mg base Tb "_law_take" 34 2 [] m__law_take) : FnOk P w K mg base (L2N.CX P w) 35 f fd ["store"] (spM P w K mg base Tb 1 m__law_no_integer) := by
  refine def_fn F sc__law_no_integer fun st hT cdv A outer s H E hr => ?_
  subst hT
  have px := cx_passes (P := P) (w := w) (K := K) (mg := mg) (base := base) (N := N__law_no_integer) (qual := "_law_no_integer") (stm := s__law_no_integer) (f := f) (cdv := cdv) (A := A) (outer := outer) (s := s) (H := H) (E := E)
  exact (sd_cons (s_set 1 sc__law_no_integer.nd (ed_lst (ad_cons ed_non (ad_cons ed_bl (ad_cons ed_bl (ad_cons ed_str (ad_cons ed_str (ad_cons (ed_tup (ad_cons ed_int ad_nil)) (ad_cons (ed_tup ad_nil) (ad_cons (ed_lst (ad_cons ed_int ad_nil)) (ad_cons (ed_lst ad_nil) ad_nil))))))))))) (sd_one (s_ret (ed_ix (ed_var 1) (ed_call k__law_take (hr.mono (by omega)) px (ad_cons (ed_var 0) (ad_cons (ed_callB cd_len (by rfl) z_len (by decide +kernel) (ad_cons (ed_var 1) ad_nil)) ad_nil)))))))
abbrev s__law_int : Stmt := topS 88
abbrev N__law_int : List Str := ["given"]
theorem sc__law_int : FnScope N__law_int ["given"] (defScope s__law_int) := ⟨rfl, rfl, rfl, by decide +kernel, rfl, by decide +kernel, by decide +kernel⟩
def G__law_int : FS := (sRet (eAnd (eCall gIsi (aCons (eVar 0) (aCons (eC (.ty "int")) aNil))) (eUn gNot (eCall gIsi (aCons (eVar 0) (aCons (eC (.ty "bool")) aNil))))))
def m__law_int : List D → S → R D := fnM 1 G__law_int
theorem ok__law_int {P : Program} {w : World} {K : PySem.W.Frag} {mg : Str → Option Value} {base : Heap} {Tb : List (Addr × Str)} {f : Addr} {fd : FuncData} (F : Fun K "_law_int" "_law_int" s__law_int f fd) (z_bool : mg "bool" = none) (z_int : mg "int" = none) (z_isinstance : mg "isinstance" = none) : FnOk P w K mg base (L2N.CX P w) 1 f fd ["given"] (spM P w K mg base Tb 1 m__law_int) := by
  refine def_fn F sc__law_int fun st hT cdv A outer s H E hr => ?_
  subst hT
  have px := cx_passes (P := P) (w := w) (K := K) (mg := mg) (base := base) (N := N__law_int) (qual := "_law_int") (stm := s__law_int) (f := f) (cdv := cdv) (A := A) (outer := outer) (s := s) (H := H) (E := E)
  exact (sd_one (s_ret (ed_and (ed_callB cd_isi (by rfl) z_isinstance (by decide +kernel) (ad_cons (ed_var 0) (ad_cons (ed_ty (by rfl) z_int (by decide +kernel)) ad_nil))) (ed_one (ed_not (ed_callB cd_isi (by rfl) z_isinstance (by decide +kernel) (ad_cons (ed_var 0) (ad_cons (ed_ty (by rfl) z_bool (by decide +kernel)) ad_nil))))))))
abbrev s__law_same : Stmt := topS 89
abbrev N__law_same : List Str := ["actual", "due", "k"]
theorem sc__law_same : FnScope N__law_same ["actual", "due"] (defScope s__law_same) := ⟨rfl, rfl, rfl, by decide +kernel, rfl, by decide +kernel, by decide +kernel⟩
def G__law_same (rec : List D → S → R D) : FS := (sSeq (sIf (tCmp gIs (eVar 1) (eC .non)) (sRet (eOp gIs (eVar 0) (eC .non))) sNil) (sSeq (sIf (tTru (eCall gIsi (aCons (eVar 1) (aCons (eC (.ty "bool")) aNil)))) (sRet (eAnd (eCall gIsi (aCons (eVar 0) (aCons (eC (.ty "bool")) aNil))) (eOp gEq (eVar 0) (eVar 1)))) sNil) (sSeq (sIf (tTru (eCall gIsi (aCons (eVar 1) (aCons (eC (.ty "int")) aNil)))) (sRet (eAnd (eApp 1 [] m__law_int (aCons (eVar 0) aNil)) (eOp gEq (eVar 0) (eVar 1)))) sNil) (sSeq (sIf (tTru (eCall gIsi (aCons (eVar 1) (aCons (eC (.ty "str")) aNil)))) (sRet (eAnd (eCall gIsi (aCons (eVar 0) (aCons (eC (.ty "str")) aNil))) (eOp gEq (eVar 0) (eVar 1)))) sNil) (sSeq (sIf (tAnd (tTru (eCall gIsi (aCons (eVar 1) (aCons (eC (.ty "list")) aNil)))) (tNot (tTru (eCall gIsi (aCons (eVar 0) (aCons (eC (.ty "list")) aNil)))))) (sRet (eC (.bl false))) sNil) (sSeq (sIf (tAnd (tTru (eCall gIsi (aCons (eVar 1) (aCons (eC (.ty "tuple")) aNil)))) (tNot (tTru (eCall gIsi (aCons (eVar 0) (aCons (eC (.ty "tuple")) aNil)))))) (sRet (eC (.bl false))) sNil) (sSeq (sIf (tOr (tNot (tTru (eCall gIsi (aCons (eVar 1) (aCons (eTup (aCons (eC (.ty "list")) (aCons (eC (.ty "tuple")) aNil))) aNil))))) (tCmp gNe (eCall gLen (aCons (eVar 0) aNil)) (eCall gLen (aCons (eVar 1) aNil)))) (sRet (eC (.bl false))) sNil) (sSeq (sFor (iRng1 (aCons (eCall gLen (aCons (eVar 1) aNil)) aNil)) (nName 2) (sIf (tNot (tTru (eApp 2 [] rec (aCons (eOp gIx (eVar 0) (eVar 2)) (aCons (eOp gIx (eVar 1) (eVar 2)) aNil))))) (sRet (eC (.bl false))) sNil)) (sRet (eC (.bl true)))))))))))
def ms__law_same : Nat → List D → S → R D
  | 0 => fun _ _ => .stuck
  | n + 1 => fnM 3 (G__law_same (ms__law_same n))
abbrev m__law_same : List D → S → R D := ms__law_same 8
theorem ok__law_same {P : Program} {w : World} {K : PySem.W.Frag} {mg : Str → Option Value} {base : Heap} {Tb : List (Addr × Str)} {f : Addr} {fd : FuncData} (F : Fun K "_law_same" "_law_same" s__law_same f fd) (z_bool : mg "bool" = none) (z_int : mg "int" = none) (z_isinstance : mg "isinstance" = none) (z_len : mg "len" = none) (z_list : mg "list" = none) (z_range : mg "range" = none) (z_str : mg "str" = none) (z_tuple : mg "tuple" = none) (k__law_int : DefOk P w K mg base Tb "_law_int" 1 1 [] m__law_int) (m0 : mg "_law_same" = some (.ref f)) (bd : Binds K fd ["actual", "due"] []) : ∀ n, FnOk P w K mg base (L2N.CX P w) (n + 2) f fd ["actual", "due"] (spM P w K mg base Tb 2 (ms__law_same n)) := by
  intro n
  induction n with
  | zero => exact fn_stuck
  | succ n ih =>
  refine def_fn F sc__law_same fun st hT cdv A outer s H E hr => ?_
  subst hT
  have k__law_same : DefOk P w K mg base st.T "_law_same" (n + 2) 2 [] (ms__law_same n) := def_mk F m0 ih bd .nil rfl
  have px := cx_passes (P := P) (w := w) (K := K) (mg := mg) (base := base) (N := N__law_same) (qual := "_law_same") (stm := s__law_same) (f := f) (cdv := cdv) (A := A) (outer := outer) (s := s) (H := H) (E := E)
  exact (sd_cons (s_if (td_cmp opd_is (ed_var 1) ed_non (nomark _)) (sd_one (s_ret (ed_cmp opd_is (ed_var 0) ed_non (nomark _)))) sd_nil) (sd_cons (s_if (td_tru (ed_callB cd_isi (by rfl) z_isinstance (by decide +kernel) (ad_cons (ed_var 1) (ad_cons (ed_ty (by rfl) z_bool (by decide +kernel)) ad_nil)))) (sd_one (s_ret (ed_and (ed_callB cd_isi (by rfl) z_isinstance (by decide +kernel) (ad_cons (ed_var 0) (ad_cons (ed_ty (by rfl) z_bool (by decide +kernel)) ad_nil))) (ed_one (ed_cmp (opd_eq (hu64 hr)) (ed_var 0) (ed_var 1) (nomark _)))))) sd_nil) (sd_cons (s_if (td_tru (ed_callB cd_isi (by rfl) z_isinstance (by decide +kernel) (ad_cons (ed_var 1) (ad_cons (ed_ty (by rfl) z_int (by decide +kernel)) ad_nil)))) (sd_one (s_ret (ed_and (ed_call k__law_int (hr.mono (by omega)) px (ad_cons (ed_var 0) ad_nil)) (ed_one (ed_cmp (opd_eq (hu64 hr)) (ed_var 0) (ed_var 1) (nomark _)))))) sd_nil) (sd_cons (s_if (td_tru (ed_callB cd_isi (by rfl) z_isinstance (by decide +kernel) (ad_cons (ed_var 1) (ad_cons (ed_ty (by rfl) z_str (by decide +kernel)) ad_nil)))) (sd_one (s_ret (ed_and (ed_callB cd_isi (by rfl) z_isinstance (by decide +kernel) (ad_cons (ed_var 0) (ad_cons (ed_ty (by rfl) z_str (by decide +kernel)) ad_nil))) (ed_one (ed_cmp (opd_eq (hu64 hr)) (ed_var 0) (ed_var 1) (nomark _)))))) sd_nil) (sd_cons (s_if (WD.td (wd_and (td_tru (ed_callB cd_isi (by rfl) z_isinstance (by decide +kernel) (ad_cons (ed_var 1) (ad_cons (ed_ty (by rfl) z_list (by decide +kernel)) ad_nil)))) (wd_and1 (td_not (td_tru (ed_callB cd_isi (by rfl) z_isinstance (by decide +kernel) (ad_cons (ed_var 0) (ad_cons (ed_ty (by rfl) z_list (by decide +kernel)) ad_nil)))))))) (sd_one (s_ret ed_bl)) sd_nil) (sd_cons (s_if (WD.td (wd_and (td_tru (ed_callB cd_isi (by rfl) z_isinstance (by decide +kernel) (ad_cons (ed_var 1) (ad_cons (ed_ty (by rfl) z_tuple (by decide +kernel)) ad_nil)))) (wd_and1 (td_not (td_tru (ed_callB cd_isi (by rfl) z_isinstance (by decide +kernel) (ad_cons (ed_var 0) (ad_cons (ed_ty (by rfl) z_tuple (by decide +kernel)) ad_nil)))))))) (sd_one (s_ret ed_bl)) sd_nil) (sd_cons (s_if (WD.td (wd_or (td_not (td_tru (ed_callB cd_isi (by rfl) z_isinstance (by decide +kernel) (ad_cons (ed_var 1) (ad_cons (ed_tup (ad_cons (ed_ty (by rfl) z_list (by decide +kernel)) (ad_cons (ed_ty (by rfl) z_tuple (by decide +kernel)) ad_nil))) ad_nil))))) (wd_or1 (td_cmp (opd_ne (hu64 hr)) (ed_callB cd_len (by rfl) z_len (by decide +kernel) (ad_cons (ed_var 0) ad_nil)) (ed_callB cd_len (by rfl) z_len (by decide +kernel) (ad_cons (ed_var 1) ad_nil)) (nomark _))))) (sd_one (s_ret ed_bl)) sd_nil) (sd_cons (s_for (passes_of rfl) rfl (id_range1 (ad_cons (ed_callB cd_len (by rfl) z_len (by decide +kernel) (ad_cons (ed_var 1) ad_nil)) ad_nil) z_range) (gd_name 2 sc__law_same.nd) (sd_one (s_if (td_not (td_tru (ed_call k__law_same (hr.mono (by omega)) px (ad_cons (ed_ix (ed_var 0) (ed_var 2)) (ad_cons (ed_ix (ed_var 1) (ed_var 2)) ad_nil))))) (sd_one (s_ret ed_bl)) sd_nil))) (sd_one (s_ret ed_bl))))))))))
abbrev s__law_names : Stmt := topS 91
abbrev N__law_names : List Str := ["error", "row", "one"]
theorem sc__law_names : FnScope N__law_names ["error"] (defScope s__law_names) := ⟨rfl, rfl, rfl, by decide +kernel, rfl, by decide +kernel, by decide +kernel⟩
def G__law_names : FS := (sSeq (sOwn 1 (aCons (eTup (aCons (eC (.str "BadCount")) (aCons (eCall gIsiE (aCons (eVar 0) (aCons (eC (.cls "BadCount")) aNil))) aNil))) (aCons (eTup (aCons (eC (.str "BadFormat")) (aCons (eCall gIsiE (aCons (eVar 0) (aCons (eC (.cls "BadFormat")) aNil))) aNil))) aNil))) (sSeq (sApp 1 (eTup (aCons (eC (.str "BadNumber")) (aCons (eCall gIsiE (aCons (eVar 0) (aCons (eC (.cls "BadNumber")) aNil))) aNil)))) (sSeq (sApp 1 (eTup (aCons (eC (.str "BadExact")) (aCons (eCall gIsiE (aCons (eVar 0) (aCons (eC (.cls "BadExact")) aNil))) aNil)))) (sSeq (sApp 1 (eTup (aCons (eC (.str "BadMode")) (aCons (eCall gIsiE (aCons (eVar 0) (aCons (eC (.cls "BadMode")) aNil))) aNil)))) (sSeq (sApp 1 (eTup (aCons (eC (.str "BadOp")) (aCons (eCall gIsiE (aCons (eVar 0) (aCons (eC (.cls "BadOp")) aNil))) aNil)))) (sSeq (sApp 1 (eTup (aCons (eC (.str "BadText")) (aCons (eCall gIsiE (aCons (eVar 0) (aCons (eC (.cls "BadText")) aNil))) aNil)))) (sSeq (sApp 1 (eTup (aCons (eC (.str "BadCut")) (aCons (eCall gIsiE (aCons (eVar 0) (aCons (eC (.cls "BadCut")) aNil))) aNil)))) (sSeq (sApp 1 (eTup (aCons (eC (.str "BadPlan")) (aCons (eCall gIsiE (aCons (eVar 0) (aCons (eC (.cls "BadPlan")) aNil))) aNil)))) (sSeq (sApp 1 (eTup (aCons (eC (.str "BadChain")) (aCons (eCall gIsiE (aCons (eVar 0) (aCons (eC (.cls "BadChain")) aNil))) aNil)))) (sSeq (sApp 1 (eTup (aCons (eC (.str "BadFamily")) (aCons (eCall gIsiE (aCons (eVar 0) (aCons (eC (.cls "BadFamily")) aNil))) aNil)))) (sSeq (sApp 1 (eTup (aCons (eC (.str "BadSpan")) (aCons (eCall gIsiE (aCons (eVar 0) (aCons (eC (.cls "BadSpan")) aNil))) aNil)))) (sSeq (sApp 1 (eTup (aCons (eC (.str "BadProgram")) (aCons (eCall gIsiE (aCons (eVar 0) (aCons (eC (.cls "BadProgram")) aNil))) aNil)))) (sSeq (sApp 1 (eTup (aCons (eC (.str "BadBox")) (aCons (eCall gIsiE (aCons (eVar 0) (aCons (eC (.cls "BadBox")) aNil))) aNil)))) (sSeq (sApp 1 (eTup (aCons (eC (.str "NotAsked")) (aCons (eCall gIsiE (aCons (eVar 0) (aCons (eC (.cls "NotAsked")) aNil))) aNil)))) (sSeq (sApp 1 (eTup (aCons (eC (.str "TooMany")) (aCons (eCall gIsiE (aCons (eVar 0) (aCons (eC (.cls "TooMany")) aNil))) aNil)))) (sSeq (sApp 1 (eTup (aCons (eC (.str "no ValueError")) (aCons (eUn gNot (eCall gIsiE (aCons (eVar 0) (aCons (eC (.ty "ValueError")) aNil)))) aNil)))) (sFrz 1 (sRet (eCall gTuple (aCons (eLcL 2 (eVar 1) (tTru (eOp gIx (eVar 2) (eC (.int 1)))) (eOp gIx (eVar 2) (eC (.int 0)))) aNil))))))))))))))))))))
def m__law_names : List D → S → R D := fnM 3 G__law_names
theorem ok__law_names {P : Program} {w : World} {K : PySem.W.Frag} {mg : Str → Option Value} {base : Heap} {Tb : List (Addr × Str)} {f : Addr} {fd : FuncData} (F : Fun K "_law_names" "_law_names" s__law_names f fd) (z_ValueError : mg "ValueError" = none) (z_isinstance : mg "isinstance" = none) (z_tuple : mg "tuple" = none) (c_BadBox : ∃ C, mg "BadBox" = some (.ref C)) (c_BadChain : ∃ C, mg "BadChain" = some (.ref C)) (c_BadCount : ∃ C, mg "BadCount" = some (.ref C)) (c_BadCut : ∃ C, mg "BadCut" = some (.ref C)) (c_BadExact : ∃ C, mg "BadExact" = some (.ref C)) (c_BadFamily : ∃ C, mg "BadFamily" = some (.ref C)) (c_BadFormat : ∃ C, mg "BadFormat" = some (.ref C)) (c_BadMode : ∃ C, mg "BadMode" = some (.ref C)) (c_BadNumber : ∃ C, mg "BadNumber" = some (.ref C)) (c_BadOp : ∃ C, mg "BadOp" = some (.ref C)) (c_BadPlan : ∃ C, mg "BadPlan" = some (.ref C)) (c_BadProgram : ∃ C, mg "BadProgram" = some (.ref C)) (c_BadSpan : ∃ C, mg "BadSpan" = some (.ref C)) (c_BadText : ∃ C, mg "BadText" = some (.ref C)) (c_NotAsked : ∃ C, mg "NotAsked" = some (.ref C)) (c_TooMany : ∃ C, mg "TooMany" = some (.ref C)) (tab : IsTab K mg) : FnE P w K mg base 1 f fd ["error"] (spE P w K mg base Tb 1 m__law_names) := by
  obtain ⟨C_BadBox, c_BadBox⟩ := c_BadBox
  obtain ⟨C_BadChain, c_BadChain⟩ := c_BadChain
  obtain ⟨C_BadCount, c_BadCount⟩ := c_BadCount
  obtain ⟨C_BadCut, c_BadCut⟩ := c_BadCut
  obtain ⟨C_BadExact, c_BadExact⟩ := c_BadExact
  obtain ⟨C_BadFamily, c_BadFamily⟩ := c_BadFamily
  obtain ⟨C_BadFormat, c_BadFormat⟩ := c_BadFormat
  obtain ⟨C_BadMode, c_BadMode⟩ := c_BadMode
  obtain ⟨C_BadNumber, c_BadNumber⟩ := c_BadNumber
  obtain ⟨C_BadOp, c_BadOp⟩ := c_BadOp
  obtain ⟨C_BadPlan, c_BadPlan⟩ := c_BadPlan
  obtain ⟨C_BadProgram, c_BadProgram⟩ := c_BadProgram
  obtain ⟨C_BadSpan, c_BadSpan⟩ := c_BadSpan
  obtain ⟨C_BadText, c_BadText⟩ := c_BadText
  obtain ⟨C_NotAsked, c_NotAsked⟩ := c_NotAsked
  obtain ⟨C_TooMany, c_TooMany⟩ := c_TooMany
  refine def_fnE F sc__law_names fun st hT cdv A outer s H E p hx hr => ?_
  subst hT
  exact (sd_cons (s_own 1 sc__law_names.nd (ad_cons (ed_tup (ad_cons ed_str (ad_cons (ed_callB (cd_isiE hx.e tab) (by rfl) z_isinstance (by decide +kernel) (ad_cons (ed_var 0) (ad_cons (ed_cls ⟨_, c_BadCount⟩) ad_nil))) ad_nil))) (ad_cons (ed_tup (ad_cons ed_str (ad_cons (ed_callB (cd_isiE hx.e tab) (by rfl) z_isinstance (by decide +kernel) (ad_cons (ed_var 0) (ad_cons (ed_cls ⟨_, c_BadFormat⟩) ad_nil))) ad_nil))) ad_nil))) (sd_cons (s_app 1 (ed_tup (ad_cons ed_str (ad_cons (ed_callB (cd_isiE hx.e tab) (by rfl) z_isinstance (by decide +kernel) (ad_cons (ed_var 0) (ad_cons (ed_cls ⟨_, c_BadNumber⟩) ad_nil))) ad_nil)))) (sd_cons (s_app 1 (ed_tup (ad_cons ed_str (ad_cons (ed_callB (cd_isiE hx.e tab) (by rfl) z_isinstance (by decide +kernel) (ad_cons (ed_var 0) (ad_cons (ed_cls ⟨_, c_BadExact⟩) ad_nil))) ad_nil)))) (sd_cons (s_app 1 (ed_tup (ad_cons ed_str (ad_cons (ed_callB (cd_isiE hx.e tab) (by rfl) z_isinstance (by decide +kernel) (ad_cons (ed_var 0) (ad_cons (ed_cls ⟨_, c_BadMode⟩) ad_nil))) ad_nil)))) (sd_cons (s_app 1 (ed_tup (ad_cons ed_str (ad_cons (ed_callB (cd_isiE hx.e tab) (by rfl) z_isinstance (by decide +kernel) (ad_cons (ed_var 0) (ad_cons (ed_cls ⟨_, c_BadOp⟩) ad_nil))) ad_nil)))) (sd_cons (s_app 1 (ed_tup (ad_cons ed_str (ad_cons (ed_callB (cd_isiE hx.e tab) (by rfl) z_isinstance (by decide +kernel) (ad_cons (ed_var 0) (ad_cons (ed_cls ⟨_, c_BadText⟩) ad_nil))) ad_nil)))) (sd_cons (s_app 1 (ed_tup (ad_cons ed_str (ad_cons (ed_callB (cd_isiE hx.e tab) (by rfl) z_isinstance (by decide +kernel) (ad_cons (ed_var 0) (ad_cons (ed_cls ⟨_, c_BadCut⟩) ad_nil))) ad_nil)))) (sd_cons (s_app 1 (ed_tup (ad_cons ed_str (ad_cons (ed_callB (cd_isiE hx.e tab) (by rfl) z_isinstance (by decide +kernel) (ad_cons (ed_var 0) (ad_cons (ed_cls ⟨_, c_BadPlan⟩) ad_nil))) ad_nil)))) (sd_cons (s_app 1 (ed_tup (ad_cons ed_str (ad_cons (ed_callB (cd_isiE hx.e tab) (by rfl) z_isinstance (by decide +kernel) (ad_cons (ed_var 0) (ad_cons (ed_cls ⟨_, c_BadChain⟩) ad_nil))) ad_nil)))) (sd_cons (s_app 1 (ed_tup (ad_cons ed_str (ad_cons (ed_callB (cd_isiE hx.e tab) (by rfl) z_isinstance (by decide +kernel) (ad_cons (ed_var 0) (ad_cons (ed_cls ⟨_, c_BadFamily⟩) ad_nil))) ad_nil)))) (sd_cons (s_app 1 (ed_tup (ad_cons ed_str (ad_cons (ed_callB (cd_isiE hx.e tab) (by rfl) z_isinstance (by decide +kernel) (ad_cons (ed_var 0) (ad_cons (ed_cls ⟨_, c_BadSpan⟩) ad_nil))) ad_nil)))) (sd_cons (s_app 1 (ed_tup (ad_cons ed_str (ad_cons (ed_callB (cd_isiE hx.e tab) (by rfl) z_isinstance (by decide +kernel) (ad_cons (ed_var 0) (ad_cons (ed_cls ⟨_, c_BadProgram⟩) ad_nil))) ad_nil)))) (sd_cons (s_app 1 (ed_tup (ad_cons ed_str (ad_cons (ed_callB (cd_isiE hx.e tab) (by rfl) z_isinstance (by decide +kernel) (ad_cons (ed_var 0) (ad_cons (ed_cls ⟨_, c_BadBox⟩) ad_nil))) ad_nil)))) (sd_cons (s_app 1 (ed_tup (ad_cons ed_str (ad_cons (ed_callB (cd_isiE hx.e tab) (by rfl) z_isinstance (by decide +kernel) (ad_cons (ed_var 0) (ad_cons (ed_cls ⟨_, c_NotAsked⟩) ad_nil))) ad_nil)))) (sd_cons (s_app 1 (ed_tup (ad_cons ed_str (ad_cons (ed_callB (cd_isiE hx.e tab) (by rfl) z_isinstance (by decide +kernel) (ad_cons (ed_var 0) (ad_cons (ed_cls ⟨_, c_TooMany⟩) ad_nil))) ad_nil)))) (sd_cons (s_app 1 (ed_tup (ad_cons ed_str (ad_cons (ed_not (ed_callB (cd_isiE hx.e tab) (by rfl) z_isinstance (by decide +kernel) (ad_cons (ed_var 0) (ad_cons (ed_ty (by rfl) z_ValueError (by decide +kernel)) ad_nil)))) ad_nil)))) (sd_frz 1 (sd_one (s_ret (ed_callTy cd_tuple (by rfl) z_tuple (by decide +kernel) (ad_cons (ed_lcH (E0 := fun _ _ _ => False) 2 hx.c sc__law_names.nd (ed_var 1) (blkOk_by (N := N__law_names) (sc := defScope s__law_names) (own := [("one", 2)]) (by decide +kernel)) (fun _ _ _ _ _ => pg_name (i := 2) sc__law_names.nd rfl (by first | exact Or.inl rfl | exact Or.inr rfl)) (fun _ _ _ _ _ => tds_one (td_tru (ed_ix (ed_var 2) ed_int))) (fun _ _ _ _ _ => (ed_ix (ed_var 2) ed_int))) ad_nil)))))))))))))))))))))
abbrev s__law_caught : Stmt := topS 90
abbrev N__law_caught : List Str := ["action", "e", "given"]
theorem sc__law_caught : FnScope N__law_caught ["action"] (defScope s__law_caught) := ⟨rfl, rfl, rfl, by decide +kernel, rfl, by decide +kernel, by decide +kernel⟩
def G__law_caught : FS := (sSeq (sTry 0 (some 2) 1 [("BadText", (fun _ _ => .stuck)), ("BadProgram", (fun _ _ => .stuck)), ("TooMany", (fun _ _ => .stuck)), ("Refused", (sRet (eTup (aCons (eC (.str "raised")) (aCons (eApp 1 [] m__law_names (aCons (eVar 1) aNil)) (aCons (eC .non) aNil))))))]) (sRet (eTup (aCons (eC (.str "returned")) (aCons (eVar 2) aNil)))))
def m__law_caught : List D → S → R D := fnM 3 G__law_caught
theorem ok__law_caught {P : Program} {w : World} {K : PySem.W.Frag} {mg : Str → Option Value} {base : Heap} {Tb : List (Addr × Str)} {f : Addr} {fd : FuncData} (F : Fun K "_law_caught" "_law_caught" s__law_caught f fd) (c_BadProgram : ∃ C, mg "BadProgram" = some (.ref C)) (c_BadText : ∃ C, mg "BadText" = some (.ref C)) (c_Refused : ∃ C, mg "Refused" = some (.ref C)) (c_TooMany : ∃ C, mg "TooMany" = some (.ref C)) (tab : IsTab K mg) (k__law_names : DefE P w K mg base Tb "_law_names" 1 1 m__law_names) : FnOk P w K mg base (L2N.CX P w) 61 f fd ["action"] (spM P w K mg base Tb 1 m__law_caught) := by
  obtain ⟨C_BadProgram, c_BadProgram⟩ := c_BadProgram
  obtain ⟨C_BadText, c_BadText⟩ := c_BadText
  obtain ⟨C_Refused, c_Refused⟩ := c_Refused
  obtain ⟨C_TooMany, c_TooMany⟩ := c_TooMany
  refine def_fn F sc__law_caught fun st hT cdv A outer s H E hr => ?_
  subst hT
  have px := cx_passes (P := P) (w := w) (K := K) (mg := mg) (base := base) (N := N__law_caught) (qual := "_law_caught") (stm := s__law_caught) (f := f) (cdv := cdv) (A := A) (outer := outer) (s := s) (H := H) (E := E)
  exact (sd_cons (s_tryV 0 2 1 rfl rfl sc__law_caught.nd (hr.mono (by omega)) rfl rfl (ClD.cons c_BadText (by rfl) (by decide) (fun x Cx b e m => tab.exm x _ b Cx _ e m c_BadText) (fun a oe pn x hx => sd_never) (ClD.cons c_BadProgram (by rfl) (by decide) (fun x Cx b e m => tab.exm x _ b Cx _ e m c_BadProgram) (fun a oe pn x hx => sd_never) (ClD.cons c_TooMany (by rfl) (by decide) (fun x Cx b e m => tab.exm x _ b Cx _ e m c_TooMany) (fun a oe pn x hx => sd_never) (ClD.cons c_Refused (by rfl) (by decide) (fun x Cx b e m => tab.exm x _ b Cx _ e m c_Refused) (fun a oe pn x hx => (sd_one (s_ret (ed_tup (ad_cons ed_str (ad_cons (ed_callE k__law_names (roomE (hr.mono (by omega))) hx (fun _ => pass_none) (ad_cons (ed_var 1) ad_nil)) (ad_cons ed_non ad_nil))))))) ClD.nil))))) (sd_one (s_ret (ed_tup (ad_cons ed_str (ad_cons (ed_var 2) ad_nil))))))
abbrev s__law_common : Stmt := topS 92
abbrev N__law_common : List Str := ["first", "second", "left", "right"]
theorem sc__law_common : FnScope N__law_common ["first", "second"] (defScope s__law_common) := ⟨rfl, rfl, rfl, by decide +kernel, rfl, by decide +kernel, by decide +kernel⟩
def G__law_common : FS := (sSeq (sSet 2 (eCall gAbs (aCons (eVar 0) aNil))) (sSeq (sSet 3 (eCall gAbs (aCons (eVar 1) aNil))) (sSeq (sWhile fuel (tCmp gGt (eVar 3) (eC (.int 0))) (sPar 2 3 (aCons (eVar 3) (aCons (eOp (gI gModI) (eCall gInt (aCons (eVar 2) aNil)) (eVar 3)) aNil)))) (sRet (eVar 2)))))
def m__law_common : List D → S → R D := fnM 4 G__law_common
theorem ok__law_common {P : Program} {w : World} {K : PySem.W.Frag} {mg : Str → Option Value} {base : Heap} {Tb : List (Addr × Str)} {f : Addr} {fd : FuncData} (F : Fun K "_law_common" "_law_common" s__law_common f fd) (z_abs : mg "abs" = none) (z_int : mg "int" = none) : FnOk P w K mg base (L2N.CX P w) 1 f fd ["first", "second"] (spM P w K mg base Tb 2 m__law_common) := by
  refine def_fn F sc__law_common fun st hT cdv A outer s H E hr => ?_
  subst hT
  have px := cx_passes (P := P) (w := w) (K := K) (mg := mg) (base := base) (N := N__law_common) (qual := "_law_common") (stm := s__law_common) (f := f) (cdv := cdv) (A := A) (outer := outer) (s := s) (H := H) (E := E)
  exact (sd_cons (s_set 2 sc__law_common.nd (ed_callB cd_abs (by rfl) z_abs (by decide +kernel) (ad_cons (ed_var 0) ad_nil))) (sd_cons (s_set 3 sc__law_common.nd (ed_callB cd_abs (by rfl) z_abs (by decide +kernel) (ad_cons (ed_var 1) ad_nil))) (sd_cons (s_while fuel (passes_of rfl) (td_cmp opd_gt (ed_var 3) ed_int (nomark _)) (sd_one (s_par 2 3 rfl sc__law_common.nd (ad_cons (ed_var 3) (ad_cons (ed_op opd_mod (ed_callTy cd_int (by rfl) z_int (by decide +kernel) (ad_cons (ed_var 2) ad_nil)) (ed_var 3)) ad_nil))))) (sd_one (s_ret (ed_var 2))))))
abbrev s__law_mode : Stmt := topS 93
abbrev N__law_mode : List Str := ["store"]
theorem sc__law_mode : FnScope N__law_mode ["store"] (defScope s__law_mode) := ⟨rfl, rfl, rfl, by decide +kernel, rfl, by decide +kernel, by decide +kernel⟩
def G__law_mode : FS := (sRet (eOp gIx (eTup (aCons (eC (.str "even")) (aCons (eC (.str "away")) (aCons (eC (.str "zero")) (aCons (eC (.str "up")) (aCons (eC (.str "down")) (aCons (eC (.str "odd")) aNil))))))) (eApp 2 [] m__law_take (aCons (eVar 0) (aCons (eC (.int 6)) aNil)))))
def m__law_mode : List D → S → R D := fnM 1 G__law_mode
theorem ok__law_mode {P : Program} {w : World} {K : PySem.W.Frag} {mg : Str → Option Value} {base : Heap} {Tb : List (Addr × Str)} {f : Addr} {fd : FuncData} (F : Fun K "_law_mode" "_law_mode" s__law_mode f fd) (k__law_take : DefOk P w K mg base Tb "_law_take" 34 2 [] m__law_take) : FnOk P w K mg base (L2N.CX P w) 35 f fd ["store"] (spM P w K mg base Tb 1 m__law_mode) := by
  refine def_fn F sc__law_mode fun st hT cdv A outer s H E hr => ?_
  subst hT
  have px := cx_passes (P := P) (w := w) (K := K) (mg := mg) (base := base) (N := N__law_mode) (qual := "_law_mode") (stm := s__law_mode) (f := f) (cdv := cdv) (A := A) (outer := outer) (s := s) (H := H) (E := E)
  exact (sd_one (s_ret (ed_ix (ed_tup (ad_cons ed_str (ad_cons ed_str (ad_cons ed_str (ad_cons ed_str (ad_cons ed_str (ad_cons ed_str ad_nil))))))) (ed_call k__law_take (hr.mono (by omega)) px (ad_cons (ed_var 0) (ad_cons ed_int ad_nil))))))
abbrev s__law_odd : Stmt := topS 94
abbrev N__law_odd : List Str := ["sign", "m", "power", "moved"]
theorem sc__law_odd : FnScope N__law_odd ["sign", "m", "power"] (defScope s__law_odd) := ⟨rfl, rfl, rfl, by decide +kernel, rfl, by decide +kernel, by decide +kernel⟩
def G__law_odd : FS := (sSeq (sIf (tCmp gEq (eVar 1) (eC (.int 0))) (sRet (eTup (aCons (eVar 0) (aCons (eC (.int 0)) (aCons (eC (.int 0)) aNil))))) sNil) (sSeq (sSet 3 (eOp (gI gSubI) (eUn gBits (eOp (gI gAndI) (eVar 1) (eOp (gI gSubI) (eC (.int 0)) (eVar 1)))) (eC (.int 1)))) (sRet (eTup (aCons (eVar 0) (aCons (eOp (gI gShrI) (eVar 1) (eVar 3)) (aCons (eOp gAdd (eVar 2) (eVar 3)) aNil)))))))
def m__law_odd : List D → S → R D := fnM 4 G__law_odd
theorem ok__law_odd {P : Program} {w : World} {K : PySem.W.Frag} {mg : Str → Option Value} {base : Heap} {Tb : List (Addr × Str)} {f : Addr} {fd : FuncData} (F : Fun K "_law_odd" "_law_odd" s__law_odd f fd) : FnOk P w K mg base (L2N.CX P w) 1 f fd ["sign", "m", "power"] (spM P w K mg base Tb 3 m__law_odd) := by
  refine def_fn F sc__law_odd fun st hT cdv A outer s H E hr => ?_
  subst hT
  have px := cx_passes (P := P) (w := w) (K := K) (mg := mg) (base := base) (N := N__law_odd) (qual := "_law_odd") (stm := s__law_odd) (f := f) (cdv := cdv) (A := A) (outer := outer) (s := s) (H := H) (E := E)
  exact (sd_cons (s_if (td_cmp (opd_eq (hu64 hr)) (ed_var 1) ed_int (nomark _)) (sd_one (s_ret (ed_tup (ad_cons (ed_var 0) (ad_cons ed_int (ad_cons ed_int ad_nil)))))) sd_nil) (sd_cons (s_set 3 sc__law_odd.nd (ed_op opd_sub (ed_bits (ed_op opd_and (ed_var 1) (ed_op opd_sub ed_int (ed_var 1)))) ed_int)) (sd_one (s_ret (ed_tup (ad_cons (ed_var 0) (ad_cons (ed_op opd_shr (ed_var 1) (ed_var 3)) (ad_cons (ed_op opd_add (ed_var 2) (ed_var 3)) ad_nil))))))))
abbrev s__law_tiny_form : Stmt := topS 95
abbrev N__law_tiny_form : List Str := ["store", "p", "lo"]
theorem sc__law_tiny_form : FnScope N__law_tiny_form ["store"] (defScope s__law_tiny_form) := ⟨rfl, rfl, rfl, by decide +kernel, rfl, by decide +kernel, by decide +kernel⟩
def G__law_tiny_form : FS := (sSeq (sSet 1 (eOp gAdd (eC (.int 2)) (eApp 2 [] m__law_take (aCons (eVar 0) (aCons (eC (.int 2)) aNil))))) (sSeq (sSet 2 (eOp (gI gSubI) (eApp 2 [] m__law_take (aCons (eVar 0) (aCons (eC (.int 5)) aNil))) (eC (.int 2)))) (sRet (eTup (aCons (eVar 1) (aCons (eVar 2) (aCons (eOp gAdd (eVar 2) (eApp 2 [] m__law_take (aCons (eVar 0) (aCons (eC (.int 4)) aNil)))) aNil)))))))
def m__law_tiny_form : List D → S → R D := fnM 3 G__law_tiny_form
theorem ok__law_tiny_form {P : Program} {w : World} {K : PySem.W.Frag} {mg : Str → Option Value} {base : Heap} {Tb : List (Addr × Str)} {f : Addr} {fd : FuncData} (F : Fun K "_law_tiny_form" "_law_tiny_form" s__law_tiny_form f fd) (k__law_take : DefOk P w K mg base Tb "_law_take" 34 2 [] m__law_take) : FnOk P w K mg base (L2N.CX P w) 35 f fd ["store"] (spM P w K mg base Tb 1 m__law_tiny_form) := by
  refine def_fn F sc__law_tiny_form fun st hT cdv A outer s H E hr => ?_
  subst hT
  have px := cx_passes (P := P) (w := w) (K := K) (mg := mg) (base := base) (N := N__law_tiny_form) (qual := "_law_tiny_form") (stm := s__law_tiny_form) (f := f) (cdv := cdv) (A := A) (outer := outer) (s := s) (H := H) (E := E)
  exact (sd_cons (s_set 1 sc__law_tiny_form.nd (ed_op opd_add ed_int (ed_call k__law_take (hr.mono (by omega)) px (ad_cons (ed_var 0) (ad_cons ed_int ad_nil))))) (sd_cons (s_set 2 sc__law_tiny_form.nd (ed_op opd_sub (ed_call k__law_take (hr.mono (by omega)) px (ad_cons (ed_var 0) (ad_cons ed_int ad_nil))) ed_int)) (sd_one (s_ret (ed_tup (ad_cons (ed_var 1) (ad_cons (ed_var 2) (ad_cons (ed_op opd_add (ed_var 2) (ed_call k__law_take (hr.mono (by omega)) px (ad_cons (ed_var 0) (ad_cons ed_int ad_nil)))) ad_nil))))))))
abbrev s__law_wide_form : Stmt := topS 96
abbrev N__law_wide_form : List Str := ["store", "p", "lo"]
theorem sc__law_wide_form : FnScope N__law_wide_form ["store"] (defScope s__law_wide_form) := ⟨rfl, rfl, rfl, by decide +kernel, rfl, by decide +kernel, by decide +kernel⟩
def G__law_wide_form : FS := (sSeq (sSet 1 (eApp 3 [] m__law_edge (aCons (eVar 0) (aCons (eC (.int 2)) (aCons (eC (.int 140)) aNil))))) (sSeq (sSet 2 (eApp 3 [] m__law_edge (aCons (eVar 0) (aCons (eUn gNeg (eC (.int 600))) (aCons (eC (.int 600)) aNil))))) (sRet (eTup (aCons (eVar 1) (aCons (eVar 2) (aCons (eApp 3 [] m__law_edge (aCons (eVar 0) (aCons (eVar 2) (aCons (eC (.int 600)) aNil)))) aNil)))))))
def m__law_wide_form : List D → S → R D := fnM 3 G__law_wide_form
theorem ok__law_wide_form {P : Program} {w : World} {K : PySem.W.Frag} {mg : Str → Option Value} {base : Heap} {Tb : List (Addr × Str)} {f : Addr} {fd : FuncData} (F : Fun K "_law_wide_form" "_law_wide_form" s__law_wide_form f fd) (k__law_edge : DefOk P w K mg base Tb "_law_edge" 35 3 [] m__law_edge) : FnOk P w K mg base (L2N.CX P w) 36 f fd ["store"] (spM P w K mg base Tb 1 m__law_wide_form) := by
  refine def_fn F sc__law_wide_form fun st hT cdv A outer s H E hr => ?_
  subst hT
  have px := cx_passes (P := P) (w := w) (K := K) (mg := mg) (base := base) (N := N__law_wide_form) (qual := "_law_wide_form") (stm := s__law_wide_form) (f := f) (cdv := cdv) (A := A) (outer := outer) (s := s) (H := H) (E := E)
  exact (sd_cons (s_set 1 sc__law_wide_form.nd (ed_call k__law_edge (hr.mono (by omega)) px (ad_cons (ed_var 0) (ad_cons ed_int (ad_cons ed_int ad_nil))))) (sd_cons (s_set 2 sc__law_wide_form.nd (ed_call k__law_edge (hr.mono (by omega)) px (ad_cons (ed_var 0) (ad_cons (ed_neg ed_int) (ad_cons ed_int ad_nil))))) (sd_one (s_ret (ed_tup (ad_cons (ed_var 1) (ad_cons (ed_var 2) (ad_cons (ed_call k__law_edge (hr.mono (by omega)) px (ad_cons (ed_var 0) (ad_cons (ed_var 2) (ad_cons ed_int ad_nil)))) ad_nil))))))))
abbrev s__law_loose : Stmt := topS 97
abbrev N__law_loose : List Str := ["store", "most", "reach", "sign", "m"]
theorem sc__law_loose : FnScope N__law_loose ["store", "most", "reach"] (defScope s__law_loose) := ⟨rfl, rfl, rfl, by decide +kernel, rfl, by decide +kernel, by decide +kernel⟩
def G__law_loose : FS := (sSeq (sSet 3 (eApp 2 [] m__law_take (aCons (eVar 0) (aCons (eC (.int 2)) aNil)))) (sSeq (sSet 4 (eOp gAdd (eOp (gI gMulI) (eC (.int 2)) (eApp 2 [] m__law_scaled (aCons (eVar 0) (aCons (eOp (gI gSubI) (eVar 1) (eC (.int 1))) aNil)))) (eC (.int 1)))) (sRet (eTup (aCons (eVar 3) (aCons (eVar 4) (aCons (eApp 3 [] m__law_edge (aCons (eVar 0) (aCons (eOp (gI gSubI) (eC (.int 0)) (eVar 2)) (aCons (eVar 2) aNil)))) aNil)))))))
def m__law_loose : List D → S → R D := fnM 5 G__law_loose
theorem ok__law_loose {P : Program} {w : World} {K : PySem.W.Frag} {mg : Str → Option Value} {base : Heap} {Tb : List (Addr × Str)} {f : Addr} {fd : FuncData} (F : Fun K "_law_loose" "_law_loose" s__law_loose f fd) (k__law_edge : DefOk P w K mg base Tb "_law_edge" 35 3 [] m__law_edge) (k__law_scaled : DefOk P w K mg base Tb "_law_scaled" 35 2 [] m__law_scaled) (k__law_take : DefOk P w K mg base Tb "_law_take" 34 2 [] m__law_take) : FnOk P w K mg base (L2N.CX P w) 36 f fd ["store", "most", "reach"] (spM P w K mg base Tb 3 m__law_loose) := by
  refine def_fn F sc__law_loose fun st hT cdv A outer s H E hr => ?_
  subst hT
  have px := cx_passes (P := P) (w := w) (K := K) (mg := mg) (base := base) (N := N__law_loose) (qual := "_law_loose") (stm := s__law_loose) (f := f) (cdv := cdv) (A := A) (outer := outer) (s := s) (H := H) (E := E)
  exact (sd_cons (s_set 3 sc__law_loose.nd (ed_call k__law_take (hr.mono (by omega)) px (ad_cons (ed_var 0) (ad_cons ed_int ad_nil)))) (sd_cons (s_set 4 sc__law_loose.nd (ed_op opd_add (ed_op opd_mul ed_int (ed_call k__law_scaled (hr.mono (by omega)) px (ad_cons (ed_var 0) (ad_cons (ed_op opd_sub (ed_var 1) ed_int) ad_nil)))) ed_int)) (sd_one (s_ret (ed_tup (ad_cons (ed_var 3) (ad_cons (ed_var 4) (ad_cons (ed_call k__law_edge (hr.mono (by omega)) px (ad_cons (ed_var 0) (ad_cons (ed_op opd_sub ed_int (ed_var 2)) (ad_cons (ed_var 2) ad_nil)))) ad_nil))))))))
abbrev s__law_number : Stmt := topS 98
abbrev N__law_number : List Str := ["store", "kind"]
theorem sc__law_number : FnScope N__law_number ["store"] (defScope s__law_number) := ⟨rfl, rfl, rfl, by decide +kernel, rfl, by decide +kernel, by decide +kernel⟩
def G__law_number : FS := (sSeq (sSet 1 (eApp 2 [] m__law_take (aCons (eVar 0) (aCons (eC (.int 16)) aNil)))) (sSeq (sIf (tCmp gEq (eVar 1) (eC (.int 0))) (sRet (eTup (aCons (eC (.int 0)) (aCons (eUn gNeg (eC (.int 2))) (aCons (eC (.int 0)) aNil))))) sNil) (sSeq (sIf (tCmp gEq (eVar 1) (eC (.int 1))) (sRet (eTup (aCons (eApp 2 [] m__law_take (aCons (eVar 0) (aCons (eC (.int 2)) aNil))) (aCons (eUn gNeg (eC (.int 1))) (aCons (eC (.int 0)) aNil))))) sNil) (sSeq (sIf (tCmp gLt (eVar 1) (eC (.int 4))) (sRet (eTup (aCons (eApp 2 [] m__law_take (aCons (eVar 0) (aCons (eC (.int 2)) aNil))) (aCons (eC (.int 0)) (aCons (eC (.int 0)) aNil))))) sNil) (sSeq (sIf (tCmp gLt (eVar 1) (eC (.int 10))) (sRet (eApp 3 [] m__law_loose (aCons (eVar 0) (aCons (eC (.int 6)) (aCons (eC (.int 6)) aNil))))) sNil) (sSeq (sIf (tCmp gLt (eVar 1) (eC (.int 14))) (sRet (eApp 3 [] m__law_loose (aCons (eVar 0) (aCons (eC (.int 53)) (aCons (eC (.int 60)) aNil))))) sNil) (sRet (eApp 3 [] m__law_loose (aCons (eVar 0) (aCons (eC (.int 600)) (aCons (eC (.int 2000)) aNil)))))))))))
def m__law_number : List D → S → R D := fnM 2 G__law_number
theorem ok__law_number {P : Program} {w : World} {K : PySem.W.Frag} {mg : Str → Option Value} {base : Heap} {Tb : List (Addr × Str)} {f : Addr} {fd : FuncData} (F : Fun K "_law_number" "_law_number" s__law_number f fd) (k__law_loose : DefOk P w K mg base Tb "_law_loose" 36 3 [] m__law_loose) (k__law_take : DefOk P w K mg base Tb "_law_take" 34 2 [] m__law_take) : FnOk P w K mg base (L2N.CX P w) 37 f fd ["store"] (spM P w K mg base Tb 1 m__law_number) := by
  refine def_fn F sc__law_number fun st hT cdv A outer s H E hr => ?_
  subst hT
  have px := cx_passes (P := P) (w := w) (K := K) (mg := mg) (base := base) (N := N__law_number) (qual := "_law_number") (stm := s__law_number) (f := f) (cdv := cdv) (A := A) (outer := outer) (s := s) (H := H) (E := E)
  exact (sd_cons (s_set 1 sc__law_number.nd (ed_call k__law_take (hr.mono (by omega)) px (ad_cons (ed_var 0) (ad_cons ed_int ad_nil)))) (sd_cons (s_if (td_cmp (opd_eq (hu64 hr)) (ed_var 1) ed_int (nomark _)) (sd_one (s_ret (ed_tup (ad_cons ed_int (ad_cons (ed_neg ed_int) (ad_cons ed_int ad_nil)))))) sd_nil) (sd_cons (s_if (td_cmp (opd_eq (hu64 hr)) (ed_var 1) ed_int (nomark _)) (sd_one (s_ret (ed_tup (ad_cons (ed_call k__law_take (hr.mono (by omega)) px (ad_cons (ed_var 0) (ad_cons ed_int ad_nil))) (ad_cons (ed_neg ed_int) (ad_cons ed_int ad_nil)))))) sd_nil) (sd_cons (s_if (td_cmp opd_lt (ed_var 1) ed_int (nomark _)) (sd_one (s_ret (ed_tup (ad_cons (ed_call k__law_take (hr.mono (by omega)) px (ad_cons (ed_var 0) (ad_cons ed_int ad_nil))) (ad_cons ed_int (ad_cons ed_int ad_nil)))))) sd_nil) (sd_cons (s_if (td_cmp opd_lt (ed_var 1) ed_int (nomark _)) (sd_one (s_ret (ed_call k__law_loose (hr.mono (by omega)) px (ad_cons (ed_var 0) (ad_cons ed_int (ad_cons ed_int ad_nil)))))) sd_nil) (sd_cons (s_if (td_cmp opd_lt (ed_var 1) ed_int (nomark _)) (sd_one (s_ret (ed_call k__law_loose (hr.mono (by omega)) px (ad_cons (ed_var 0) (ad_cons ed_int (ad_cons ed_int ad_nil)))))) sd_nil) (sd_one (s_ret (ed_call k__law_loose (hr.mono (by omega)) px (ad_cons (ed_var 0) (ad_cons ed_int (ad_cons ed_int ad_nil))))))))))))
abbrev s__law_bad_number : Stmt := topS 99
abbrev N__law_bad_number : List Str := ["store", "held", "row"]
theorem sc__law_bad_number : FnScope N__law_bad_number ["store", "held"] (defScope s__law_bad_number) := ⟨rfl, rfl, rfl, by decide +kernel, rfl, by decide +kernel, by decide +kernel⟩
def G__law_bad_number : FS := (sSeq (sOwn 2 (aCons (eLst (aCons (eOp gIx (eVar 1) (eC (.int 0))) (aCons (eOp gIx (eVar 1) (eC (.int 1))) (aCons (eOp gIx (eVar 1) (eC (.int 2))) aNil)))) (aCons (eTup (aCons (eOp gIx (eVar 1) (eC (.int 0))) (aCons (eOp gIx (eVar 1) (eC (.int 1))) aNil))) (aCons (eTup (aCons (eOp gIx (eVar 1) (eC (.int 0))) (aCons (eOp gIx (eVar 1) (eC (.int 1))) (aCons (eOp gIx (eVar 1) (eC (.int 2))) (aCons (eC (.int 0)) aNil))))) (aCons (eTup (aCons (eC (.int 2)) (aCons (eOp gIx (eVar 1) (eC (.int 1))) (aCons (eOp gIx (eVar 1) (eC (.int 2))) aNil)))) aNil))))) (sSeq (sExt 2 (aCons (eTup (aCons (eUn gNeg (eC (.int 1))) (aCons (eOp gIx (eVar 1) (eC (.int 1))) (aCons (eOp gIx (eVar 1) (eC (.int 2))) aNil)))) (aCons (eTup (aCons (eC (.int 0)) (aCons (eC (.int 0)) (aCons (eC (.int 1)) aNil)))) (aCons (eTup (aCons (eC (.int 1)) (aCons (eC (.int 0)) (aCons (eUn gNeg (eC (.int 2001))) aNil)))) (aCons (eTup (aCons (eC (.int 0)) (aCons (eUn gNeg (eC (.int 1))) (aCons (eC (.int 1)) aNil)))) (aCons (eTup (aCons (eC (.int 1)) (aCons (eUn gNeg (eC (.int 2))) (aCons (eC (.int 0)) aNil)))) (aCons (eTup (aCons (eC (.int 0)) (aCons (eUn gNeg (eC (.int 3))) (aCons (eC (.int 0)) aNil)))) (aCons (eTup (aCons (eC (.int 0)) (aCons (eC (.int 2)) (aCons (eC (.int 0)) aNil)))) aNil)))))))) (sSeq (sExt 2 (aCons (eTup (aCons (eC (.int 1)) (aCons (eC (.int 6)) (aCons (eUn gNeg (eC (.int 1))) aNil)))) (aCons (eTup (aCons (eC (.int 0)) (aCons (eOp gAdd (eOp (gI gShlI) (eC (.int 1)) (eC (.int 600))) (eC (.int 1))) (aCons (eC (.int 0)) aNil)))) (aCons (eTup (aCons (eC (.int 0)) (aCons (eC (.int 1)) (aCons (eC (.int 2001)) aNil)))) (aCons (eTup (aCons (eC (.int 0)) (aCons (eC (.int 1)) (aCons (eUn gNeg (eC (.int 2001))) aNil)))) (aCons (eTup (aCons (eC (.int 0)) (aCons (eUn gNeg (eC (.int 5))) (aCons (eC (.int 0)) aNil)))) (aCons (eC .non) (aCons (eC (.str "1p0")) (aCons (eC (.int 1)) (aCons (eC (.int 0)) aNil)))))))))) (sSeq (sApp 2 (eTup (aCons (eApp 1 [] m__law_no_integer (aCons (eVar 0) aNil)) (aCons (eOp gIx (eVar 1) (eC (.int 1))) (aCons (eOp gIx (eVar 1) (eC (.int 2))) aNil))))) (sSeq (sApp 2 (eTup (aCons (eOp gIx (eVar 1) (eC (.int 0))) (aCons (eApp 1 [] m__law_no_integer (aCons (eVar 0) aNil)) (aCons (eOp gIx (eVar 1) (eC (.int 2))) aNil))))) (sSeq (sApp 2 (eTup (aCons (eOp gIx (eVar 1) (eC (.int 0))) (aCons (eOp gIx (eVar 1) (eC (.int 1))) (aCons (eApp 1 [] m__law_no_integer (aCons (eVar 0) aNil)) aNil))))) (sSeq (sExt 2 (aCons (eTup aNil) (aCons (eTup (aCons (eVar 1) aNil)) (aCons (eC (.bl true)) (aCons (eTup (aCons (eC (.int 0)) (aCons (eOp (gI gShlI) (eC (.int 1)) (eC (.int 600))) (aCons (eC (.int 0)) aNil)))) aNil))))) (sFrz 2 (sRet (eOp gIx (eVar 2) (eApp 2 [] m__law_take (aCons (eVar 0) (aCons (eCall gLen (aCons (eVar 2) aNil)) aNil)))))))))))))
def m__law_bad_number : List D → S → R D := fnM 3 G__law_bad_number
theorem ok__law_bad_number {P : Program} {w : World} {K : PySem.W.Frag} {mg : Str → Option Value} {base : Heap} {Tb : List (Addr × Str)} {f : Addr} {fd : FuncData} (F : Fun K "_law_bad_number" "_law_bad_number" s__law_bad_number f fd) (z_len : mg "len" = none) (k__law_no_integer : DefOk P w K mg base Tb "_law_no_integer" 35 1 [] m__law_no_integer) (k__law_take : DefOk P w K mg base Tb "_law_take" 34 2 [] m__law_take) : FnOk P w K mg base (L2N.CX P w) 36 f fd ["store", "held"] (spM P w K mg base Tb 2 m__law_bad_number) := by
  refine def_fn F sc__law_bad_number fun st hT cdv A outer s H E hr => ?_
  subst hT
  have px := cx_passes (P := P) (w := w) (K := K) (mg := mg) (base := base) (N := N__law_bad_number) (qual := "_law_bad_number") (stm := s__law_bad_number) (f := f) (cdv := cdv) (A := A) (outer := outer) (s := s) (H := H) (E := E)
  exact (sd_cons (s_own 2 sc__law_bad_number.nd (ad_cons (ed_lst (ad_cons (ed_ix (ed_var 1) ed_int) (ad_cons (ed_ix (ed_var 1) ed_int) (ad_cons (ed_ix (ed_var 1) ed_int) ad_nil)))) (ad_cons (ed_tup (ad_cons (ed_ix (ed_var 1) ed_int) (ad_cons (ed_ix (ed_var 1) ed_int) ad_nil))) (ad_cons (ed_tup (ad_cons (ed_ix (ed_var 1) ed_int) (ad_cons (ed_ix (ed_var 1) ed_int) (ad_cons (ed_ix (ed_var 1) ed_int) (ad_cons ed_int ad_nil))))) (ad_cons (ed_tup (ad_cons ed_int (ad_cons (ed_ix (ed_var 1) ed_int) (ad_cons (ed_ix (ed_var 1) ed_int) ad_nil)))) ad_nil))))) (sd_cons (s_ext 2 (ad_cons (ed_tup (ad_cons (ed_neg ed_int) (ad_cons (ed_ix (ed_var 1) ed_int) (ad_cons (ed_ix (ed_var 1) ed_int) ad_nil)))) (ad_cons (ed_tup (ad_cons ed_int (ad_cons ed_int (ad_cons ed_int ad_nil)))) (ad_cons (ed_tup (ad_cons ed_int (ad_cons ed_int (ad_cons (ed_neg ed_int) ad_nil)))) (ad_cons (ed_tup (ad_cons ed_int (ad_cons (ed_neg ed_int) (ad_cons ed_int ad_nil)))) (ad_cons (ed_tup (ad_cons ed_int (ad_cons (ed_neg ed_int) (ad_cons ed_int ad_nil)))) (ad_cons (ed_tup (ad_cons ed_int (ad_cons (ed_neg ed_int) (ad_cons ed_int ad_nil)))) (ad_cons (ed_tup (ad_cons ed_int (ad_cons ed_int (ad_cons ed_int ad_nil)))) ad_nil)))))))) (sd_cons (s_ext 2 (ad_cons (ed_tup (ad_cons ed_int (ad_cons ed_int (ad_cons (ed_neg ed_int) ad_nil)))) (ad_cons (ed_tup (ad_cons ed_int (ad_cons (ed_op opd_add (ed_op opd_shl ed_int ed_int) ed_int) (ad_cons ed_int ad_nil)))) (ad_cons (ed_tup (ad_cons ed_int (ad_cons ed_int (ad_cons ed_int ad_nil)))) (ad_cons (ed_tup (ad_cons ed_int (ad_cons ed_int (ad_cons (ed_neg ed_int) ad_nil)))) (ad_cons (ed_tup (ad_cons ed_int (ad_cons (ed_neg ed_int) (ad_cons ed_int ad_nil)))) (ad_cons ed_non (ad_cons ed_str (ad_cons ed_int (ad_cons ed_int ad_nil)))))))))) (sd_cons (s_app 2 (ed_tup (ad_cons (ed_call k__law_no_integer (hr.mono (by omega)) px (ad_cons (ed_var 0) ad_nil)) (ad_cons (ed_ix (ed_var 1) ed_int) (ad_cons (ed_ix (ed_var 1) ed_int) ad_nil))))) (sd_cons (s_app 2 (ed_tup (ad_cons (ed_ix (ed_var 1) ed_int) (ad_cons (ed_call k__law_no_integer (hr.mono (by omega)) px (ad_cons (ed_var 0) ad_nil)) (ad_cons (ed_ix (ed_var 1) ed_int) ad_nil))))) (sd_cons (s_app 2 (ed_tup (ad_cons (ed_ix (ed_var 1) ed_int) (ad_cons (ed_ix (ed_var 1) ed_int) (ad_cons (ed_call k__law_no_integer (hr.mono (by omega)) px (ad_cons (ed_var 0) ad_nil)) ad_nil))))) (sd_cons (s_ext 2 (ad_cons (ed_tup ad_nil) (ad_cons (ed_tup (ad_cons (ed_var 1) ad_nil)) (ad_cons ed_bl (ad_cons (ed_tup (ad_cons ed_int (ad_cons (ed_op opd_shl ed_int ed_int) (ad_cons ed_int ad_nil)))) ad_nil))))) (sd_frz 2 (sd_one (s_ret (ed_ix (ed_var 2) (ed_call k__law_take (hr.mono (by omega)) px (ad_cons (ed_var 0) (ad_cons (ed_callB cd_len (by rfl) z_len (by decide +kernel) (ad_cons (ed_var 2) ad_nil)) ad_nil))))))))))))))
abbrev s__law_step : Stmt := topS 100
abbrev N__law_step : List Str := ["way", "sign", "k", "left", "right"]
theorem sc__law_step : FnScope N__law_step ["way", "sign", "k", "left", "right"] (defScope s__law_step) := ⟨rfl, rfl, rfl, by decide +kernel, rfl, by decide +kernel, by decide +kernel⟩
def G__law_step : FS := (sSeq (sIf (tOr (tCmp gEq (eVar 3) (eC (.int 0))) (tCmp gEq (eVar 0) (eC (.str "zero")))) (sRet (eC (.int 0))) sNil) (sSeq (sIf (tCmp gEq (eVar 0) (eC (.str "up"))) (sRet (eOp (gI gSubI) (eC (.int 1)) (eVar 1))) sNil) (sSeq (sIf (tCmp gEq (eVar 0) (eC (.str "down"))) (sRet (eVar 1)) sNil) (sSeq (sIf (tCmp gEq (eVar 0) (eC (.str "odd"))) (sRet (eOp (gI gSubI) (eC (.int 1)) (eOp (gI gModI) (eCall gInt (aCons (eVar 2) aNil)) (eC (.int 2))))) sNil) (sSeq (sIf (tCmp gNe (eOp (gI gMulI) (eC (.int 2)) (eVar 3)) (eVar 4)) (sRet (eCall gInt (aCons (eOp gGt (eOp (gI gMulI) (eC (.int 2)) (eVar 3)) (eVar 4)) aNil))) sNil) (sSeq (sIf (tCmp gEq (eVar 0) (eC (.str "away"))) (sRet (eC (.int 1))) sNil) (sRet (eOp (gI gModI) (eCall gInt (aCons (eVar 2) aNil)) (eC (.int 2))))))))))
def m__law_step : List D → S → R D := fnM 5 G__law_step
theorem ok__law_step {P : Program} {w : World} {K : PySem.W.Frag} {mg : Str → Option Value} {base : Heap} {Tb : List (Addr × Str)} {f : Addr} {fd : FuncData} (F : Fun K "_law_step" "_law_step" s__law_step f fd) (z_int : mg "int" = none) : FnOk P w K mg base (L2N.CX P w) 1 f fd ["way", "sign", "k", "left", "right"] (spM P w K mg base Tb 5 m__law_step) := by
  refine def_fn F sc__law_step fun st hT cdv A outer s H E hr => ?_
  subst hT
  have px := cx_passes (P := P) (w := w) (K := K) (mg := mg) (base := base) (N := N__law_step) (qual := "_law_step") (stm := s__law_step) (f := f) (cdv := cdv) (A := A) (outer := outer) (s := s) (H := H) (E := E)
  exact (sd_cons (s_if (WD.td (wd_or (td_cmp (opd_eq (hu64 hr)) (ed_var 3) ed_int (nomark _)) (wd_or1 (td_cmp (opd_eq (hu64 hr)) (ed_var 0) ed_str (nomark _))))) (sd_one (s_ret ed_int)) sd_nil) (sd_cons (s_if (td_cmp (opd_eq (hu64 hr)) (ed_var 0) ed_str (nomark _)) (sd_one (s_ret (ed_op opd_sub ed_int (ed_var 1)))) sd_nil) (sd_cons (s_if (td_cmp (opd_eq (hu64 hr)) (ed_var 0) ed_str (nomark _)) (sd_one (s_ret (ed_var 1))) sd_nil) (sd_cons (s_if (td_cmp (opd_eq (hu64 hr)) (ed_var 0) ed_str (nomark _)) (sd_one (s_ret (ed_op opd_sub ed_int (ed_op opd_mod (ed_callTy cd_int (by rfl) z_int (by decide +kernel) (ad_cons (ed_var 2) ad_nil)) ed_int)))) sd_nil) (sd_cons (s_if (td_cmp (opd_ne (hu64 hr)) (ed_op opd_mul ed_int (ed_var 3)) (ed_var 4) (nomark _)) (sd_one (s_ret (ed_callTy cd_int (by rfl) z_int (by decide +kernel) (ad_cons (ed_cmp opd_gt (ed_op opd_mul ed_int (ed_var 3)) (ed_var 4) (nomark _)) ad_nil)))) sd_nil) (sd_cons (s_if (td_cmp (opd_eq (hu64 hr)) (ed_var 0) ed_str (nomark _)) (sd_one (s_ret ed_int)) sd_nil) (sd_one (s_ret (ed_op opd_mod (ed_callTy cd_int (by rfl) z_int (by decide +kernel) (ad_cons (ed_var 2) ad_nil)) ed_int)))))))))
abbrev s__law_round : Stmt := topS 101
abbrev N__law_round : List Str := ["shape", "way", "n", "d", "sign", "left", "e", "u", "right", "k", "chosen", "p", "lo", "hi"]
theorem sc__law_round : FnScope N__law_round ["shape", "way", "n", "d"] (defScope s__law_round) := ⟨rfl, rfl, rfl, by decide +kernel, rfl, by decide +kernel, by decide +kernel⟩
def G__law_round : FS := (sSeq (sTgt (eVar 0) (nTup 3 (nCons (nName 11) (nCons (nName 12) (nCons (nName 13) nNil))))) (sSeq (sSet 4 (eCall gInt (aCons (eOp gLt (eVar 2) (eC (.int 0))) aNil))) (sSeq (sSet 5 (eCall gAbs (aCons (eVar 2) aNil))) (sSeq (sSet 6 (eOp (gI gSubI) (eUn gBits (eVar 5)) (eUn gBits (eVar 3)))) (sSeq (sIf (tCmp gLt (eOp (gI gShlI) (eVar 5) (eCall gMax (aCons (eC (.int 0)) (aCons (eOp (gI gSubI) (eC (.int 0)) (eVar 6)) aNil)))) (eOp (gI gShlI) (eVar 3) (eCall gMax (aCons (eC (.int 0)) (aCons (eVar 6) aNil))))) (sSet 6 (eOp (gI gSubI) (eVar 6) (eC (.int 1)))) sNil) (sSeq (sSet 7 (eCall gMax (aCons (eOp gAdd (eOp (gI gSubI) (eVar 6) (eVar 11)) (eC (.int 1))) (aCons (eVar 12) aNil)))) (sSeq (sSet 5 (eOp (gI gShlI) (eVar 5) (eCall gMax (aCons (eC (.int 0)) (aCons (eOp (gI gSubI) (eC (.int 0)) (eVar 7)) aNil))))) (sSeq (sSet 8 (eOp (gI gShlI) (eVar 3) (eCall gMax (aCons (eC (.int 0)) (aCons (eVar 7) aNil))))) (sSeq (sSet 9 (eOp (gI gDivI) (eVar 5) (eVar 8))) (sSeq (sSet 5 (eOp (gI gSubI) (eVar 5) (eOp (gI gMulI) (eVar 9) (eVar 8)))) (sSeq (sSet 10 (eOp gAdd (eVar 9) (eApp 5 [] m__law_step (aCons (eVar 1) (aCons (eVar 4) (aCons (eVar 9) (aCons (eVar 5) (aCons (eVar 8) aNil)))))))) (sSeq (sIf (tCmp gGe (eVar 10) (eOp (gI gShlI) (eC (.int 1)) (eCall gMax (aCons (eC (.int 0)) (aCons (eOp (gI gSubI) (eOp gAdd (eVar 13) (eVar 11)) (eVar 7)) aNil))))) (sSeq (sIf (tCmp gIn (eVar 1) (eTup (aCons (eC (.str "zero")) (aCons (eC (.str "odd")) (aCons (eOp gIx (eLst (aCons (eC (.str "down")) (aCons (eC (.str "up")) aNil))) (eVar 4)) aNil))))) (sRet (eTup (aCons (eApp 3 [] m__law_odd (aCons (eVar 4) (aCons (eOp (gI gSubI) (eOp (gI gShlI) (eC (.int 1)) (eVar 11)) (eC (.int 1))) (aCons (eVar 13) aNil)))) (aCons (eTup (aCons (eC (.str "overflow")) (aCons (eC (.str "inexact")) aNil))) aNil)))) sNil) (sRet (eTup (aCons (eTup (aCons (eVar 4) (aCons (eUn gNeg (eC (.int 1))) (aCons (eC (.int 0)) aNil)))) (aCons (eTup (aCons (eC (.str "overflow")) (aCons (eC (.str "inexact")) aNil))) aNil))))) sNil) (sSeq (sIf (tCmp gEq (eVar 5) (eC (.int 0))) (sRet (eTup (aCons (eApp 3 [] m__law_odd (aCons (eVar 4) (aCons (eVar 10) (aCons (eVar 7) aNil)))) (aCons (eTup aNil) aNil)))) sNil) (sSeq (sIf (tCmp gLt (eVar 6) (eOp (gI gSubI) (eOp gAdd (eVar 12) (eVar 11)) (eC (.int 1)))) (sRet (eTup (aCons (eApp 3 [] m__law_odd (aCons (eVar 4) (aCons (eVar 10) (aCons (eVar 7) aNil)))) (aCons (eTup (aCons (eC (.str "underflow")) (aCons (eC (.str "inexact")) aNil))) aNil)))) sNil) (sRet (eTup (aCons (eApp 3 [] m__law_odd (aCons (eVar 4) (aCons (eVar 10) (aCons (eVar 7) aNil)))) (aCons (eTup (aCons (eC (.str "inexact")) aNil)) aNil))))))))))))))))))
def m__law_round : List D → S → R D := fnM 14 G__law_round
theorem ok__law_round {P : Program} {w : World} {K : PySem.W.Frag} {mg : Str → Option Value} {base : Heap} {Tb : List (Addr × Str)} {f : Addr} {fd : FuncData} (F : Fun K "_law_round" "_law_round" s__law_round f fd) (z_abs : mg "abs" = none) (z_int : mg "int" = none) (z_max : mg "max" = none) (k__law_odd : DefOk P w K mg base Tb "_law_odd" 1 3 [] m__law_odd) (k__law_step : DefOk P w K mg base Tb "_law_step" 1 5 [] m__law_step) : FnOk P w K mg base (L2N.CX P w) 2 f fd ["shape", "way", "n", "d"] (spM P w K mg base Tb 4 m__law_round) := by
  refine def_fn F sc__law_round fun st hT cdv A outer s H E hr => ?_
  subst hT
  have px := cx_passes (P := P) (w := w) (K := K) (mg := mg) (base := base) (N := N__law_round) (qual := "_law_round") (stm := s__law_round) (f := f) (cdv := cdv) (A := A) (outer := outer) (s := s) (H := H) (E := E)
  exact (sd_cons (s_tgt (ed_var 0) (gd_tup rfl (gd_cons (gd_name 11 sc__law_round.nd) (gd_cons (gd_name 12 sc__law_round.nd) (gd_cons (gd_name 13 sc__law_round.nd) gd_nil))))) (sd_cons (s_set 4 sc__law_round.nd (ed_callTy cd_int (by rfl) z_int (by decide +kernel) (ad_cons (ed_cmp opd_lt (ed_var 2) ed_int (nomark _)) ad_nil))) (sd_cons (s_set 5 sc__law_round.nd (ed_callB cd_abs (by rfl) z_abs (by decide +kernel) (ad_cons (ed_var 2) ad_nil))) (sd_cons (s_set 6 sc__law_round.nd (ed_op opd_sub (ed_bits (ed_var 5)) (ed_bits (ed_var 3)))) (sd_cons (s_if (td_cmp opd_lt (ed_op opd_shl (ed_var 5) (ed_callB (cd_max rfl) (by rfl) z_max (by decide +kernel) (ad_cons ed_int (ad_cons (ed_op opd_sub ed_int (ed_var 6)) ad_nil)))) (ed_op opd_shl (ed_var 3) (ed_callB (cd_max rfl) (by rfl) z_max (by decide +kernel) (ad_cons ed_int (ad_cons (ed_var 6) ad_nil)))) (nomark _)) (sd_one (s_set 6 sc__law_round.nd (ed_op opd_sub (ed_var 6) ed_int))) sd_nil) (sd_cons (s_set 7 sc__law_round.nd (ed_callB (cd_max rfl) (by rfl) z_max (by decide +kernel) (ad_cons (ed_op opd_add (ed_op opd_sub (ed_var 6) (ed_var 11)) ed_int) (ad_cons (ed_var 12) ad_nil)))) (sd_cons (s_set 5 sc__law_round.nd (ed_op opd_shl (ed_var 5) (ed_callB (cd_max rfl) (by rfl) z_max (by decide +kernel) (ad_cons ed_int (ad_cons (ed_op opd_sub ed_int (ed_var 7)) ad_nil))))) (sd_cons (s_set 8 sc__law_round.nd (ed_op opd_shl (ed_var 3) (ed_callB (cd_max rfl) (by rfl) z_max (by decide +kernel) (ad_cons ed_int (ad_cons (ed_var 7) ad_nil))))) (sd_cons (s_set 9 sc__law_round.nd (ed_op opd_div (ed_var 5) (ed_var 8))) (sd_cons (s_set 5 sc__law_round.nd (ed_op opd_sub (ed_var 5) (ed_op opd_mul (ed_var 9) (ed_var 8)))) (sd_cons (s_set 10 sc__law_round.nd (ed_op opd_add (ed_var 9) (ed_call k__law_step (hr.mono (by omega)) px (ad_cons (ed_var 1) (ad_cons (ed_var 4) (ad_cons (ed_var 9) (ad_cons (ed_var 5) (ad_cons (ed_var 8) ad_nil)))))))) (sd_cons (s_if (td_cmp opd_ge (ed_var 10) (ed_op opd_shl ed_int (ed_callB (cd_max rfl) (by rfl) z_max (by decide +kernel) (ad_cons ed_int (ad_cons (ed_op opd_sub (ed_op opd_add (ed_var 13) (ed_var 11)) (ed_var 7)) ad_nil)))) (nomark _)) (sd_cons (s_if (td_cmp opd_in (ed_var 1) (ed_tup (ad_cons ed_str (ad_cons ed_str (ad_cons (ed_ix (ed_lst (ad_cons ed_str (ad_cons ed_str ad_nil))) (ed_var 4)) ad_nil)))) (by rfl)) (sd_one (s_ret (ed_tup (ad_cons (ed_call k__law_odd (hr.mono (by omega)) px (ad_cons (ed_var 4) (ad_cons (ed_op opd_sub (ed_op opd_shl ed_int (ed_var 11)) ed_int) (ad_cons (ed_var 13) ad_nil)))) (ad_cons (ed_tup (ad_cons ed_str (ad_cons ed_str ad_nil))) ad_nil))))) sd_nil) (sd_one (s_ret (ed_tup (ad_cons (ed_tup (ad_cons (ed_var 4) (ad_cons (ed_neg ed_int) (ad_cons ed_int ad_nil)))) (ad_cons (ed_tup (ad_cons ed_str (ad_cons ed_str ad_nil))) ad_nil)))))) sd_nil) (sd_cons (s_if (td_cmp (opd_eq (hu64 hr)) (ed_var 5) ed_int (nomark _)) (sd_one (s_ret (ed_tup (ad_cons (ed_call k__law_odd (hr.mono (by omega)) px (ad_cons (ed_var 4) (ad_cons (ed_var 10) (ad_cons (ed_var 7) ad_nil)))) (ad_cons (ed_tup ad_nil) ad_nil))))) sd_nil) (sd_cons (s_if (td_cmp opd_lt (ed_var 6) (ed_op opd_sub (ed_op opd_add (ed_var 12) (ed_var 11)) ed_int) (nomark _)) (sd_one (s_ret (ed_tup (ad_cons (ed_call k__law_odd (hr.mono (by omega)) px (ad_cons (ed_var 4) (ad_cons (ed_var 10) (ad_cons (ed_var 7) ad_nil)))) (ad_cons (ed_tup (ad_cons ed_str (ad_cons ed_str ad_nil))) ad_nil))))) sd_nil) (sd_one (s_ret (ed_tup (ad_cons (ed_call k__law_odd (hr.mono (by omega)) px (ad_cons (ed_var 4) (ad_cons (ed_var 10) (ad_cons (ed_var 7) ad_nil)))) (ad_cons (ed_tup (ad_cons ed_str ad_nil)) ad_nil)))))))))))))))))))
abbrev s__law_rounded_at : Stmt := topS 102
abbrev N__law_rounded_at : List Str := ["shape", "way", "n", "power"]
theorem sc__law_rounded_at : FnScope N__law_rounded_at ["shape", "way", "n", "power"] (defScope s__law_rounded_at) := ⟨rfl, rfl, rfl, by decide +kernel, rfl, by decide +kernel, by decide +kernel⟩
def G__law_rounded_at : FS := (sRet (eApp 4 [] m__law_round (aCons (eVar 0) (aCons (eVar 1) (aCons (eOp (gI gShlI) (eVar 2) (eCall gMax (aCons (eC (.int 0)) (aCons (eVar 3) aNil)))) (aCons (eOp (gI gShlI) (eC (.int 1)) (eCall gMax (aCons (eC (.int 0)) (aCons (eOp (gI gSubI) (eC (.int 0)) (eVar 3)) aNil)))) aNil))))))
def m__law_rounded_at : List D → S → R D := fnM 4 G__law_rounded_at
theorem ok__law_rounded_at {P : Program} {w : World} {K : PySem.W.Frag} {mg : Str → Option Value} {base : Heap} {Tb : List (Addr × Str)} {f : Addr} {fd : FuncData} (F : Fun K "_law_rounded_at" "_law_rounded_at" s__law_rounded_at f fd) (z_max : mg "max" = none) (k__law_round : DefOk P w K mg base Tb "_law_round" 2 4 [] m__law_round) : FnOk P w K mg base (L2N.CX P w) 3 f fd ["shape", "way", "n", "power"] (spM P w K mg base Tb 4 m__law_rounded_at) := by
  refine def_fn F sc__law_rounded_at fun st hT cdv A outer s H E hr => ?_
  subst hT
  have px := cx_passes (P := P) (w := w) (K := K) (mg := mg) (base := base) (N := N__law_rounded_at) (qual := "_law_rounded_at") (stm := s__law_rounded_at) (f := f) (cdv := cdv) (A := A) (outer := outer) (s := s) (H := H) (E := E)
  exact (sd_one (s_ret (ed_call k__law_round (hr.mono (by omega)) px (ad_cons (ed_var 0) (ad_cons (ed_var 1) (ad_cons (ed_op opd_shl (ed_var 2) (ed_callB (cd_max rfl) (by rfl) z_max (by decide +kernel) (ad_cons ed_int (ad_cons (ed_var 3) ad_nil)))) (ad_cons (ed_op opd_shl ed_int (ed_callB (cd_max rfl) (by rfl) z_max (by decide +kernel) (ad_cons ed_int (ad_cons (ed_op opd_sub ed_int (ed_var 3)) ad_nil)))) ad_nil)))))))
abbrev s__law_refused : Stmt := topS 103
abbrev N__law_refused : List Str := ["action", "word"]
theorem sc__law_refused : FnScope N__law_refused ["action", "word"] (defScope s__law_refused) := ⟨rfl, rfl, rfl, by decide +kernel, rfl, by decide +kernel, by decide +kernel⟩
def G__law_refused : FS := (sRet (eApp 2 [] m__law_same (aCons (eApp 1 [] m__law_caught (aCons (eVar 0) aNil)) (aCons (eTup (aCons (eC (.str "raised")) (aCons (eTup (aCons (eVar 1) aNil)) (aCons (eC .non) aNil)))) aNil))))
def m__law_refused : List D → S → R D := fnM 2 G__law_refused
theorem ok__law_refused {P : Program} {w : World} {K : PySem.W.Frag} {mg : Str → Option Value} {base : Heap} {Tb : List (Addr × Str)} {f : Addr} {fd : FuncData} (F : Fun K "_law_refused" "_law_refused" s__law_refused f fd) (k__law_caught : DefOk P w K mg base Tb "_law_caught" 61 1 [] m__law_caught) (k__law_same : DefOk P w K mg base Tb "_law_same" 10 2 [] m__law_same) : FnOk P w K mg base (L2N.CX P w) 62 f fd ["action", "word"] (spM P w K mg base Tb 2 m__law_refused) := by
  refine def_fn F sc__law_refused fun st hT cdv A outer s H E hr => ?_
  subst hT
  have px := cx_passes (P := P) (w := w) (K := K) (mg := mg) (base := base) (N := N__law_refused) (qual := "_law_refused") (stm := s__law_refused) (f := f) (cdv := cdv) (A := A) (outer := outer) (s := s) (H := H) (E := E)
  exact (sd_one (s_ret (ed_call k__law_same (hr.mono (by omega)) px (ad_cons (ed_call k__law_caught (hr.mono (by omega)) px (ad_cons (ed_var 0) ad_nil)) (ad_cons (ed_tup (ad_cons ed_str (ad_cons (ed_tup (ad_cons (ed_var 1) ad_nil)) (ad_cons ed_non ad_nil)))) ad_nil)))))
abbrev s__law_asked : Stmt := topS 104
abbrev N__law_asked : List Str := ["action", "due", "turn"]
theorem sc__law_asked : FnScope N__law_asked ["action", "due"] (defScope s__law_asked) := ⟨rfl, rfl, rfl, by decide +kernel, rfl, by decide +kernel, by decide +kernel⟩
def G__law_asked : FS := (sSeq (sFor (iRng1 (aCons (eC (.int 2)) aNil)) (nName 2) (sIf (tNot (tTru (eApp 2 [] m__law_same (aCons (eApp 1 [] m__law_caught (aCons (eVar 0) aNil)) (aCons (eTup (aCons (eC (.str "returned")) (aCons (eVar 1) aNil))) aNil))))) (sRet (eC (.bl false))) sNil)) (sRet (eC (.bl true))))
def m__law_asked : List D → S → R D := fnM 3 G__law_asked
theorem ok__law_asked {P : Program} {w : World} {K : PySem.W.Frag} {mg : Str → Option Value} {base : Heap} {Tb : List (Addr × Str)} {f : Addr} {fd : FuncData} (F : Fun K "_law_asked" "_law_asked" s__law_asked f fd) (z_range : mg "range" = none) (k__law_caught : DefOk P w K mg base Tb "_law_caught" 61 1 [] m__law_caught) (k__law_same : DefOk P w K mg base Tb "_law_same" 10 2 [] m__law_same) : FnOk P w K mg base (L2N.CX P w) 62 f fd ["action", "due"] (spM P w K mg base Tb 2 m__law_asked) := by
  refine def_fn F sc__law_asked fun st hT cdv A outer s H E hr => ?_
  subst hT
  have px := cx_passes (P := P) (w := w) (K := K) (mg := mg) (base := base) (N := N__law_asked) (qual := "_law_asked") (stm := s__law_asked) (f := f) (cdv := cdv) (A := A) (outer := outer) (s := s) (H := H) (E := E)
  exact (sd_cons (s_for (passes_of rfl) rfl (id_range1 (ad_cons ed_int ad_nil) z_range) (gd_name 2 sc__law_asked.nd) (sd_one (s_if (td_not (td_tru (ed_call k__law_same (hr.mono (by omega)) px (ad_cons (ed_call k__law_caught (hr.mono (by omega)) px (ad_cons (ed_var 0) ad_nil)) (ad_cons (ed_tup (ad_cons ed_str (ad_cons (ed_var 1) ad_nil))) ad_nil))))) (sd_one (s_ret ed_bl)) sd_nil))) (sd_one (s_ret ed_bl)))
abbrev s__law_operand_pair : Stmt := topS 105
abbrev N__law_operand_pair : List Str := ["store", "kind", "y", "turns", "fine", "held", "x", "wide"]
theorem sc__law_operand_pair : FnScope N__law_operand_pair ["store"] (defScope s__law_operand_pair) := ⟨rfl, rfl, rfl, by decide +kernel, rfl, by decide +kernel, by decide +kernel⟩
def G__law_operand_pair : FS := (sSeq (sSet 1 (eApp 2 [] m__law_take (aCons (eVar 0) (aCons (eC (.int 10)) aNil)))) (sSeq (sIf (tCmp gEq (eVar 1) (eC (.int 0))) (sSeq (sSet 6 (eApp 1 [] m__law_number (aCons (eVar 0) aNil))) (sRet (eTup (aCons (eVar 6) (aCons (eApp 1 [] m__law_number (aCons (eVar 0) aNil)) aNil))))) sNil) (sSeq (sIf (tCmp gLt (eVar 1) (eC (.int 4))) (sSeq (sSet 7 (eOp gIx (eLst (aCons (eTup (aCons (eC (.int 6)) (aCons (eC (.int 6)) aNil))) (aCons (eTup (aCons (eC (.int 53)) (aCons (eC (.int 60)) aNil))) (aCons (eTup (aCons (eC (.int 600)) (aCons (eC (.int 2000)) aNil))) aNil)))) (eOp (gI gSubI) (eVar 1) (eC (.int 1))))) (sSeq (sSet 6 (eApp 3 [] m__law_loose (aCons (eVar 0) (aCons (eOp gIx (eVar 7) (eC (.int 0))) (aCons (eOp gIx (eVar 7) (eC (.int 1))) aNil))))) (sRet (eTup (aCons (eVar 6) (aCons (eApp 3 [] m__law_loose (aCons (eVar 0) (aCons (eOp gIx (eVar 7) (eC (.int 0))) (aCons (eOp gIx (eVar 7) (eC (.int 1))) aNil)))) aNil)))))) sNil) (sSeq (sIf (tCmp gEq (eVar 1) (eC (.int 4))) (sSeq (sSet 6 (eTup (aCons (eApp 2 [] m__law_take (aCons (eVar 0) (aCons (eC (.int 2)) aNil))) (aCons (eOp gAdd (eC (.int 1)) (eOp (gI gMulI) (eC (.int 2)) (eApp 2 [] m__law_take (aCons (eVar 0) (aCons (eC (.int 16)) aNil))))) (aCons (eOp (gI gSubI) (eC (.int 2000)) (eApp 2 [] m__law_take (aCons (eVar 0) (aCons (eC (.int 5)) aNil)))) aNil))))) (sRet (eTup (aCons (eVar 6) (aCons (eTup (aCons (eApp 2 [] m__law_take (aCons (eVar 0) (aCons (eC (.int 2)) aNil))) (aCons (eOp gAdd (eC (.int 1)) (eOp (gI gMulI) (eC (.int 2)) (eApp 2 [] m__law_take (aCons (eVar 0) (aCons (eC (.int 16)) aNil))))) (aCons (eOp (gI gSubI) (eC (.int 2000)) (eApp 2 [] m__law_take (aCons (eVar 0) (aCons (eC (.int 5)) aNil)))) aNil)))) aNil))))) sNil) (sSeq (sIf (tCmp gEq (eVar 1) (eC (.int 5))) (sSeq (sSet 6 (eApp 3 [] m__law_loose (aCons (eVar 0) (aCons (eC (.int 600)) (aCons (eC (.int 2000)) aNil))))) (sRet (eTup (aCons (eVar 6) (aCons (eApp 3 [] m__law_loose (aCons (eVar 0) (aCons (eC (.int 8)) (aCons (eC (.int 8)) aNil)))) aNil))))) sNil) (sSeq (sSet 2 (eApp 3 [] m__law_loose (aCons (eVar 0) (aCons (eC (.int 53)) (aCons (eC (.int 60)) aNil))))) (sSeq (sSet 3 (eOp gAdd (eOp (gI gMulI) (eC (.int 2)) (eApp 2 [] m__law_scaled (aCons (eVar 0) (aCons (eOp gIx (eLst (aCons (eC (.int 4)) (aCons (eC (.int 40)) (aCons (eC (.int 500)) aNil)))) (eApp 2 [] m__law_take (aCons (eVar 0) (aCons (eC (.int 3)) aNil)))) aNil)))) (eApp 2 [] m__law_take (aCons (eVar 0) (aCons (eC (.int 2)) aNil))))) (sSeq (sSet 4 (eApp 2 [] m__law_take (aCons (eVar 0) (aCons (eC (.int 30)) aNil)))) (sSeq (sSet 5 (eOp (gI gSubI) (eOp gAdd (eOp (gI gShlI) (eOp (gI gMulI) (eOp gIx (eVar 2) (eC (.int 1))) (eVar 3)) (eVar 4)) (eApp 2 [] m__law_take (aCons (eVar 0) (aCons (eC (.int 3)) aNil)))) (eC (.int 1)))) (sRet (eTup (aCons (eApp 3 [] m__law_odd (aCons (eApp 2 [] m__law_take (aCons (eVar 0) (aCons (eC (.int 2)) aNil))) (aCons (eCall gAbs (aCons (eVar 5) aNil)) (aCons (eOp (gI gSubI) (eOp (gI gSubI) (eOp gIx (eVar 2) (eC (.int 2))) (eC (.int 1))) (eVar 4)) aNil)))) (aCons (eVar 2) aNil)))))))))))))
def m__law_operand_pair : List D → S → R D := fnM 8 G__law_operand_pair
theorem ok__law_operand_pair {P : Program} {w : World} {K : PySem.W.Frag} {mg : Str → Option Value} {base : Heap} {Tb : List (Addr × Str)} {f : Addr} {fd : FuncData} (F : Fun K "_law_operand_pair" "_law_operand_pair" s__law_operand_pair f fd) (z_abs : mg "abs" = none) (k__law_loose : DefOk P w K mg base Tb "_law_loose" 36 3 [] m__law_loose) (k__law_number : DefOk P w K mg base Tb "_law_number" 37 1 [] m__law_number) (k__law_odd : DefOk P w K mg base Tb "_law_odd" 1 3 [] m__law_odd) (k__law_scaled : DefOk P w K mg base Tb "_law_scaled" 35 2 [] m__law_scaled) (k__law_take : DefOk P w K mg base Tb "_law_take" 34 2 [] m__law_take) : FnOk P w K mg base (L2N.CX P w) 38 f fd ["store"] (spM P w K mg base Tb 1 m__law_operand_pair) := by
  refine def_fn F sc__law_operand_pair fun st hT cdv A outer s H E hr => ?_
  subst hT
  have px := cx_passes (P := P) (w := w) (K := K) (mg := mg) (base := base) (N := N__law_operand_pair) (qual := "_law_operand_pair") (stm := s__law_operand_pair) (f := f) (cdv := cdv) (A := A) (outer := outer) (s := s) (H := H) (E := E)
  exact (sd_cons (s_set 1 sc__law_operand_pair.nd (ed_call k__law_take (hr.mono (by omega)) px (ad_cons (ed_var 0) (ad_cons ed_int ad_nil)))) (sd_cons (s_if (td_cmp (opd_eq (hu64 hr)) (ed_var 1) ed_int (nomark _)) (sd_cons (s_set 6 sc__law_operand_pair.nd (ed_call k__law_number (hr.mono (by omega)) px (ad_cons (ed_var 0) ad_nil))) (sd_one (s_ret (ed_tup (ad_cons (ed_var 6) (ad_cons (ed_call k__law_number (hr.mono (by omega)) px (ad_cons (ed_var 0) ad_nil)) ad_nil)))))) sd_nil) (sd_cons (s_if (td_cmp opd_lt (ed_var 1) ed_int (nomark _)) (sd_cons (s_set 7 sc__law_operand_pair.nd (ed_ix (ed_lst (ad_cons (ed_tup (ad_cons ed_int (ad_cons ed_int ad_nil))) (ad_cons (ed_tup (ad_cons ed_int (ad_cons ed_int ad_nil))) (ad_cons (ed_tup (ad_cons ed_int (ad_cons ed_int ad_nil))) ad_nil)))) (ed_op opd_sub (ed_var 1) ed_int))) (sd_cons (s_set 6 sc__law_operand_pair.nd (ed_call k__law_loose (hr.mono (by omega)) px (ad_cons (ed_var 0) (ad_cons (ed_ix (ed_var 7) ed_int) (ad_cons (ed_ix (ed_var 7) ed_int) ad_nil))))) (sd_one (s_ret (ed_tup (ad_cons (ed_var 6) (ad_cons (ed_call k__law_loose (hr.mono (by omega)) px (ad_cons (ed_var 0) (ad_cons (ed_ix (ed_var 7) ed_int) (ad_cons (ed_ix (ed_var 7) ed_int) ad_nil)))) ad_nil))))))) sd_nil) (sd_cons (s_if (td_cmp (opd_eq (hu64 hr)) (ed_var 1) ed_int (nomark _)) (sd_cons (s_set 6 sc__law_operand_pair.nd (ed_tup (ad_cons (ed_call k__law_take (hr.mono (by omega)) px (ad_cons (ed_var 0) (ad_cons ed_int ad_nil))) (ad_cons (ed_op opd_add ed_int (ed_op opd_mul ed_int (ed_call k__law_take (hr.mono (by omega)) px (ad_cons (ed_var 0) (ad_cons ed_int ad_nil))))) (ad_cons (ed_op opd_sub ed_int (ed_call k__law_take (hr.mono (by omega)) px (ad_cons (ed_var 0) (ad_cons ed_int ad_nil)))) ad_nil))))) (sd_one (s_ret (ed_tup (ad_cons (ed_var 6) (ad_cons (ed_tup (ad_cons (ed_call k__law_take (hr.mono (by omega)) px (ad_cons (ed_var 0) (ad_cons ed_int ad_nil))) (ad_cons (ed_op opd_add ed_int (ed_op opd_mul ed_int (ed_call k__law_take (hr.mono (by omega)) px (ad_cons (ed_var 0) (ad_cons ed_int ad_nil))))) (ad_cons (ed_op opd_sub ed_int (ed_call k__law_take (hr.mono (by omega)) px (ad_cons (ed_var 0) (ad_cons ed_int ad_nil)))) ad_nil)))) ad_nil)))))) sd_nil) (sd_cons (s_if (td_cmp (opd_eq (hu64 hr)) (ed_var 1) ed_int (nomark _)) (sd_cons (s_set 6 sc__law_operand_pair.nd (ed_call k__law_loose (hr.mono (by omega)) px (ad_cons (ed_var 0) (ad_cons ed_int (ad_cons ed_int ad_nil))))) (sd_one (s_ret (ed_tup (ad_cons (ed_var 6) (ad_cons (ed_call k__law_loose (hr.mono (by omega)) px (ad_cons (ed_var 0) (ad_cons ed_int (ad_cons ed_int ad_nil)))) ad_nil)))))) sd_nil) (sd_cons (s_set 2 sc__law_operand_pair.nd (ed_call k__law_loose (hr.mono (by omega)) px (ad_cons (ed_var 0) (ad_cons ed_int (ad_cons ed_int ad_nil))))) (sd_cons (s_set 3 sc__law_operand_pair.nd (ed_op opd_add (ed_op opd_mul ed_int (ed_call k__law_scaled (hr.mono (by omega)) px (ad_cons (ed_var 0) (ad_cons (ed_ix (ed_lst (ad_cons ed_int (ad_cons ed_int (ad_cons ed_int ad_nil)))) (ed_call k__law_take (hr.mono (by omega)) px (ad_cons (ed_var 0) (ad_cons ed_int ad_nil)))) ad_nil)))) (ed_call k__law_take (hr.mono (by omega)) px (ad_cons (ed_var 0) (ad_cons ed_int ad_nil))))) (sd_cons (s_set 4 sc__law_operand_pair.nd (ed_call k__law_take (hr.mono (by omega)) px (ad_cons (ed_var 0) (ad_cons ed_int ad_nil)))) (sd_cons (s_set 5 sc__law_operand_pair.nd (ed_op opd_sub (ed_op opd_add (ed_op opd_shl (ed_op opd_mul (ed_ix (ed_var 2) ed_int) (ed_var 3)) (ed_var 4)) (ed_call k__law_take (hr.mono (by omega)) px (ad_cons (ed_var 0) (ad_cons ed_int ad_nil)))) ed_int)) (sd_one (s_ret (ed_tup (ad_cons (ed_call k__law_odd (hr.mono (by omega)) px (ad_cons (ed_call k__law_take (hr.mono (by omega)) px (ad_cons (ed_var 0) (ad_cons ed_int ad_nil))) (ad_cons (ed_callB cd_abs (by rfl) z_abs (by decide +kernel) (ad_cons (ed_var 5) ad_nil)) (ad_cons (ed_op opd_sub (ed_op opd_sub (ed_ix (ed_var 2) ed_int) ed_int) (ed_var 4)) ad_nil)))) (ad_cons (ed_var 2) ad_nil))))))))))))))
abbrev s__law_division : Stmt := topS 106
abbrev N__law_division : List Str := ["x", "y", "base", "left", "right", "k"]
theorem sc__law_division : FnScope N__law_division ["x", "y"] (defScope s__law_division) := ⟨rfl, rfl, rfl, by decide +kernel, rfl, by decide +kernel, by decide +kernel⟩
def G__law_division : FS := (sSeq (sSet 2 (eCall gMin (aCons (eOp gIx (eVar 0) (eC (.int 2))) (aCons (eOp gIx (eVar 1) (eC (.int 2))) aNil)))) (sSeq (sSet 3 (eOp (gI gShlI) (eOp gIx (eVar 0) (eC (.int 1))) (eOp (gI gSubI) (eOp gIx (eVar 0) (eC (.int 2))) (eVar 2)))) (sSeq (sSet 4 (eOp (gI gShlI) (eOp gIx (eVar 1) (eC (.int 1))) (eOp (gI gSubI) (eOp gIx (eVar 1) (eC (.int 2))) (eVar 2)))) (sSeq (sSet 5 (eOp (gI gDivI) (eVar 3) (eVar 4))) (sRet (eTup (aCons (eVar 5) (aCons (eOp (gI gSubI) (eVar 3) (eOp (gI gMulI) (eVar 5) (eVar 4))) (aCons (eVar 4) (aCons (eVar 2) aNil))))))))))
def m__law_division : List D → S → R D := fnM 6 G__law_division
theorem ok__law_division {P : Program} {w : World} {K : PySem.W.Frag} {mg : Str → Option Value} {base : Heap} {Tb : List (Addr × Str)} {f : Addr} {fd : FuncData} (F : Fun K "_law_division" "_law_division" s__law_division f fd) (z_min : mg "min" = none) : FnOk P w K mg base (L2N.CX P w) 1 f fd ["x", "y"] (spM P w K mg base Tb 2 m__law_division) := by
  refine def_fn F sc__law_division fun st hT cdv A outer s H E hr => ?_
  subst hT
  have px := cx_passes (P := P) (w := w) (K := K) (mg := mg) (base := base) (N := N__law_division) (qual := "_law_division") (stm := s__law_division) (f := f) (cdv := cdv) (A := A) (outer := outer) (s := s) (H := H) (E := E)
  exact (sd_cons (s_set 2 sc__law_division.nd (ed_callB (cd_min rfl) (by rfl) z_min (by decide +kernel) (ad_cons (ed_ix (ed_var 0) ed_int) (ad_cons (ed_ix (ed_var 1) ed_int) ad_nil)))) (sd_cons (s_set 3 sc__law_division.nd (ed_op opd_shl (ed_ix (ed_var 0) ed_int) (ed_op opd_sub (ed_ix (ed_var 0) ed_int) (ed_var 2)))) (sd_cons (s_set 4 sc__law_division.nd (ed_op opd_shl (ed_ix (ed_var 1) ed_int) (ed_op opd_sub (ed_ix (ed_var 1) ed_int) (ed_var 2)))) (sd_cons (s_set 5 sc__law_division.nd (ed_op opd_div (ed_var 3) (ed_var 4))) (sd_one (s_ret (ed_tup (ad_cons (ed_var 5) (ad_cons (ed_op opd_sub (ed_var 3) (ed_op opd_mul (ed_var 5) (ed_var 4))) (ad_cons (ed_var 4) (ad_cons (ed_var 2) ad_nil)))))))))))
abbrev s__law_rest_pair : Stmt := topS 107
abbrev N__law_rest_pair : List Str := ["x", "y", "chopped", "k", "left", "right", "base"]
theorem sc__law_rest_pair : FnScope N__law_rest_pair ["x", "y", "chopped"] (defScope s__law_rest_pair) := ⟨rfl, rfl, rfl, by decide +kernel, rfl, by decide +kernel, by decide +kernel⟩
def G__law_rest_pair : FS := (sSeq (sTgt (eApp 2 [] m__law_division (aCons (eVar 0) (aCons (eVar 1) aNil))) (nTup 4 (nCons (nName 3) (nCons (nName 4) (nCons (nName 5) (nCons (nName 6) nNil)))))) (sSeq (sIf (tAnd (tNot (tTru (eVar 2))) (tOr (tCmp gGt (eOp (gI gMulI) (eC (.int 2)) (eVar 4)) (eVar 5)) (tAnd (tCmp gEq (eOp (gI gMulI) (eC (.int 2)) (eVar 4)) (eVar 5)) (tCmp gEq (eOp (gI gModI) (eCall gInt (aCons (eVar 3) aNil)) (eC (.int 2))) (eC (.int 1)))))) (sSet 4 (eOp (gI gSubI) (eVar 4) (eVar 5))) sNil) (sRet (eTup (aCons (eOp (gI gMulI) (eOp (gI gSubI) (eC (.int 1)) (eOp (gI gMulI) (eC (.int 2)) (eOp gIx (eVar 0) (eC (.int 0))))) (eVar 4)) (aCons (eVar 6) aNil))))))
def m__law_rest_pair : List D → S → R D := fnM 7 G__law_rest_pair
theorem ok__law_rest_pair {P : Program} {w : World} {K : PySem.W.Frag} {mg : Str → Option Value} {base : Heap} {Tb : List (Addr × Str)} {f : Addr} {fd : FuncData} (F : Fun K "_law_rest_pair" "_law_rest_pair" s__law_rest_pair f fd) (z_int : mg "int" = none) (k__law_division : DefOk P w K mg base Tb "_law_division" 1 2 [] m__law_division) : FnOk P w K mg base (L2N.CX P w) 2 f fd ["x", "y", "chopped"] (spM P w K mg base Tb 3 m__law_rest_pair) := by
  refine def_fn F sc__law_rest_pair fun st hT cdv A outer s H E hr => ?_
  subst hT
  have px := cx_passes (P := P) (w := w) (K := K) (mg := mg) (base := base) (N := N__law_rest_pair) (qual := "_law_rest_pair") (stm := s__law_rest_pair) (f := f) (cdv := cdv) (A := A) (outer := outer) (s := s) (H := H) (E := E)
  exact (sd_cons (s_tgt (ed_call k__law_division (hr.mono (by omega)) px (ad_cons (ed_var 0) (ad_cons (ed_var 1) ad_nil))) (gd_tup rfl (gd_cons (gd_name 3 sc__law_rest_pair.nd) (gd_cons (gd_name 4 sc__law_rest_pair.nd) (gd_cons (gd_name 5 sc__law_rest_pair.nd) (gd_cons (gd_name 6 sc__law_rest_pair.nd) gd_nil)))))) (sd_cons (s_if (WD.td (wd_and (td_not (td_tru (ed_var 2))) (wd_and1 (WD.td (wd_or (td_cmp opd_gt (ed_op opd_mul ed_int (ed_var 4)) (ed_var 5) (nomark _)) (wd_or1 (WD.td (wd_and (td_cmp (opd_eq (hu64 hr)) (ed_op opd_mul ed_int (ed_var 4)) (ed_var 5) (nomark _)) (wd_and1 (td_cmp (opd_eq (hu64 hr)) (ed_op opd_mod (ed_callTy cd_int (by rfl) z_int (by decide +kernel) (ad_cons (ed_var 3) ad_nil)) ed_int) ed_int (nomark _))))))))))) (sd_one (s_set 4 sc__law_rest_pair.nd (ed_op opd_sub (ed_var 4) (ed_var 5)))) sd_nil) (sd_one (s_ret (ed_tup (ad_cons (ed_op opd_mul (ed_op opd_sub ed_int (ed_op opd_mul ed_int (ed_ix (ed_var 0) ed_int))) (ed_var 4)) (ad_cons (ed_var 6) ad_nil)))))))
abbrev s__law_rest_due : Stmt := topS 108
abbrev N__law_rest_due : List Str := ["x", "y", "chopped", "held", "n", "base"]
theorem sc__law_rest_due : FnScope N__law_rest_due ["x", "y", "chopped"] (defScope s__law_rest_due) := ⟨rfl, rfl, rfl, by decide +kernel, rfl, by decide +kernel, by decide +kernel⟩
def G__law_rest_due : FS := (sSeq (sIf (tOr (tCmp gEq (eOp gIx (eVar 0) (eC (.int 1))) (eUn gNeg (eC (.int 2)))) (tCmp gEq (eOp gIx (eVar 1) (eC (.int 1))) (eUn gNeg (eC (.int 2))))) (sRet (eTup (aCons (eC (.str "returned")) (aCons (eTup (aCons (eTup (aCons (eC (.int 0)) (aCons (eUn gNeg (eC (.int 2))) (aCons (eC (.int 0)) aNil)))) (aCons (eTup aNil) aNil))) aNil)))) sNil) (sSeq (sIf (tOr (tCmp gEq (eOp gIx (eVar 0) (eC (.int 1))) (eUn gNeg (eC (.int 1)))) (tCmp gEq (eOp gIx (eVar 1) (eC (.int 1))) (eC (.int 0)))) (sRet (eTup (aCons (eC (.str "returned")) (aCons (eTup (aCons (eTup (aCons (eC (.int 0)) (aCons (eUn gNeg (eC (.int 2))) (aCons (eC (.int 0)) aNil)))) (aCons (eTup (aCons (eC (.str "invalid")) aNil)) aNil))) aNil)))) sNil) (sSeq (sIf (tOr (tCmp gEq (eOp gIx (eVar 1) (eC (.int 1))) (eUn gNeg (eC (.int 1)))) (tCmp gEq (eOp gIx (eVar 0) (eC (.int 1))) (eC (.int 0)))) (sRet (eTup (aCons (eC (.str "returned")) (aCons (eTup (aCons (eVar 0) (aCons (eTup aNil) aNil))) aNil)))) sNil) (sSeq (sTgt (eApp 3 [] m__law_rest_pair (aCons (eVar 0) (aCons (eVar 1) (aCons (eVar 2) aNil)))) (nTup 2 (nCons (nName 4) (nCons (nName 5) nNil)))) (sSeq (sIf (tCmp gEq (eVar 4) (eC (.int 0))) (sRet (eTup (aCons (eC (.str "returned")) (aCons (eTup (aCons (eTup (aCons (eOp gIx (eVar 0) (eC (.int 0))) (aCons (eC (.int 0)) (aCons (eC (.int 0)) aNil)))) (aCons (eTup aNil) aNil))) aNil)))) sNil) (sSeq (sSet 3 (eApp 3 [] m__law_odd (aCons (eCall gInt (aCons (eOp gLt (eVar 4) (eC (.int 0))) aNil)) (aCons (eCall gAbs (aCons (eVar 4) aNil)) (aCons (eVar 5) aNil))))) (sSeq (sIf (tCmp gGt (eOp gIx (eVar 3) (eC (.int 2))) (eC (.int 2000))) (sRet (eTup (aCons (eC (.str "raised")) (aCons (eTup (aCons (eC (.str "BadNumber")) aNil)) (aCons (eC .non) aNil))))) sNil) (sRet (eTup (aCons (eC (.str "returned")) (aCons (eTup (aCons (eVar 3) (aCons (eTup aNil) aNil))) aNil)))))))))))
def m__law_rest_due : List D → S → R D := fnM 6 G__law_rest_due
theorem ok__law_rest_due {P : Program} {w : World} {K : PySem.W.Frag} {mg : Str → Option Value} {base : Heap} {Tb : List (Addr × Str)} {f : Addr} {fd : FuncData} (F : Fun K "_law_rest_due" "_law_rest_due" s__law_rest_due f fd) (z_abs : mg "abs" = none) (z_int : mg "int" = none) (k__law_odd : DefOk P w K mg base Tb "_law_odd" 1 3 [] m__law_odd) (k__law_rest_pair : DefOk P w K mg base Tb "_law_rest_pair" 2 3 [] m__law_rest_pair) : FnOk P w K mg base (L2N.CX P w) 3 f fd ["x", "y", "chopped"] (spM P w K mg base Tb 3 m__law_rest_due) := by
  refine def_fn F sc__law_rest_due fun st hT cdv A outer s H E hr => ?_
  subst hT
  have px := cx_passes (P := P) (w := w) (K := K) (mg := mg) (base := base) (N := N__law_rest_due) (qual := "_law_rest_due") (stm := s__law_rest_due) (f := f) (cdv := cdv) (A := A) (outer := outer) (s := s) (H := H) (E := E)
  exact (sd_cons (s_if (WD.td (wd_or (td_cmp (opd_eq (hu64 hr)) (ed_ix (ed_var 0) ed_int) (ed_neg ed_int) (nomark _)) (wd_or1 (td_cmp (opd_eq (hu64 hr)) (ed_ix (ed_var 1) ed_int) (ed_neg ed_int) (nomark _))))) (sd_one (s_ret (ed_tup (ad_cons ed_str (ad_cons (ed_tup (ad_cons (ed_tup (ad_cons ed_int (ad_cons (ed_neg ed_int) (ad_cons ed_int ad_nil)))) (ad_cons (ed_tup ad_nil) ad_nil))) ad_nil))))) sd_nil) (sd_cons (s_if (WD.td (wd_or (td_cmp (opd_eq (hu64 hr)) (ed_ix (ed_var 0) ed_int) (ed_neg ed_int) (nomark _)) (wd_or1 (td_cmp (opd_eq (hu64 hr)) (ed_ix (ed_var 1) ed_int) ed_int (nomark _))))) (sd_one (s_ret (ed_tup (ad_cons ed_str (ad_cons (ed_tup (ad_cons (ed_tup (ad_cons ed_int (ad_cons (ed_neg ed_int) (ad_cons ed_int ad_nil)))) (ad_cons (ed_tup (ad_cons ed_str ad_nil)) ad_nil))) ad_nil))))) sd_nil) (sd_cons (s_if (WD.td (wd_or (td_cmp (opd_eq (hu64 hr)) (ed_ix (ed_var 1) ed_int) (ed_neg ed_int) (nomark _)) (wd_or1 (td_cmp (opd_eq (hu64 hr)) (ed_ix (ed_var 0) ed_int) ed_int (nomark _))))) (sd_one (s_ret (ed_tup (ad_cons ed_str (ad_cons (ed_tup (ad_cons (ed_var 0) (ad_cons (ed_tup ad_nil) ad_nil))) ad_nil))))) sd_nil) (sd_cons (s_tgt (ed_call k__law_rest_pair (hr.mono (by omega)) px (ad_cons (ed_var 0) (ad_cons (ed_var 1) (ad_cons (ed_var 2) ad_nil)))) (gd_tup rfl (gd_cons (gd_name 4 sc__law_rest_due.nd) (gd_cons (gd_name 5 sc__law_rest_due.nd) gd_nil)))) (sd_cons (s_if (td_cmp (opd_eq (hu64 hr)) (ed_var 4) ed_int (nomark _)) (sd_one (s_ret (ed_tup (ad_cons ed_str (ad_cons (ed_tup (ad_cons (ed_tup (ad_cons (ed_ix (ed_var 0) ed_int) (ad_cons ed_int (ad_cons ed_int ad_nil)))) (ad_cons (ed_tup ad_nil) ad_nil))) ad_nil))))) sd_nil) (sd_cons (s_set 3 sc__law_rest_due.nd (ed_call k__law_odd (hr.mono (by omega)) px (ad_cons (ed_callTy cd_int (by rfl) z_int (by decide +kernel) (ad_cons (ed_cmp opd_lt (ed_var 4) ed_int (nomark _)) ad_nil)) (ad_cons (ed_callB cd_abs (by rfl) z_abs (by decide +kernel) (ad_cons (ed_var 4) ad_nil)) (ad_cons (ed_var 5) ad_nil))))) (sd_cons (s_if (td_cmp opd_gt (ed_ix (ed_var 3) ed_int) ed_int (nomark _)) (sd_one (s_ret (ed_tup (ad_cons ed_str (ad_cons (ed_tup (ad_cons ed_str ad_nil)) (ad_cons ed_non ad_nil)))))) sd_nil) (sd_one (s_ret (ed_tup (ad_cons ed_str (ad_cons (ed_tup (ad_cons (ed_var 3) (ad_cons (ed_tup ad_nil) ad_nil))) ad_nil))))))))))))
abbrev s__law_rests_right : Stmt := topS 109
abbrev N__law_rests_right : List Str := ["x", "y", "near_due", "cut_due", "turn"]
theorem sc__law_rests_right : FnScope N__law_rests_right ["x", "y"] (defScope s__law_rests_right) := ⟨rfl, rfl, rfl, by decide +kernel, rfl, by decide +kernel, by decide +kernel⟩
def G__law_rests_right : FS := (sSeq (sSet 2 (eApp 3 [] m__law_rest_due (aCons (eVar 0) (aCons (eVar 1) (aCons (eC (.bl false)) aNil))))) (sSeq (sSet 3 (eApp 3 [] m__law_rest_due (aCons (eVar 0) (aCons (eVar 1) (aCons (eC (.bl true)) aNil))))) (sSeq (sFor (iRng1 (aCons (eC (.int 2)) aNil)) (nName 4) (sSeq (sIf (tNot (tTru (eApp 2 [] m__law_same (aCons (eLam 1 [] m__law_caught (eApp 2 [] m_rest (aCons (eVar 0) (aCons (eVar 1) aNil))) aNil) (aCons (eVar 2) aNil))))) (sRet (eC (.bl false))) sNil) (sIf (tNot (tTru (eApp 2 [] m__law_same (aCons (eLam 1 [] m__law_caught (eApp 2 [] m_cut_rest (aCons (eVar 0) (aCons (eVar 1) aNil))) aNil) (aCons (eVar 3) aNil))))) (sRet (eC (.bl false))) sNil))) (sRet (eC (.bl true))))))
def m__law_rests_right : List D → S → R D := fnM 5 G__law_rests_right
theorem ok__law_rests_right {P : Program} {w : World} {K : PySem.W.Frag} {mg : Str → Option Value} {base : Heap} {Tb : List (Addr × Str)} {f : Addr} {fd : FuncData} (F : Fun K "_law_rests_right" "_law_rests_right" s__law_rests_right f fd) (z_range : mg "range" = none) (lam : LamK base mg Tb fd "_law_rests_right.<locals>.") (k__law_caught : DefOk P w K mg base Tb "_law_caught" 61 1 [] m__law_caught) (k__law_rest_due : DefOk P w K mg base Tb "_law_rest_due" 3 3 [] m__law_rest_due) (k__law_same : DefOk P w K mg base Tb "_law_same" 10 2 [] m__law_same) (k_cut_rest : DefOk P w K mg base Tb "cut_rest" 6 2 [] m_cut_rest) (k_rest : DefOk P w K mg base Tb "rest" 6 2 [] m_rest) : FnOk P w K mg base (L2N.CX P w) 62 f fd ["x", "y"] (spM P w K mg base Tb 2 m__law_rests_right) := by
  refine def_fnC F sc__law_rests_right fun st hT cdv A outer s H E hcd hr => ?_
  subst hT
  have lk : LamOk (cx P w K mg base N__law_rests_right "_law_rests_right" s__law_rests_right f cdv A outer s H E) st := lam_ok lam (by intro _; rfl) hcd
  have px := cx_passes (P := P) (w := w) (K := K) (mg := mg) (base := base) (N := N__law_rests_right) (qual := "_law_rests_right") (stm := s__law_rests_right) (f := f) (cdv := cdv) (A := A) (outer := outer) (s := s) (H := H) (E := E)
  exact (sd_cons (s_set 2 sc__law_rests_right.nd (ed_call k__law_rest_due (hr.mono (by omega)) px (ad_cons (ed_var 0) (ad_cons (ed_var 1) (ad_cons ed_bl ad_nil))))) (sd_cons (s_set 3 sc__law_rests_right.nd (ed_call k__law_rest_due (hr.mono (by omega)) px (ad_cons (ed_var 0) (ad_cons (ed_var 1) (ad_cons ed_bl ad_nil))))) (sd_cons (s_for (passes_of rfl) rfl (id_range1 (ad_cons ed_int ad_nil) z_range) (gd_name 4 sc__law_rests_right.nd) (sd_cons (s_if (td_not (td_tru (ed_call k__law_same (hr.mono (by omega)) px (ad_cons (ed_lam k__law_caught (hr.mono (by omega)) lk (fun _ => rfl) (lamS_by (sc := defScope s__law_rests_right) (by decide +kernel)) rfl (fun _ _ _ _ _ => rfl) (fun A outer sh H E f c2 hr px => (ed_call k_rest (hr.mono (by omega)) px (ad_cons (ed_var 0) (ad_cons (ed_var 1) ad_nil)))) ad_nil) (ad_cons (ed_var 2) ad_nil))))) (sd_one (s_ret ed_bl)) sd_nil) (sd_one (s_if (td_not (td_tru (ed_call k__law_same (hr.mono (by omega)) px (ad_cons (ed_lam k__law_caught (hr.mono (by omega)) lk (fun _ => rfl) (lamS_by (sc := defScope s__law_rests_right) (by decide +kernel)) rfl (fun _ _ _ _ _ => rfl) (fun A outer sh H E f c2 hr px => (ed_call k_cut_rest (hr.mono (by omega)) px (ad_cons (ed_var 0) (ad_cons (ed_var 1) ad_nil)))) ad_nil) (ad_cons (ed_var 3) ad_nil))))) (sd_one (s_ret ed_bl)) sd_nil)))) (sd_one (s_ret ed_bl)))))
abbrev s__law_quotient : Stmt := topS 110
abbrev N__law_quotient : List Str := ["x", "y", "shared", "power", "n"]
theorem sc__law_quotient : FnScope N__law_quotient ["x", "y"] (defScope s__law_quotient) := ⟨rfl, rfl, rfl, by decide +kernel, rfl, by decide +kernel, by decide +kernel⟩
def G__law_quotient : FS := (sSeq (sIf (tCmp gEq (eOp gIx (eVar 0) (eC (.int 1))) (eC (.int 0))) (sRet (eTup (aCons (eC (.int 0)) (aCons (eC (.int 1)) (aCons (eC (.int 1)) aNil))))) sNil) (sSeq (sSet 2 (eApp 2 [] m__law_common (aCons (eOp gIx (eVar 0) (eC (.int 1))) (aCons (eOp gIx (eVar 1) (eC (.int 1))) aNil)))) (sSeq (sSet 3 (eOp (gI gSubI) (eOp gIx (eVar 0) (eC (.int 2))) (eOp gIx (eVar 1) (eC (.int 2))))) (sSeq (sSet 4 (eOp (gI gShlI) (eOp (gI gDivI) (eOp gIx (eVar 0) (eC (.int 1))) (eVar 2)) (eCall gMax (aCons (eC (.int 0)) (aCons (eVar 3) aNil))))) (sSeq (sIf (tCmp gNe (eOp gIx (eVar 0) (eC (.int 0))) (eOp gIx (eVar 1) (eC (.int 0)))) (sSet 4 (eOp (gI gSubI) (eC (.int 0)) (eVar 4))) sNil) (sRet (eTup (aCons (eVar 4) (aCons (eOp (gI gShlI) (eOp (gI gDivI) (eOp gIx (eVar 1) (eC (.int 1))) (eVar 2)) (eCall gMax (aCons (eC (.int 0)) (aCons (eOp (gI gSubI) (eC (.int 0)) (eVar 3)) aNil)))) (aCons (eC (.int 1)) aNil))))))))))
def m__law_quotient : List D → S → R D := fnM 5 G__law_quotient
theorem ok__law_quotient {P : Program} {w : World} {K : PySem.W.Frag} {mg : Str → Option Value} {base : Heap} {Tb : List (Addr × Str)} {f : Addr} {fd : FuncData} (F : Fun K "_law_quotient" "_law_quotient" s__law_quotient f fd) (z_max : mg "max" = none) (k__law_common : DefOk P w K mg base Tb "_law_common" 1 2 [] m__law_common) : FnOk P w K mg base (L2N.CX P w) 2 f fd ["x", "y"] (spM P w K mg base Tb 2 m__law_quotient) := by
  refine def_fn F sc__law_quotient fun st hT cdv A outer s H E hr => ?_
  subst hT
  have px := cx_passes (P := P) (w := w) (K := K) (mg := mg) (base := base) (N := N__law_quotient) (qual := "_law_quotient") (stm := s__law_quotient) (f := f) (cdv := cdv) (A := A) (outer := outer) (s := s) (H := H) (E := E)
  exact (sd_cons (s_if (td_cmp (opd_eq (hu64 hr)) (ed_ix (ed_var 0) ed_int) ed_int (nomark _)) (sd_one (s_ret (ed_tup (ad_cons ed_int (ad_cons ed_int (ad_cons ed_int ad_nil)))))) sd_nil) (sd_cons (s_set 2 sc__law_quotient.nd (ed_call k__law_common (hr.mono (by omega)) px (ad_cons (ed_ix (ed_var 0) ed_int) (ad_cons (ed_ix (ed_var 1) ed_int) ad_nil)))) (sd_cons (s_set 3 sc__law_quotient.nd (ed_op opd_sub (ed_ix (ed_var 0) ed_int) (ed_ix (ed_var 1) ed_int))) (sd_cons (s_set 4 sc__law_quotient.nd (ed_op opd_shl (ed_op opd_div (ed_ix (ed_var 0) ed_int) (ed_var 2)) (ed_callB (cd_max rfl) (by rfl) z_max (by decide +kernel) (ad_cons ed_int (ad_cons (ed_var 3) ad_nil))))) (sd_cons (s_if (td_cmp (opd_ne (hu64 hr)) (ed_ix (ed_var 0) ed_int) (ed_ix (ed_var 1) ed_int) (nomark _)) (sd_one (s_set 4 sc__law_quotient.nd (ed_op opd_sub ed_int (ed_var 4)))) sd_nil) (sd_one (s_ret (ed_tup (ad_cons (ed_var 4) (ad_cons (ed_op opd_shl (ed_op opd_div (ed_ix (ed_var 1) ed_int) (ed_var 2)) (ed_callB (cd_max rfl) (by rfl) z_max (by decide +kernel) (ad_cons ed_int (ad_cons (ed_op opd_sub ed_int (ed_var 3)) ad_nil)))) (ad_cons ed_int ad_nil)))))))))))
abbrev s__law_road_right : Stmt := topS 111
abbrev N__law_road_right : List Str := ["store", "x", "y", "shape", "way", "due", "where", "turns", "held", "told", "k", "left", "right", "base", "n"]
theorem sc__law_road_right : FnScope N__law_road_right ["store", "x", "y"] (defScope s__law_road_right) := ⟨rfl, rfl, rfl, by decide +kernel, rfl, by decide +kernel, by decide +kernel⟩
def G__law_road_right : FS := (sSeq (sSet 3 (eTup (aCons (eC (.int 140)) (aCons (eUn gNeg (eC (.int 600))) (aCons (eC (.int 600)) aNil))))) (sSeq (sIf (tCmp gEq (eApp 2 [] m__law_take (aCons (eVar 0) (aCons (eC (.int 4)) aNil))) (eC (.int 0))) (sSet 3 (eOp gIx (eLst (aCons (eApp 1 [] m__law_tiny_form (aCons (eVar 0) aNil)) (aCons (eApp 1 [] m__law_wide_form (aCons (eVar 0) aNil)) aNil))) (eApp 2 [] m__law_take (aCons (eVar 0) (aCons (eC (.int 2)) aNil))))) sNil) (sSeq (sSet 4 (eApp 1 [] m__law_mode (aCons (eVar 0) aNil))) (sSeq (sIf (tOr (tCmp gLt (eOp gIx (eVar 1) (eC (.int 1))) (eC (.int 0))) (tCmp gLt (eOp gIx (eVar 2) (eC (.int 1))) (eC (.int 1)))) (sRet (eLam 2 [] m__law_refused (eApp 2 [] m_exact_quotient (aCons (eVar 1) (aCons (eVar 2) aNil))) (aCons (eC (.str "BadNumber")) aNil))) sNil) (sSeq (sSet 5 (eApp 2 [] m__law_quotient (aCons (eVar 1) (aCons (eVar 2) aNil)))) (sSeq (sIf (tNot (tTru (eLam 2 [] m__law_asked (eApp 2 [] m_exact_quotient (aCons (eVar 1) (aCons (eVar 2) aNil))) (aCons (eVar 5) aNil)))) (sRet (eC (.bl false))) sNil) (sSeq (sTgt (eApp 2 [] m__law_division (aCons (eVar 1) (aCons (eVar 2) aNil))) (nTup 4 (nCons (nName 10) (nCons (nName 11) (nCons (nName 12) (nCons (nName 13) nNil)))))) (sSeq (sSet 6 (eOp gAdd (eOp gAdd (eCall gInt (aCons (eOp gGt (eVar 11) (eC (.int 0))) aNil)) (eCall gInt (aCons (eOp gGe (eOp (gI gMulI) (eC (.int 2)) (eVar 11)) (eVar 12)) aNil))) (eCall gInt (aCons (eOp gGt (eOp (gI gMulI) (eC (.int 2)) (eVar 11)) (eVar 12)) aNil)))) (sSeq (sIf (tNot (tTru (eLam 2 [] m__law_asked (eApp 2 [] m_place (aCons (eVar 5) (aCons (eC (.int 0)) aNil))) (aCons (eTup (aCons (eVar 10) (aCons (eVar 6) aNil))) aNil)))) (sRet (eC (.bl false))) sNil) (sSeq (sSet 7 (eOp gAdd (eVar 10) (eCall gInt (aCons (eOr (eOp gEq (eVar 6) (eC (.int 3))) (eAnd (eOp gEq (eVar 6) (eC (.int 2))) (eOp gEq (eOp (gI gModI) (eCall gInt (aCons (eVar 10) aNil)) (eC (.int 2))) (eC (.int 1))))) aNil)))) (sSeq (sIf (tOr (tCmp gEq (eOp gIx (eVar 1) (eC (.int 1))) (eC (.int 0))) (tCmp gGe (eVar 7) (eOp (gI gShlI) (eC (.int 1)) (eC (.int 600))))) (sRet (eC (.bl true))) sNil) (sSeq (sSet 8 (eApp 3 [] m__law_odd (aCons (eOp (gI gSubI) (eC (.int 1)) (eCall gInt (aCons (eOp gNe (eOp gIx (eVar 1) (eC (.int 0))) (eOp gIx (eVar 2) (eC (.int 0)))) aNil))) (aCons (eVar 7) (aCons (eC (.int 0)) aNil))))) (sSeq (sTgt (eApp 3 [] m__law_rest_pair (aCons (eVar 1) (aCons (eVar 2) (aCons (eC (.bl false)) aNil)))) (nTup 2 (nCons (nName 14) (nCons (nName 13) nNil)))) (sSeq (sSet 9 (eTup (aCons (eTup (aCons (eCall gInt (aCons (eOp gEq (eVar 4) (eC (.str "down"))) aNil)) (aCons (eC (.int 0)) (aCons (eC (.int 0)) aNil)))) (aCons (eTup aNil) aNil)))) (sSeq (sIf (tCmp gNe (eVar 14) (eC (.int 0))) (sSet 9 (eApp 4 [] m__law_rounded_at (aCons (eVar 3) (aCons (eVar 4) (aCons (eVar 14) (aCons (eVar 13) aNil)))))) sNil) (sRet (eLam 2 [] m__law_asked (eAppN 5 4 1 [] [] m_muladd (aCons (eVar 3) (aCons (eVar 8) (aCons (eVar 2) (aCons (eVar 1) aNil)))) (aCons (eVar 4) aNil)) (aCons (eVar 9) aNil))))))))))))))))))
def m__law_road_right : List D → S → R D := fnM 15 G__law_road_right
theorem ok__law_road_right {P : Program} {w : World} {K : PySem.W.Frag} {mg : Str → Option Value} {base : Heap} {Tb : List (Addr × Str)} {f : Addr} {fd : FuncData} (F : Fun K "_law_road_right" "_law_road_right" s__law_road_right f fd) (z_int : mg "int" = none) (lam : LamK base mg Tb fd "_law_road_right.<locals>.") (k__law_asked : DefOk P w K mg base Tb "_law_asked" 62 2 [] m__law_asked) (k__law_division : DefOk P w K mg base Tb "_law_division" 1 2 [] m__law_division) (k__law_mode : DefOk P w K mg base Tb "_law_mode" 35 1 [] m__law_mode) (k__law_odd : DefOk P w K mg base Tb "_law_odd" 1 3 [] m__law_odd) (k__law_quotient : DefOk P w K mg base Tb "_law_quotient" 2 2 [] m__law_quotient) (k__law_refused : DefOk P w K mg base Tb "_law_refused" 62 2 [] m__law_refused) (k__law_rest_pair : DefOk P w K mg base Tb "_law_rest_pair" 2 3 [] m__law_rest_pair) (k__law_rounded_at : DefOk P w K mg base Tb "_law_rounded_at" 3 4 [] m__law_rounded_at) (k__law_take : DefOk P w K mg base Tb "_law_take" 34 2 [] m__law_take) (k__law_tiny_form : DefOk P w K mg base Tb "_law_tiny_form" 35 1 [] m__law_tiny_form) (k__law_wide_form : DefOk P w K mg base Tb "_law_wide_form" 36 1 [] m__law_wide_form) (k_exact_quotient : DefOk P w K mg base Tb "exact_quotient" 36 2 [] m_exact_quotient) (k_place : DefOk P w K mg base Tb "place" 35 2 [] m_place) (kk_muladd_mode : DefKw P w K mg base Tb "muladd" 39 5 4 ["mode"] [] [] m_muladd) : FnOk P w K mg base (L2N.CX P w) 63 f fd ["store", "x", "y"] (spM P w K mg base Tb 3 m__law_road_right) := by
  refine def_fnC F sc__law_road_right fun st hT cdv A outer s H E hcd hr => ?_
  subst hT
  have lk : LamOk (cx P w K mg base N__law_road_right "_law_road_right" s__law_road_right f cdv A outer s H E) st := lam_ok lam (by intro _; rfl) hcd
  have px := cx_passes (P := P) (w := w) (K := K) (mg := mg) (base := base) (N := N__law_road_right) (qual := "_law_road_right") (stm := s__law_road_right) (f := f) (cdv := cdv) (A := A) (outer := outer) (s := s) (H := H) (E := E)
  exact (sd_cons (s_set 3 sc__law_road_right.nd (ed_tup (ad_cons ed_int (ad_cons (ed_neg ed_int) (ad_cons ed_int ad_nil))))) (sd_cons (s_if (td_cmp (opd_eq (hu64 hr)) (ed_call k__law_take (hr.mono (by omega)) px (ad_cons (ed_var 0) (ad_cons ed_int ad_nil))) ed_int (nomark _)) (sd_one (s_set 3 sc__law_road_right.nd (ed_ix (ed_lst (ad_cons (ed_call k__law_tiny_form (hr.mono (by omega)) px (ad_cons (ed_var 0) ad_nil)) (ad_cons (ed_call k__law_wide_form (hr.mono (by omega)) px (ad_cons (ed_var 0) ad_nil)) ad_nil))) (ed_call k__law_take (hr.mono (by omega)) px (ad_cons (ed_var 0) (ad_cons ed_int ad_nil)))))) sd_nil) (sd_cons (s_set 4 sc__law_road_right.nd (ed_call k__law_mode (hr.mono (by omega)) px (ad_cons (ed_var 0) ad_nil))) (sd_cons (s_if (WD.td (wd_or (td_cmp opd_lt (ed_ix (ed_var 1) ed_int) ed_int (nomark _)) (wd_or1 (td_cmp opd_lt (ed_ix (ed_var 2) ed_int) ed_int (nomark _))))) (sd_one (s_ret (ed_lam k__law_refused (hr.mono (by omega)) lk (fun _ => rfl) (lamS_by (sc := defScope s__law_road_right) (by decide +kernel)) rfl (fun _ _ _ _ _ => rfl) (fun A outer sh H E f c2 hr px => (ed_call k_exact_quotient (hr.mono (by omega)) px (ad_cons (ed_var 1) (ad_cons (ed_var 2) ad_nil)))) (ad_cons ed_str ad_nil)))) sd_nil) (sd_cons (s_set 5 sc__law_road_right.nd (ed_call k__law_quotient (hr.mono (by omega)) px (ad_cons (ed_var 1) (ad_cons (ed_var 2) ad_nil)))) (sd_cons (s_if (td_not (td_tru (ed_lam k__law_asked (hr.mono (by omega)) lk (fun _ => rfl) (lamS_by (sc := defScope s__law_road_right) (by decide +kernel)) rfl (fun _ _ _ _ _ => rfl) (fun A outer sh H E f c2 hr px => (ed_call k_exact_quotient (hr.mono (by omega)) px (ad_cons (ed_var 1) (ad_cons (ed_var 2) ad_nil)))) (ad_cons (ed_var 5) ad_nil)))) (sd_one (s_ret ed_bl)) sd_nil) (sd_cons (s_tgt (ed_call k__law_division (hr.mono (by omega)) px (ad_cons (ed_var 1) (ad_cons (ed_var 2) ad_nil))) (gd_tup rfl (gd_cons (gd_name 10 sc__law_road_right.nd) (gd_cons (gd_name 11 sc__law_road_right.nd) (gd_cons (gd_name 12 sc__law_road_right.nd) (gd_cons (gd_name 13 sc__law_road_right.nd) gd_nil)))))) (sd_cons (s_set 6 sc__law_road_right.nd (ed_op opd_add (ed_op opd_add (ed_callTy cd_int (by rfl) z_int (by decide +kernel) (ad_cons (ed_cmp opd_gt (ed_var 11) ed_int (nomark _)) ad_nil)) (ed_callTy cd_int (by rfl) z_int (by decide +kernel) (ad_cons (ed_cmp opd_ge (ed_op opd_mul ed_int (ed_var 11)) (ed_var 12) (nomark _)) ad_nil))) (ed_callTy cd_int (by rfl) z_int (by decide +kernel) (ad_cons (ed_cmp opd_gt (ed_op opd_mul ed_int (ed_var 11)) (ed_var 12) (nomark _)) ad_nil)))) (sd_cons (s_if (td_not (td_tru (ed_lam k__law_asked (hr.mono (by omega)) lk (fun _ => rfl) (lamS_by (sc := defScope s__law_road_right) (by decide +kernel)) rfl (fun _ _ _ _ _ => rfl) (fun A outer sh H E f c2 hr px => (ed_call k_place (hr.mono (by omega)) px (ad_cons (ed_var 5) (ad_cons ed_int ad_nil)))) (ad_cons (ed_tup (ad_cons (ed_var 10) (ad_cons (ed_var 6) ad_nil))) ad_nil)))) (sd_one (s_ret ed_bl)) sd_nil) (sd_cons (s_set 7 sc__law_road_right.nd (ed_op opd_add (ed_var 10) (ed_callTy cd_int (by rfl) z_int (by decide +kernel) (ad_cons (ed_or (ed_cmp (opd_eq (hu64 hr)) (ed_var 6) ed_int (nomark _)) (ed_one (ed_and (ed_cmp (opd_eq (hu64 hr)) (ed_var 6) ed_int (nomark _)) (ed_one (ed_cmp (opd_eq (hu64 hr)) (ed_op opd_mod (ed_callTy cd_int (by rfl) z_int (by decide +kernel) (ad_cons (ed_var 10) ad_nil)) ed_int) ed_int (nomark _)))))) ad_nil)))) (sd_cons (s_if (WD.td (wd_or (td_cmp (opd_eq (hu64 hr)) (ed_ix (ed_var 1) ed_int) ed_int (nomark _)) (wd_or1 (td_cmp opd_ge (ed_var 7) (ed_op opd_shl ed_int ed_int) (nomark _))))) (sd_one (s_ret ed_bl)) sd_nil) (sd_cons (s_set 8 sc__law_road_right.nd (ed_call k__law_odd (hr.mono (by omega)) px (ad_cons (ed_op opd_sub ed_int (ed_callTy cd_int (by rfl) z_int (by decide +kernel) (ad_cons (ed_cmp (opd_ne (hu64 hr)) (ed_ix (ed_var 1) ed_int) (ed_ix (ed_var 2) ed_int) (nomark _)) ad_nil))) (ad_cons (ed_var 7) (ad_cons ed_int ad_nil))))) (sd_cons (s_tgt (ed_call k__law_rest_pair (hr.mono (by omega)) px (ad_cons (ed_var 1) (ad_cons (ed_var 2) (ad_cons ed_bl ad_nil)))) (gd_tup rfl (gd_cons (gd_name 14 sc__law_road_right.nd) (gd_cons (gd_name 13 sc__law_road_right.nd) gd_nil)))) (sd_cons (s_set 9 sc__law_road_right.nd (ed_tup (ad_cons (ed_tup (ad_cons (ed_callTy cd_int (by rfl) z_int (by decide +kernel) (ad_cons (ed_cmp (opd_eq (hu64 hr)) (ed_var 4) ed_str (nomark _)) ad_nil)) (ad_cons ed_int (ad_cons ed_int ad_nil)))) (ad_cons (ed_tup ad_nil) ad_nil)))) (sd_cons (s_if (td_cmp (opd_ne (hu64 hr)) (ed_var 14) ed_int (nomark _)) (sd_one (s_set 9 sc__law_road_right.nd (ed_call k__law_rounded_at (hr.mono (by omega)) px (ad_cons (ed_var 3) (ad_cons (ed_var 4) (ad_cons (ed_var 14) (ad_cons (ed_var 13) ad_nil))))))) sd_nil) (sd_one (s_ret (ed_lam k__law_asked (hr.mono (by omega)) lk (fun _ => rfl) (lamS_by (sc := defScope s__law_road_right) (by decide +kernel)) rfl (fun _ _ _ _ _ => rfl) (fun A outer sh H E f c2 hr px => (ed_callN kk_muladd_mode (hr.mono (by omega)) px (ad_cons (ed_var 3) (ad_cons (ed_var 8) (ad_cons (ed_var 2) (ad_cons (ed_var 1) ad_nil)))) (kd_cons (ed_var 4) kd_nil))) (ad_cons (ed_var 9) ad_nil)))))))))))))))))))
abbrev s_law : Stmt := topS 112
abbrev N_law : List Str := ["script", "store", "turn", "bad", "x", "y", "first", "second"]
theorem sc_law : FnScope N_law ["script"] (defScope s_law) := ⟨rfl, rfl, rfl, by decide +kernel, rfl, by decide +kernel, by decide +kernel⟩
def G_law : FS := (sSeq (sSet 1 (eApp 1 [] m__law_store (aCons (eVar 0) aNil))) (sSeq (sFor (iRng1 (aCons (eC (.int 2)) aNil)) (nName 2) (sSeq (sTgt (eApp 1 [] m__law_operand_pair (aCons (eVar 1) aNil)) (nTup 2 (nCons (nName 4) (nCons (nName 5) nNil)))) (sSeq (sIf (tOr (tNot (tTru (eApp 2 [] m__law_rests_right (aCons (eVar 4) (aCons (eVar 5) aNil))))) (tNot (tTru (eApp 3 [] m__law_road_right (aCons (eVar 1) (aCons (eVar 4) (aCons (eVar 5) aNil))))))) (sRet (eC (.bl false))) sNil) (sSeq (sSet 3 (eApp 2 [] m__law_bad_number (aCons (eVar 1) (aCons (eVar 4) aNil)))) (sSeq (sFor (iLst (eLst (aCons (eTup (aCons (eVar 3) (aCons (eVar 5) aNil))) (aCons (eTup (aCons (eVar 4) (aCons (eVar 3) aNil))) (aCons (eTup (aCons (eTup (aCons (eOp gEq (eOp gIx (eVar 4) (eC (.int 0))) (eC (.int 1))) (aCons (eOp gIx (eVar 4) (eC (.int 1))) (aCons (eOp gIx (eVar 4) (eC (.int 2))) aNil)))) (aCons (eVar 5) aNil))) aNil))))) (nTup 2 (nCons (nName 6) (nCons (nName 7) nNil))) (sSeq (sIf (tNot (tTru (eLam 2 [] m__law_refused (eApp 2 [] m_rest (aCons (eVar 6) (aCons (eVar 7) aNil))) (aCons (eC (.str "BadNumber")) aNil)))) (sRet (eC (.bl false))) sNil) (sSeq (sIf (tNot (tTru (eLam 2 [] m__law_refused (eApp 2 [] m_cut_rest (aCons (eVar 6) (aCons (eVar 7) aNil))) (aCons (eC (.str "BadNumber")) aNil)))) (sRet (eC (.bl false))) sNil) (sIf (tNot (tTru (eLam 2 [] m__law_refused (eApp 2 [] m_exact_quotient (aCons (eVar 6) (aCons (eVar 7) aNil))) (aCons (eC (.str "BadNumber")) aNil)))) (sRet (eC (.bl false))) sNil)))) (sIf (tNot (tTru (eApp 2 [] m__law_rests_right (aCons (eVar 4) (aCons (eVar 5) aNil))))) (sRet (eC (.bl false))) sNil)))))) (sRet (eC (.bl true)))))
def m_law : List D → S → R D := fnM 8 G_law
theorem ok_law {P : Program} {w : World} {K : PySem.W.Frag} {mg : Str → Option Value} {base : Heap} {Tb : List (Addr × Str)} {f : Addr} {fd : FuncData} (F : Fun K "law" "law" s_law f fd) (z_range : mg "range" = none) (lam : LamK base mg Tb fd "law.<locals>.") (k__law_bad_number : DefOk P w K mg base Tb "_law_bad_number" 36 2 [] m__law_bad_number) (k__law_operand_pair : DefOk P w K mg base Tb "_law_operand_pair" 38 1 [] m__law_operand_pair) (k__law_refused : DefOk P w K mg base Tb "_law_refused" 62 2 [] m__law_refused) (k__law_rests_right : DefOk P w K mg base Tb "_law_rests_right" 62 2 [] m__law_rests_right) (k__law_road_right : DefOk P w K mg base Tb "_law_road_right" 63 3 [] m__law_road_right) (k__law_store : DefOk P w K mg base Tb "_law_store" 1 1 [] m__law_store) (k_cut_rest : DefOk P w K mg base Tb "cut_rest" 6 2 [] m_cut_rest) (k_exact_quotient : DefOk P w K mg base Tb "exact_quotient" 36 2 [] m_exact_quotient) (k_rest : DefOk P w K mg base Tb "rest" 6 2 [] m_rest) : FnOk P w K mg base (L2N.CX P w) 64 f fd ["script"] (spM P w K mg base Tb 1 m_law) := by
  refine def_fnC F sc_law fun st hT cdv A outer s H E hcd hr => ?_
  subst hT
  have lk : LamOk (cx P w K mg base N_law "law" s_law f cdv A outer s H E) st := lam_ok lam (by intro _; rfl) hcd
  have px := cx_passes (P := P) (w := w) (K := K) (mg := mg) (base := base) (N := N_law) (qual := "law") (stm := s_law) (f := f) (cdv := cdv) (A := A) (outer := outer) (s := s) (H := H) (E := E)
  exact (sd_cons (s_set 1 sc_law.nd (ed_call k__law_store (hr.mono (by omega)) px (ad_cons (ed_var 0) ad_nil))) (sd_cons (s_for (passes_of rfl) rfl (id_range1 (ad_cons ed_int ad_nil) z_range) (gd_name 2 sc_law.nd) (sd_cons (s_tgt (ed_call k__law_operand_pair (hr.mono (by omega)) px (ad_cons (ed_var 1) ad_nil)) (gd_tup rfl (gd_cons (gd_name 4 sc_law.nd) (gd_cons (gd_name 5 sc_law.nd) gd_nil)))) (sd_cons (s_if (WD.td (wd_or (td_not (td_tru (ed_call k__law_rests_right (hr.mono (by omega)) px (ad_cons (ed_var 4) (ad_cons (ed_var 5) ad_nil))))) (wd_or1 (td_not (td_tru (ed_call k__law_road_right (hr.mono (by omega)) px (ad_cons (ed_var 1) (ad_cons (ed_var 4) (ad_cons (ed_var 5) ad_nil))))))))) (sd_one (s_ret ed_bl)) sd_nil) (sd_cons (s_set 3 sc_law.nd (ed_call k__law_bad_number (hr.mono (by omega)) px (ad_cons (ed_var 1) (ad_cons (ed_var 4) ad_nil)))) (sd_cons (s_for (passes_of rfl) rfl (id_lst (ed_lst (ad_cons (ed_tup (ad_cons (ed_var 3) (ad_cons (ed_var 5) ad_nil))) (ad_cons (ed_tup (ad_cons (ed_var 4) (ad_cons (ed_var 3) ad_nil))) (ad_cons (ed_tup (ad_cons (ed_tup (ad_cons (ed_cmp (opd_eq (hu64 hr)) (ed_ix (ed_var 4) ed_int) ed_int (nomark _)) (ad_cons (ed_ix (ed_var 4) ed_int) (ad_cons (ed_ix (ed_var 4) ed_int) ad_nil)))) (ad_cons (ed_var 5) ad_nil))) ad_nil))))) (gd_tup rfl (gd_cons (gd_name 6 sc_law.nd) (gd_cons (gd_name 7 sc_law.nd) gd_nil))) (sd_cons (s_if (td_not (td_tru (ed_lam k__law_refused (hr.mono (by omega)) lk (fun _ => rfl) (lamS_by (sc := defScope s_law) (by decide +kernel)) rfl (fun _ _ _ _ _ => rfl) (fun A outer sh H E f c2 hr px => (ed_call k_rest (hr.mono (by omega)) px (ad_cons (ed_var 6) (ad_cons (ed_var 7) ad_nil)))) (ad_cons ed_str ad_nil)))) (sd_one (s_ret ed_bl)) sd_nil) (sd_cons (s_if (td_not (td_tru (ed_lam k__law_refused (hr.mono (by omega)) lk (fun _ => rfl) (lamS_by (sc := defScope s_law) (by decide +kernel)) rfl (fun _ _ _ _ _ => rfl) (fun A outer sh H E f c2 hr px => (ed_call k_cut_rest (hr.mono (by omega)) px (ad_cons (ed_var 6) (ad_cons (ed_var 7) ad_nil)))) (ad_cons ed_str ad_nil)))) (sd_one (s_ret ed_bl)) sd_nil) (sd_one (s_if (td_not (td_tru (ed_lam k__law_refused (hr.mono (by omega)) lk (fun _ => rfl) (lamS_by (sc := defScope s_law) (by decide +kernel)) rfl (fun _ _ _ _ _ => rfl) (fun A outer sh H E f c2 hr px => (ed_call k_exact_quotient (hr.mono (by omega)) px (ad_cons (ed_var 6) (ad_cons (ed_var 7) ad_nil)))) (ad_cons ed_str ad_nil)))) (sd_one (s_ret ed_bl)) sd_nil))))) (sd_one (s_if (td_not (td_tru (ed_call k__law_rests_right (hr.mono (by omega)) px (ad_cons (ed_var 4) (ad_cons (ed_var 5) ad_nil))))) (sd_one (s_ret ed_bl)) sd_nil))))))) (sd_one (s_ret ed_bl))))
end
end A38
namespace A38
open PySem PySem.Spec PyProof.Rows L2 Mi
def mixF (a t : Int) : Int :=
  let first := ((a % 2147483647) * 48271 + t * 69621 + 11) % 2147483647
  let second := (first * first + t * 40692 + 48611) % 2147483629
  (second * 16807 + first / 977 + t * 3) % 2147483587
theorem mix_ok {a t : Int} {s : S} (ht : Builtin.Int.intBits t ≤ 1000000) : m__law_mix [.int a, .int t] s = .ok (.int (mixF a t)) s := by
  unfold m__law_mix G__law_mix
  apply mv_fn
  apply mv_seq
  focus
    apply mv_set
    walk_at "own mev"
  apply mv_seq
  focus
    apply mv_set
    walk_at "own mev"
  apply mv_ret
  walk_at "own mev"
theorem mixF_lt (a t : Int) : 0 ≤ mixF a t ∧ mixF a t < 2147483587 := ⟨Int.emod_nonneg _ (by decide), Int.emod_lt_of_pos _ (by decide)⟩
theorem mixF_bits (a t : Int) : Builtin.Int.intBits (mixF a t) ≤ 31 := PySem.intBits_le_iff.mpr (by
  have := mixF_lt a t
  omega)
/-- a drawn integer lies below its bound -/
theorem wide_ok {g t b : Int} {s : S} (ht : Builtin.Int.intBits t ≤ 1000) (hb : 0 < b) (hbb : Builtin.Int.intBits b ≤ 100000) : ∃ v, m__law_wide [.int g, .int t, .int b] s = .ok (.int v) s ∧ 0 ≤ v ∧ v < b := by
  have hn : ((Builtin.Int.intBits b : Nat) : Int) / 30 + 2 ≤ 4000 := by omega
  have hn0 : 0 ≤ ((Builtin.Int.intBits b : Nat) : Int) / 30 + 2 := by omega
  obtain ⟨δ2, s2, e2, m, j, rfl, ⟨z, rfl⟩, hm, hj⟩ := mv_for (I := iRng1 (aCons (eOp gAdd (eOp (gI gDivI) (eUn gBits (eVar 2)) (eC (.int 30))) (eC (.int 2))) aNil)) (N := nName 5)
    (G := (sSeq (sSet 3 (eApp 2 [] m__law_mix (aCons (eOp gAdd (eVar 3) (eOp (gI gMulI) (eVar 5) (eC (.int 40503)))) (aCons (eOp gAdd (eVar 1) (eVar 5)) aNil)))) (sSet 4 (eOp gAdd (eOp (gI gMulI) (eVar 4) (eC (.int 2147483587))) (eVar 3)))))
    (δ := [.d (.int g), .d (.int t), .d (.int b), .d (.int (mixF g t)), .d (.int 0), .u]) (s := s) (s1 := s) (ds := rgL 0 (((Builtin.Int.intBits b : Nat) : Int) / 30 + 2).toNat)
    (fun k δ s' => ∃ m j : Int, s' = s ∧ (∃ z, δ = [.d (.int g), .d (.int t), .d (.int b), .d (.int m), .d (.int j), z]) ∧ Builtin.Int.intBits m ≤ 31 ∧ Builtin.Int.intBits j ≤ 64 * k + 1)
    (mv_rng1 (by walk_at "own mev") (by omega) (by omega)) ⟨mixF g t, 0, rfl, ⟨_, rfl⟩, mixF_bits g t, by decide⟩ (fun k d δ s' hd hP => by
      obtain ⟨m, j, rfl, ⟨z, rfl⟩, hm, hj⟩ := hP
      obtain ⟨hk, rfl⟩ := rgL_get hd
      have hk2 : k < 4000 := by omega
      have hkb : Builtin.Int.intBits (0 + (k : Int)) ≤ 12 := PySem.intBits_le_iff.mpr (by omega)
      refine ⟨_, rfl, _, _, ?_, mixF (m + (0 + (k : Int)) * 40503) (t + (0 + (k : Int))), j * 2147483587 + mixF (m + (0 + (k : Int)) * 40503) (t + (0 + (k : Int))), rfl, ⟨.d (.int (0 + (k : Int))), rfl⟩, mixF_bits _ _, ?_⟩
      · apply mv_seq
        focus
          apply mv_set
          apply mv_app
          focus walk_at "own mev"
          focus
            apply mix_ok
            exact Nat.le_trans (PySem.intBits_add_le ht hkb) (by omega)
          rfl
        apply mv_set
        apply mv_op
        focus
          apply mv_op
          focus walk_at "own mev"
          focus walk_at "own mev"
          exact gMul_int hj (Nat.le_refl _) (by have : Builtin.Int.intBits 2147483587 = 31 := by decide +kernel
                                                omega)
        focus walk_at "own mev"
        walk_at "own mside"
      · have h1 := PySem.intBits_mul_le hj (Nat.le_refl (Builtin.Int.intBits 2147483587))
        have h2 := PySem.intBits_add_le h1 (mixF_bits (m + (0 + (k : Int)) * 40503) (t + (0 + (k : Int))))
        have : Builtin.Int.intBits 2147483587 = 31 := by decide +kernel
        omega)
  refine ⟨j % b, ?_, Int.emod_nonneg _ (by omega), Int.emod_lt_of_pos _ hb⟩
  unfold m__law_wide G__law_wide
  apply mv_fn
  apply mv_seq
  focus
    apply mv_set
    apply mv_app
    focus walk_at "own mev"
    focus
      apply mix_ok
      omega
    rfl
  apply mv_seq
  focus
    apply mv_set
    walk_at "own mev"
  refine mv_seq e2 ?_
  apply mv_ret
  walk_at "own mev"
/-- the store's shape; n: how often it was drawn from, at most -/
structure SOk (n : Nat) (s : S) : Prop where
  cells : ∀ c ∈ s.cells, Builtin.Int.intBits c ≤ 1048576
  len : s.cells.length ≤ 63
  at0 : 0 ≤ s.at_
  at1 : s.at_ ≤ 100
  left0 : 0 ≤ s.left
  last : Builtin.Int.intBits s.last ≤ 31
  turn0 : 0 ≤ s.turn
  turn1 : s.turn ≤ n
theorem SOk.mono {m n : Nat} {s : S} (h : SOk m s) (k : m ≤ n) : SOk n s := ⟨h.cells, h.len, h.at0, h.at1, h.left0, h.last, h.turn0, by have := h.turn1; omega⟩
theorem gEq_int {i j : Int} : gEq (.int i) (.int j) = some (.bl (decide (i = j))) := by
  show (if scal (V.int i) (V.int j) = true then some (decide (V.int i = V.int j)) else dEqG (.int i) (.int j)).map D.bl = _
  rw [if_pos (show scal (V.int i) (V.int j) = true from rfl)]
  simp
theorem gLt_int {i j : Int} : gLt (.int i) (.int j) = some (.bl (decide (i < j))) := rfl
theorem gGt_int {i j : Int} : gGt (.int i) (.int j) = some (.bl (decide (j < i))) := rfl
theorem mv_st {i k : Nat} {δ : Ev} {s : S} {v : Int} (h : δ[i]? = some (.d .sto)) (e : stF k s = some v) : eSt i k δ s = .ok (.int v) s := by
  unfold eSt
  rw [h]
  show (match stF k s with
    | some v => R.ok (D.int v) s
    | none => R.stuck) = _
  rw [e]
theorem mv_stLen {i : Nat} {δ : Ev} {s : S} (h : δ[i]? = some (.d .sto)) : eStLen i δ s = .ok (.int s.cells.length) s := by
  unfold eStLen
  rw [h]
theorem mv_stCell {i : Nat} {δ : Ev} {s : S} {v : Int} (h : δ[i]? = some (.d .sto)) (e : atI s.cells s.at_ = some v) : eStCell i δ s = .ok (.int v) s := by
  unfold eStCell
  rw [h]
  show (match atI s.cells s.at_ with
    | some v => R.ok (D.int v) s
    | none => R.stuck) = _
  rw [e]
theorem mv_sSt {i k : Nat} {F : FE} {δ : Ev} {s s1 s2 : S} {v : Int} (h : δ[i]? = some (.d .sto)) (h1 : F δ s = .ok (.int v) s1) (e : stP k v s1 = some s2) : sSt i k F δ s = .ok (.nx δ) s2 := by
  unfold sSt
  rw [h]
  show rb (F δ s) _ = _
  rw [h1, rb_ok]
  show (match stP k v s1 with
    | some s2 => R.ok (Fl.nx δ) s2
    | none => R.stuck) = _
  rw [e]
theorem bits_small {i : Int} {n : Nat} (h0 : 0 ≤ i) (h : i ≤ n) (hn : n < 2 ^ 60) : Builtin.Int.intBits i ≤ 60 := PySem.intBits_le_iff.mpr (by omega)
def takeTail : FS := sSeq (sIf (tCmp gGt (eSt 0 2) (eC (.int 0))) (sSeq (sSet 3 (eSt 0 2)) (sSeq (sSt 0 2 (eOp (gI gDivB) (eVar 3) (eVar 1))) (sRet (eOp (gI gModI) (eCall gInt (aCons (eVar 3) aNil)) (eVar 1))))) sNil) (sRet (eApp 3 [] m__law_wide (aCons (eSt 0 3) (aCons (eSt 0 4) (aCons (eVar 1) aNil)))))
theorem tail_ok {b : Int} {s : S} {n : Nat} {x y : SV} (h : SOk n s) (hn : n < 2 ^ 60) (hb : 2 ≤ b) (hbb : Builtin.Int.intBits b ≤ 100000) : ∃ v s', takeTail [.d .sto, .d (.int b), x, y] s = .ok (.rt (.int v)) s' ∧ SOk n s' ∧ 0 ≤ v ∧ v < b := by
  have htb := bits_small h.turn0 h.turn1 hn
  by_cases hl : 0 < s.left
  · refine ⟨s.left % b, { s with left := s.left / b }, ?_, ⟨h.cells, h.len, h.at0, h.at1, Int.ediv_nonneg h.left0 (by omega), h.last, h.turn0, h.turn1⟩, Int.emod_nonneg _ (by omega), Int.emod_lt_of_pos _ (by omega)⟩
    apply mv_seq_rt
    apply mv_if_t
    focus
      apply mv_cmp
      focus
        apply mv_st
        focus rfl
        rfl
      focus walk_at "own mev"
      rw [gGt_int, decide_eq_true hl]
    apply mv_seq
    focus
      apply mv_set
      apply mv_st
      focus rfl
      rfl
    apply mv_seq
    focus
      apply mv_sSt
      focus rfl
      focus
        apply mv_op
        focus walk_at "own mev"
        focus walk_at "own mev"
        exact gDivB_int (by omega)
      rfl
    apply mv_ret
    walk_at "own mev"
  · obtain ⟨v, e, h0, h1⟩ := wide_ok (g := s.last) (t := s.turn) (b := b) (s := s) (by omega) (by omega) hbb
    refine ⟨v, s, ?_, h, h0, h1⟩
    apply mv_seq
    focus
      apply mv_if_f
      focus
        apply mv_cmp
        focus
          apply mv_st
          focus rfl
          rfl
        focus walk_at "own mev"
        rw [gGt_int, decide_eq_false hl]
      exact mv_snil
    apply mv_ret
    apply mv_app
    focus
      apply mv_cons
      focus
        apply mv_st
        focus rfl
        rfl
      apply mv_cons
      focus
        apply mv_st
        focus rfl
        rfl
      walk_at "own mev"
    focus exact e
    rfl
theorem gAbs_int {g : Int} : ∃ ag : Int, gAbs [.int g] = some (.int ag) ∧ 0 ≤ ag := by
  unfold gAbs
  first
    | exact ⟨_, rfl, by omega⟩
    | (split <;> exact ⟨_, rfl, by omega⟩)
    | (refine ⟨_, rfl, ?_⟩; split <;> omega)
theorem take_ok {b : Int} {s : S} {n : Nat} (h : SOk n s) (hn : n + 1 < 2 ^ 60) (hbb : Builtin.Int.intBits b ≤ 100000) : ∃ v s', m__law_take [.sto, .int b] s = .ok (.int v) s' ∧ SOk (n + 1) s' ∧ 0 ≤ v ∧ (2 ≤ b → v < b) ∧ (b < 2 → v = 0) := by
  by_cases hb : b < 2
  · refine ⟨0, s, ?_, h.mono (by omega), by omega, by omega, fun _ => rfl⟩
    unfold m__law_take G__law_take
    apply mv_fn
    apply mv_seq_rt
    apply mv_if_t
    focus
      apply mv_cmp
      focus walk_at "own mev"
      focus walk_at "own mev"
      rw [gLt_int, decide_eq_true hb]
    apply mv_ret
    walk_at "own mev"
  have hs1 : SOk (n + 1) { s with turn := s.turn + 1 } := ⟨h.cells, h.len, h.at0, h.at1, h.left0, h.last, by have := h.turn0; show 0 ≤ s.turn + 1; omega, by have := h.turn1; show s.turn + 1 ≤ _; omega⟩
  have htb := bits_small hs1.turn0 hs1.turn1 hn
  -- up to the second test
  have head : ∀ {r : R Fl}, sSeq (sIf (tAnd (tCmp gEq (eSt 0 2) (eC (.int 0))) (tCmp gLt (eSt 0 1) (eStLen 0))) (sSeq (sSet 2 (eStCell 0)) (sSeq (sSt 0 1 (eOp gAdd (eSt 0 1) (eC (.int 1)))) (sSeq (sSt 0 3 (eApp 2 [] m__law_mix (aCons (eOp gAdd (eVar 2) (eSt 0 3)) (aCons (eSt 0 1) aNil)))) (sSeq (sIf (tCmp gLt (eCall gAbs (aCons (eVar 2) aNil)) (eOp (gI gPowI) (eC (.int 10)) (eC (.int 18)))) (sRet (eApp 3 [] m__law_wide (aCons (eVar 2) (aCons (eSt 0 4) (aCons (eVar 1) aNil))))) sNil) (sSt 0 2 (eCall gAbs (aCons (eVar 2) aNil))))))) sNil) takeTail [.d .sto, .d (.int b), .u, .u] { s with turn := s.turn + 1 } = r → G__law_take [.d .sto, .d (.int b), .u, .u] s = r := fun {r} e => by
    unfold G__law_take
    apply mv_seq
    focus
      apply mv_if_f
      focus
        apply mv_cmp
        focus walk_at "own mev"
        focus walk_at "own mev"
        rw [gLt_int, decide_eq_false hb]
      exact mv_snil
    apply mv_seq
    focus
      apply mv_sSt
      focus rfl
      focus
        apply mv_op
        focus
          apply mv_st
          focus rfl
          rfl
        focus walk_at "own mev"
        walk_at "own mside"
      rfl
    exact e
  have fin : (∃ v s', G__law_take [.d .sto, .d (.int b), .u, .u] s = .ok (.rt (.int v)) s' ∧ SOk (n + 1) s' ∧ 0 ≤ v ∧ v < b) → ∃ v s', m__law_take [.sto, .int b] s = .ok (.int v) s' ∧ SOk (n + 1) s' ∧ 0 ≤ v ∧ (2 ≤ b → v < b) ∧ (b < 2 → v = 0) := fun ⟨v, s', e, h1, h2, h3⟩ => ⟨v, s', by
    unfold m__law_take
    exact mv_fn e, h1, h2, fun _ => h3, fun z => absurd z hb⟩
  apply fin
  by_cases hc : s.left = 0 ∧ s.at_ < s.cells.length
  · -- a new cell
    obtain ⟨hc1, hc2⟩ := hc
    have hj : s.at_.toNat < s.cells.length := by have := h.at0; omega
    obtain ⟨g, hg⟩ : ∃ g, s.cells[s.at_.toNat]? = some g := ⟨_, List.getElem?_eq_getElem hj⟩
    have hgb := h.cells g (List.mem_of_getElem? hg)
    have hat : atI s.cells s.at_ = some g := by
      unfold atI ixN
      rw [if_pos h.at0, if_pos hc2]
      exact hg
    have hl63 := h.len
    generalize hs2 : ({ s with turn := s.turn + 1, at_ := s.at_ + 1, last := mixF (g + s.last) (s.at_ + 1) } : S) = s2
    have ok2 : SOk (n + 1) s2 := by
      rw [← hs2]
      exact ⟨h.cells, h.len, by have := h.at0; show 0 ≤ s.at_ + 1; omega, by show s.at_ + 1 ≤ 100; omega, h.left0, mixF_bits _ _, hs1.turn0, hs1.turn1⟩
    have hta : Builtin.Int.intBits (s.at_ + 1) ≤ 60 := PySem.intBits_le_iff.mpr (by have := h.at0; omega)
    -- the steps of the new cell
    have cell : ∀ {r : R Fl}, sSeq (sIf (tCmp gLt (eCall gAbs (aCons (eVar 2) aNil)) (eOp (gI gPowI) (eC (.int 10)) (eC (.int 18)))) (sRet (eApp 3 [] m__law_wide (aCons (eVar 2) (aCons (eSt 0 4) (aCons (eVar 1) aNil))))) sNil) (sSt 0 2 (eCall gAbs (aCons (eVar 2) aNil))) [.d .sto, .d (.int b), .d (.int g), .u] s2 = r →
        sIf (tAnd (tCmp gEq (eSt 0 2) (eC (.int 0))) (tCmp gLt (eSt 0 1) (eStLen 0))) (sSeq (sSet 2 (eStCell 0)) (sSeq (sSt 0 1 (eOp gAdd (eSt 0 1) (eC (.int 1)))) (sSeq (sSt 0 3 (eApp 2 [] m__law_mix (aCons (eOp gAdd (eVar 2) (eSt 0 3)) (aCons (eSt 0 1) aNil)))) (sSeq (sIf (tCmp gLt (eCall gAbs (aCons (eVar 2) aNil)) (eOp (gI gPowI) (eC (.int 10)) (eC (.int 18)))) (sRet (eApp 3 [] m__law_wide (aCons (eVar 2) (aCons (eSt 0 4) (aCons (eVar 1) aNil))))) sNil) (sSt 0 2 (eCall gAbs (aCons (eVar 2) aNil))))))) sNil [.d .sto, .d (.int b), .u, .u] { s with turn := s.turn + 1 } = r := fun {r} e => by
      apply mv_if_t
      focus
        apply mv_and_t
        focus
          apply mv_cmp
          focus
            apply mv_st
            focus rfl
            rfl
          focus walk_at "own mev"
          show gEq (.int s.left) (.int 0) = _
          rw [gEq_int, decide_eq_true hc1]
        apply mv_cmp
        focus
          apply mv_st
          focus rfl
          rfl
        focus
          apply mv_stLen
          rfl
        show gLt (.int s.at_) (.int s.cells.length) = _
        rw [gLt_int, decide_eq_true hc2]
      apply mv_seq
      focus
        apply mv_set
        apply mv_stCell
        focus rfl
        exact hat
      apply mv_seq
      focus
        apply mv_sSt
        focus rfl
        focus
          apply mv_op
          focus
            apply mv_st
            focus rfl
            rfl
          focus walk_at "own mev"
          walk_at "own mside"
        rfl
      apply mv_seq
      focus
        apply mv_sSt
        focus rfl
        focus
          apply mv_app
          focus
            apply mv_cons
            focus
              apply mv_op
              focus walk_at "own mev"
              focus
                apply mv_st
                focus rfl
                rfl
              walk_at "own mside"
            apply mv_cons
            focus
              apply mv_st
              focus rfl
              rfl
            walk_at "own mev"
          focus
            apply mix_ok
            exact Nat.le_trans hta (by decide)
          rfl
        rfl
      rw [hs2]
      exact e
    have e18 : gI gPowI (.int 10) (.int 18) = some (.int 1000000000000000000) := by
      show (if (0 : Int) ≤ 18 ∧ (18 : Int) ≤ 1000000 ∧ (10 : Int).natAbs < 2 ^ 64 then some (D.int (10 ^ (18 : Int).toNat)) else none) = _
      rw [if_pos (by decide)]
      rfl
    obtain ⟨ag, eag, hag⟩ : ∃ ag : Int, gAbs [.int g] = some (.int ag) ∧ 0 ≤ ag := gAbs_int
    by_cases h18 : ag < 1000000000000000000
    · obtain ⟨v, e, h0, h1⟩ := wide_ok (g := g) (t := s2.turn) (b := b) (s := s2) (by have := bits_small ok2.turn0 ok2.turn1 hn; omega) (by omega) hbb
      refine ⟨v, s2, head ?_, ok2, h0, h1⟩
      apply mv_seq_rt
      apply cell
      apply mv_seq_rt
      apply mv_if_t
      focus
        apply mv_cmp
        focus
          apply mv_call
          focus walk_at "own mev"
          exact eag
        focus
          apply mv_op
          focus walk_at "own mev"
          focus walk_at "own mev"
          exact e18
        rw [gLt_int, decide_eq_true h18]
      apply mv_ret
      apply mv_app
      focus
        apply mv_cons
        focus walk_at "own mev"
        apply mv_cons
        focus
          apply mv_st
          focus rfl
          rfl
        walk_at "own mev"
      focus exact e
      rfl
    · have ok3 : SOk (n + 1) { s2 with left := ag } := ⟨ok2.cells, ok2.len, ok2.at0, ok2.at1, hag, ok2.last, ok2.turn0, ok2.turn1⟩
      obtain ⟨v, s', e, h1, h2, h3⟩ := tail_ok (x := .d (.int g)) (y := .u) ok3 hn (by omega) hbb
      refine ⟨v, s', head (mv_seq (cell ?_) e), h1, h2, h3⟩
      apply mv_seq
      focus
        apply mv_if_f
        focus
          apply mv_cmp
          focus
            apply mv_call
            focus walk_at "own mev"
            exact eag
          focus
            apply mv_op
            focus walk_at "own mev"
            focus walk_at "own mev"
            exact e18
          rw [gLt_int, decide_eq_false h18]
        exact mv_snil
      apply mv_sSt
      focus rfl
      focus
        apply mv_call
        focus walk_at "own mev"
        exact eag
      rfl
  · -- from what is left
    obtain ⟨v, s', e, h1, h2, h3⟩ := tail_ok (x := .u) (y := .u) hs1 hn (by omega) hbb
    refine ⟨v, s', head ?_, h1, h2, h3⟩
    apply mv_seq
    focus
      apply mv_if_f
      focus
        by_cases hl : s.left = 0
        focus
          apply mv_and_t
          focus
            apply mv_cmp
            focus
              apply mv_st
              focus rfl
              rfl
            focus walk_at "own mev"
            show gEq (.int s.left) (.int 0) = _
            rw [gEq_int, decide_eq_true hl]
          apply mv_cmp
          focus
            apply mv_st
            focus rfl
            rfl
          focus
            apply mv_stLen
            rfl
          show gLt (.int s.at_) (.int s.cells.length) = _
          rw [gLt_int, decide_eq_false (fun z => hc ⟨hl, z⟩)]
        apply mv_and_f
        apply mv_cmp
        focus
          apply mv_st
          focus rfl
          rfl
        focus walk_at "own mev"
        show gEq (.int s.left) (.int 0) = _
        rw [gEq_int, decide_eq_false hl]
      exact mv_snil
    exact e
theorem take_wp {b : Int} {s : S} {n : Nat} {Q : D → S → Prop} (h : SOk n s) (hn : n + 1 < 2 ^ 60) (hbb : Builtin.Int.intBits b ≤ 100000) (q : ∀ (v : Int) s', SOk (n + 1) s' → 0 ≤ v → (2 ≤ b → v < b) → (b < 2 → v = 0) → Q (.int v) s') : Wp (m__law_take [.sto, .int b] s) Q := by
  obtain ⟨v, s', e, h1, h2, h3, h4⟩ := take_ok h hn hbb
  exact ⟨_, s', e, q v s' h1 h2 h3 h4⟩
/-- a call of the drawing within an expression -/
theorem takeE {i : Nat} {δ : Ev} {s : S} {n : Nat} {F : FE} {b : Int} {Q : D → S → Prop} (hi : δ[i]? = some (.d .sto)) (hF : F δ s = .ok (.int b) s) (h : SOk n s) (hn : n + 1 < 2 ^ 60) (hbb : Builtin.Int.intBits b ≤ 100000) (q : ∀ (v : Int) s', SOk (n + 1) s' → 0 ≤ v → (2 ≤ b → v < b) → (b < 2 → v = 0) → Q (.int v) s') :
    Wp (eApp 2 [] m__law_take (aCons (eVar i) (aCons F aNil)) δ s) Q := by
  apply wp_app
  refine wp_cons (wp_var hi (wp_cons ⟨_, s, hF, wp_nil ⟨rfl, take_wp h hn hbb q⟩⟩))
theorem edge_ok {lo hi : Int} {s : S} {n : Nat} {Q : D → S → Prop} (h : SOk n s) (hn : n + 2 < 2 ^ 60) (h1 : lo ≤ hi) (hl : Builtin.Int.intBits lo ≤ 1000) (hh : Builtin.Int.intBits hi ≤ 1000) (q : ∀ (v : Int) s', lo ≤ v → v ≤ hi → SOk (n + 2) s' → Q (.int v) s') : Wp (m__law_edge [.sto, .int lo, .int hi] s) Q := by
  have gLe_int : ∀ {i j : Int}, gLe (.int i) (.int j) = some (.bl (decide (i ≤ j))) := fun {i j} => rfl
  unfold m__law_edge G__law_edge
  apply wp_fn
  apply wp_seq
  apply wp_set
  refine takeE rfl rfl h (by omega) (by decide) fun kind s1 ok1 k0 k1 _ => ?_
  have hk : kind < 12 := k1 (by decide)
  have ok2 := ok1.mono (show n + 1 ≤ n + 2 by omega)
  apply wp_seq
  apply wp_if
  apply wp_or
  apply wp_cmp
  walk_at "own wstep"
  walk_at "own wstep"
  refine ⟨_, gLe_int, fun e => ?_, fun e => ?_⟩
  · refine ⟨fun _ => ?_, fun z => by cases z⟩
    walk_at "own wstep"
    walk_at "own wstep"
    exact q lo s1 (Int.le_refl _) h1 ok2
  have hlt : lo < hi := by have := of_decide_eq_false e; omega
  apply wp_cmp
  walk_at "own wstep"
  walk_at "own wstep"
  refine ⟨_, gEq_int, fun e => ?_, fun e => ?_⟩
  · walk_at "own wstep"
    walk_at "own wstep"
    exact q lo s1 (Int.le_refl _) h1 ok2
  walk_at "own wstep"
  apply wp_seq
  apply wp_if
  apply wp_cmp
  walk_at "own wstep"
  walk_at "own wstep"
  refine ⟨_, gEq_int, fun e => ?_, fun e => ?_⟩
  · walk_at "own wstep"
    walk_at "own wstep"
    exact q hi s1 h1 (Int.le_refl _) ok2
  walk_at "own wstep"
  apply wp_seq
  apply wp_if
  apply wp_cmp
  walk_at "own wstep"
  walk_at "own wstep"
  refine ⟨_, gEq_int, fun e => ?_, fun e => ?_⟩
  · walk_at "own wstep"
    walk_at "own wstep"
    walk_at "own wstep"
    walk_at "own wstep"
    exact ⟨_, gAdd_int, q _ s1 (by omega) (by omega) ok2⟩
  walk_at "own wstep"
  apply wp_seq
  apply wp_if
  apply wp_cmp
  walk_at "own wstep"
  walk_at "own wstep"
  refine ⟨_, gEq_int, fun e => ?_, fun e => ?_⟩
  · walk_at "own wstep"
    walk_at "own wstep"
    walk_at "own wstep"
    walk_at "own wstep"
    exact ⟨_, gSub_int, q _ s1 (by omega) (by omega) ok2⟩
  walk_at "own wstep"
  apply wp_seq
  apply wp_if
  apply wp_cmp
  walk_at "own wstep"
  walk_at "own wstep"
  refine ⟨_, gEq_int, fun e => ?_, fun e => ?_⟩
  · walk_at "own wstep"
    walk_at "own wstep"
    walk_at "own wstep"
    walk_at "own wstep"
    walk_at "own wstep"
    walk_at "own wstep"
    walk_at "own wstep"
    walk_at "own wstep"
    walk_at "own wstep"
    refine ⟨.int (max 0 lo), rfl, ?_⟩
    walk_at "own wstep"
    walk_at "own wstep"
    walk_at "own wstep"
    exact ⟨.int (min (max 0 lo) hi), rfl, q _ s1 (by omega) (by omega) ok2⟩
  walk_at "own wstep"
  apply wp_seq
  apply wp_if
  apply wp_cmp
  walk_at "own wstep"
  walk_at "own wstep"
  refine ⟨_, gLt_int, fun e => ?_, fun e => ?_⟩
  · walk_at "own wstep"
    walk_at "own wstep"
    walk_at "own wstep"
    walk_at "own wstep"
    walk_at "own wstep"
    walk_at "own wstep"
    walk_at "own wstep"
    refine takeE rfl rfl ok1 (by omega) (by decide) fun v s2 okv v0 v1 _ => ⟨_, gAdd_int, ?_⟩
    walk_at "own wstep"
    exact ⟨.int (min hi (lo + v)), rfl, q _ s2 (by omega) (by omega) okv⟩
  walk_at "own wstep"
  walk_at "own wstep"
  walk_at "own wstep"
  walk_at "own wstep"
  refine takeE (b := hi - lo + 1) rfl (by walk_at "own mev") ok1 (by omega) ?_ fun v s2 okv v0 v1 v2 => ⟨_, gAdd_int, q _ s2 (by omega) ?_ okv⟩
  · have a := PySem.intBits_sub_le hh hl
    have b := PySem.intBits_add_le a (Nat.le_refl (Builtin.Int.intBits 1))
    have : Builtin.Int.intBits 1 = 1 := by decide +kernel
    omega
  · have := v1 (by omega)
    omega
theorem gShl_int {j : Int} (h0 : 0 ≤ j) (h : j ≤ 100000) : gI gShlI (.int 1) (.int j) = some (.int (1 * 2 ^ j.toNat)) := by
  show gShlI 1 j = _
  unfold gShlI
  refine if_pos ⟨h0, ?_⟩
  have : Builtin.Int.intBits 1 = 1 := by decide +kernel
  omega
theorem bits_pow {k : Nat} : Builtin.Int.intBits (1 * 2 ^ k : Int) ≤ k + 1 := PySem.intBits_le_iff.mpr (by
  rw [Int.one_mul]
  have : ((2 : Int) ^ k).natAbs = 2 ^ k := by rw [Int.natAbs_pow]; rfl
  rw [this, Nat.pow_succ]
  have := Nat.two_pow_pos k
  omega)
theorem scaled_ok {m : Int} {s : S} {n : Nat} {Q : D → S → Prop} (h : SOk n s) (hn : n + 3 < 2 ^ 60) (h1 : 0 ≤ m) (hm : m ≤ 20000) (q : ∀ (v : Int) s', -1 ≤ v → (0 ≤ v) → v < 2 ^ m.toNat → SOk (n + 3) s' → Q (.int v) s') : Wp (m__law_scaled [.sto, .int m] s) Q := by
  have mb : Builtin.Int.intBits (m + 1) ≤ 100000 := Nat.le_trans (PySem.intBits_le_iff.mpr (show (m + 1).natAbs < 2 ^ 20 by omega)) (by decide)
  have pw : ∀ w : Int, 0 ≤ w → w ≤ m → (1 : Int) ≤ 2 ^ w.toNat ∧ (2 : Int) ^ w.toNat ≤ 2 ^ m.toNat ∧ (2 : Int) ^ (m.toNat + 1) = 2 ^ m.toNat * 2 := fun w h0 h1 => by
    refine ⟨?_, ?_, Int.pow_succ 2 m.toNat⟩
    · have := Nat.two_pow_pos w.toNat
      have e : ((2 : Int) ^ w.toNat) = ((2 ^ w.toNat : Nat) : Int) := by push_cast; rfl
      omega
    · have := Nat.pow_le_pow_right (show 0 < 2 by decide) (show w.toNat ≤ m.toNat by omega)
      have e : ((2 : Int) ^ w.toNat) = ((2 ^ w.toNat : Nat) : Int) := by push_cast; rfl
      have e2 : ((2 : Int) ^ m.toNat) = ((2 ^ m.toNat : Nat) : Int) := by push_cast; rfl
      omega
  unfold m__law_scaled G__law_scaled
  apply wp_fn
  apply wp_seq
  apply wp_set
  refine takeE (b := m + 1) rfl (by walk_at "own mev") h (by omega) mb fun w s1 ok1 w0 w1 w2 => ?_
  have hw : w ≤ m := by
    rcases (show m = 0 ∨ 1 ≤ m by omega) with z | z
    · have := w2 (by omega)
      omega
    · have := w1 (by omega)
      omega
  obtain ⟨p1, p2, p3⟩ := pw w w0 hw
  have p4 : w < m → (2 : Int) ^ w.toNat * 2 ≤ 2 ^ m.toNat := fun hlt => by
    have := Nat.pow_le_pow_right (show 0 < 2 by decide) (show w.toNat + 1 ≤ m.toNat by omega)
    have e : ((2 : Int) ^ (w.toNat + 1)) = ((2 ^ (w.toNat + 1) : Nat) : Int) := by push_cast; rfl
    have e2 : ((2 : Int) ^ m.toNat) = ((2 ^ m.toNat : Nat) : Int) := by push_cast; rfl
    have e3 : (2 : Int) ^ (w.toNat + 1) = 2 ^ w.toNat * 2 := Int.pow_succ 2 w.toNat
    omega
  apply wp_seq
  apply wp_set
  refine takeE (b := 8) rfl (by walk_at "own mev") ok1 (by omega) (by decide) fun kind s2 ok2 k0 k1 _ => ?_
  have ok3 := ok2.mono (show n + 1 + 1 ≤ n + 3 by omega)
  apply wp_seq
  apply wp_if
  apply wp_cmp
  walk_at "own wstep"
  walk_at "own wstep"
  refine ⟨_, gEq_int, fun e => ?_, fun e => ?_⟩
  · walk_at "own wstep"
    walk_at "own wstep"
    walk_at "own wstep"
    walk_at "own wstep"
    walk_at "own wstep"
    refine ⟨_, gShl_int w0 (by omega), ?_⟩
    walk_at "own wstep"
    exact ⟨_, gSub_int, q _ s2 (by omega) (by omega) (by omega) ok3⟩
  walk_at "own wstep"
  apply wp_seq
  apply wp_if
  apply wp_and
  apply wp_cmp
  walk_at "own wstep"
  walk_at "own wstep"
  have last : Wp (sSeq (sIf (tAnd (tCmp gEq (eVar 3) (eC (.int 2))) (tCmp gGt (eVar 2) (eC (.int 1)))) (sRet (eOp (gI gSubI) (eOp (gI gShlI) (eC (.int 1)) (eVar 2)) (eC (.int 2)))) sNil) (sRet (eApp 2 [] m__law_take (aCons (eVar 0) (aCons (eOp (gI gShlI) (eC (.int 1)) (eVar 2)) aNil)))) [.d .sto, .d (.int m), .d (.int w), .d (.int kind)] s2) fun fl s1 => match fl with
      | .rt d => Q d s1
      | .nx _ => Q .non s1
      | _ => False := by
    have fin : Wp (sRet (eApp 2 [] m__law_take (aCons (eVar 0) (aCons (eOp (gI gShlI) (eC (.int 1)) (eVar 2)) aNil))) [.d .sto, .d (.int m), .d (.int w), .d (.int kind)] s2) fun fl s1 => match fl with
        | .rt d => Q d s1
        | .nx _ => Q .non s1
        | _ => False := by
      walk_at "own wstep"
      refine takeE (b := 1 * 2 ^ w.toNat) rfl (mv_op mv_c (mv_var rfl) (gShl_int w0 (by omega))) ok2 (by omega) (Nat.le_trans bits_pow (by omega)) fun v s3 okv v0 v1 v2 => q v s3 (by omega) v0 ?_ (okv.mono (by omega))
      by_cases hb : (2 : Int) ≤ 1 * 2 ^ w.toNat
      · have := v1 hb
        omega
      · have := v2 (by omega)
        omega
    apply wp_seq
    apply wp_if
    apply wp_and
    apply wp_cmp
    walk_at "own wstep"
    walk_at "own wstep"
    refine ⟨_, gEq_int, fun e => ⟨fun z => (by cases z), fun _ => ?_⟩, fun e => ?_⟩
    · walk_at "own wstep"
      exact fin
    apply wp_cmp
    walk_at "own wstep"
    walk_at "own wstep"
    refine ⟨_, gGt_int, fun e2 => ?_, fun e2 => ?_⟩
    · walk_at "own wstep"
      walk_at "own wstep"
      walk_at "own wstep"
      walk_at "own wstep"
      walk_at "own wstep"
      refine ⟨_, gShl_int w0 (by omega), ?_⟩
      walk_at "own wstep"
      have e3 : 1 < w := of_decide_eq_true e2
      obtain ⟨k, hk⟩ : ∃ k : Nat, w.toNat = k + 1 := ⟨w.toNat - 1, by omega⟩
      have e4 : (2 : Int) ^ w.toNat = 2 ^ k * 2 := by rw [hk]; exact Int.pow_succ 2 k
      have e5 : (1 : Int) ≤ 2 ^ k := by
        have := Nat.two_pow_pos k
        have e : ((2 : Int) ^ k) = ((2 ^ k : Nat) : Int) := by push_cast; rfl
        omega
      exact ⟨_, gSub_int, q _ s2 (by omega) (by omega) (by omega) ok3⟩
    walk_at "own wstep"
    exact fin
  refine ⟨_, gEq_int, fun e => ⟨fun z => (by cases z), fun _ => ?_⟩, fun e => ?_⟩
  · walk_at "own wstep"
    exact last
  apply wp_cmp
  walk_at "own wstep"
  walk_at "own wstep"
  refine ⟨_, gLt_int, fun e2 => ?_, fun e2 => ?_⟩
  · walk_at "own wstep"
    walk_at "own wstep"
    walk_at "own wstep"
    walk_at "own wstep"
    have p5 := p4 (of_decide_eq_true e2)
    exact ⟨_, gShl_int w0 (by omega), q _ s2 (by omega) (by omega) (by omega) ok3⟩
  walk_at "own wstep"
  exact last
end A38
namespace A38
open PySem PySem.Spec PyProof.Rows L2 Mi
theorem isi_of {d : D} {n c : String} {k : Bool} (e1 : tyN d = some n) (e2 : kitB n c = some k) : gIsi [d, .ty c] = some (.bl k) := by
  show (((tyN d).bind fun n => kitB n c).map D.bl) = _
  rw [e1]
  show ((kitB n c).map D.bl) = _
  rw [e2]
  rfl
theorem kit_tab : kitB "NoneType" "bool" = some false ∧ kitB "bool" "bool" = some true ∧ kitB "int" "bool" = some false ∧ kitB "str" "bool" = some false ∧ kitB "tuple" "bool" = some false ∧ kitB "list" "bool" = some false ∧
    kitB "bool" "int" = some true ∧ kitB "int" "int" = some true ∧ kitB "str" "int" = some false ∧ kitB "tuple" "int" = some false ∧ kitB "list" "int" = some false ∧
    kitB "str" "str" = some true ∧ kitB "tuple" "str" = some false ∧ kitB "list" "str" = some false ∧ kitB "tuple" "list" = some false ∧ kitB "list" "list" = some true ∧ kitB "tuple" "tuple" = some true ∧ kitB "list" "tuple" = some false := by
  decide +kernel
theorem int_ok {i : Int} {s : S} : m__law_int [.int i] s = .ok (.bl true) s := by
  obtain ⟨_, _, k3, _, _, _, _, k8, _⟩ := kit_tab
  unfold m__law_int G__law_int
  apply mv_fn
  apply mv_ret
  show eAnd _ _ _ _ = _
  unfold eAnd
  rw [mv_call (s1 := s) (ds := [.int i, .ty "int"]) (z := .bl true) (by walk_at "own mev") (isi_of rfl k8), rb_ok]
  show eUn gNot _ _ _ = _
  exact mv_un (mv_call (s1 := s) (ds := [.int i, .ty "bool"]) (z := .bl false) (by walk_at "own mev") (isi_of rfl k3)) rfl
mutual
/-- what a due answer is made of, its depth below k -/
def plain : Nat → D → Bool
  | 0, _ => false
  | _ + 1, .non => true
  | _ + 1, .bl _ => true
  | _ + 1, .int _ => true
  | _ + 1, .str _ => true
  | k + 1, .tup l => plains k l && decide (l.length ≤ 1000)
  | _ + 1, _ => false
def plains : Nat → List D → Bool
  | _, [] => true
  | k, d :: ds => plain k d && plains k ds
end
theorem plains_get {k : Nat} : ∀ {l : List D} {j : Nat} {d : D}, plains k l = true → l[j]? = some d → plain k d = true
  | [], j, d, _, h => by simp at h
  | x :: l, 0, d, h, e => by
    unfold plains at h
    rw [Bool.and_eq_true] at h
    simp only [List.getElem?_cons_zero, Option.some.injEq] at e
    rw [← e]
    exact h.1
  | x :: l, j + 1, d, h, e => by
    unfold plains at h
    rw [Bool.and_eq_true] at h
    exact plains_get h.2 (by simpa using e)
theorem gEq_bl {a : Bool} : gEq (.bl a) (.bl a) = some (.bl true) := by
  show (if scal (V.bl a) (V.bl a) = true then some (decide (V.bl a = V.bl a)) else dEqG (.bl a) (.bl a)).map D.bl = _
  rw [if_pos (show scal (V.bl a) (V.bl a) = true from rfl)]
  simp
theorem gEq_str {a : PySem.Str} : gEq (.str a) (.str a) = some (.bl true) := by
  show (if scal (V.str a) (V.str a) = true then some (decide (V.str a = V.str a)) else dEqG (.str a) (.str a)).map D.bl = _
  rw [if_pos (show scal (V.str a) (V.str a) = true from rfl)]
  simp
theorem isi1 {δ : Ev} {s : S} {i : Nat} {d : D} {n c : String} {k : Bool} {Q : Bool → S → Prop} (hi : δ[i]? = some (.d d)) (e1 : tyN d = some n) (e2 : kitB n c = some k) (q : Q k s) : Wp (tTru (eCall gIsi (aCons (eVar i) (aCons (eC (.ty c)) aNil))) δ s) Q :=
  ⟨k, s, mv_tru (mv_call (mv_cons (mv_var hi) (mv_cons mv_c mv_nil)) (isi_of e1 e2)) rfl, q⟩
theorem and_tt {δ : Ev} {s : S} {F G : FE} {Q : D → S → Prop} (h1 : F δ s = .ok (.bl true) s) (h2 : Wp (G δ s) Q) : Wp (eAnd F G δ s) Q := by
  obtain ⟨d, s2, e, q⟩ := h2
  refine ⟨d, s2, ?_, q⟩
  unfold eAnd
  rw [h1, rb_ok]
  exact e
theorem same_ok {s : S} : ∀ (k : Nat) (d : D), plain k d = true → Wp (ms__law_same k [d, d] s) fun r s' => r = .bl true ∧ s' = s
  | 0, d, h => by unfold plain at h; cases h
  | k + 1, d, h => by
    obtain ⟨t1, t2, t3, t4, t5, t6, t7, t8, t9, t10, t11, t12, t13, t14, t15, t16, t17, t18⟩ := kit_tab
    unfold ms__law_same G__law_same
    apply wp_fn
    apply wp_seq
    apply wp_if
    apply wp_cmp
    walk_at "own wstep"
    walk_at "own wstep"
    have nn : ∀ d : D, Mi.isNon d = false → gIs d .non = some (.bl false) := fun d e => by
      have : gIs d .non = some (.bl (Mi.isNon d)) := by cases d <;> rfl
      rw [this, e]
    cases d with
    | non =>
      refine ⟨true, rfl, fun _ => ?_, fun z => by cases z⟩
      walk_at "own wstep"
      walk_at "own wstep"
      walk_at "own wstep"
      walk_at "own wstep"
      exact ⟨.bl true, rfl, rfl, rfl⟩
    | bl a =>
      refine ⟨false, nn _ rfl, fun z => (by cases z), fun _ => ?_⟩
      walk_at "own wstep"
      apply wp_seq
      apply wp_if
      refine isi1 rfl rfl t2 ⟨fun _ => ?_, fun z => by cases z⟩
      walk_at "own wstep"
      refine and_tt (mv_call (mv_cons (mv_var rfl) (mv_cons mv_c mv_nil)) (isi_of rfl t2)) ?_
      walk_at "own wstep"
      walk_at "own wstep"
      walk_at "own wstep"
      exact ⟨_, gEq_bl, rfl, rfl⟩
    | int a =>
      refine ⟨false, nn _ rfl, fun z => (by cases z), fun _ => ?_⟩
      walk_at "own wstep"
      apply wp_seq
      apply wp_if
      refine isi1 rfl rfl t3 ⟨fun z => (by cases z), fun _ => ?_⟩
      walk_at "own wstep"
      apply wp_seq
      apply wp_if
      refine isi1 rfl rfl t8 ⟨fun _ => ?_, fun z => by cases z⟩
      walk_at "own wstep"
      refine and_tt (mv_app (mv_cons (mv_var rfl) mv_nil) int_ok rfl) ?_
      walk_at "own wstep"
      walk_at "own wstep"
      walk_at "own wstep"
      exact ⟨_, gEq_int, by simp, rfl⟩
    | str a =>
      refine ⟨false, nn _ rfl, fun z => (by cases z), fun _ => ?_⟩
      walk_at "own wstep"
      apply wp_seq
      apply wp_if
      refine isi1 rfl rfl t4 ⟨fun z => (by cases z), fun _ => ?_⟩
      walk_at "own wstep"
      apply wp_seq
      apply wp_if
      refine isi1 rfl rfl t9 ⟨fun z => (by cases z), fun _ => ?_⟩
      walk_at "own wstep"
      apply wp_seq
      apply wp_if
      refine isi1 rfl rfl t12 ⟨fun _ => ?_, fun z => by cases z⟩
      walk_at "own wstep"
      refine and_tt (mv_call (mv_cons (mv_var rfl) (mv_cons mv_c mv_nil)) (isi_of rfl t12)) ?_
      walk_at "own wstep"
      walk_at "own wstep"
      walk_at "own wstep"
      exact ⟨_, gEq_str, rfl, rfl⟩
    | tup l =>
      unfold plain at h
      rw [Bool.and_eq_true] at h
      have hlen : l.length ≤ 1000 := of_decide_eq_true h.2
      refine ⟨false, nn _ rfl, fun z => (by cases z), fun _ => ?_⟩
      walk_at "own wstep"
      apply wp_seq
      apply wp_if
      refine isi1 rfl rfl t5 ⟨fun z => (by cases z), fun _ => ?_⟩
      walk_at "own wstep"
      apply wp_seq
      apply wp_if
      refine isi1 rfl rfl t10 ⟨fun z => (by cases z), fun _ => ?_⟩
      walk_at "own wstep"
      apply wp_seq
      apply wp_if
      refine isi1 rfl rfl t13 ⟨fun z => (by cases z), fun _ => ?_⟩
      walk_at "own wstep"
      apply wp_seq
      apply wp_if
      apply wp_and
      refine isi1 rfl rfl t15 ⟨fun _ => ⟨fun z => (by cases z), fun _ => ?_⟩, fun z => by cases z⟩
      walk_at "own wstep"
      apply wp_seq
      apply wp_if
      apply wp_and
      refine isi1 rfl rfl t17 ⟨fun z => (by cases z), fun _ => ?_⟩
      apply wp_not
      refine isi1 rfl rfl t17 ⟨fun z => (by cases z), fun _ => ?_⟩
      walk_at "own wstep"
      apply wp_seq
      apply wp_if
      apply wp_or
      apply wp_not
      have t19 : gIsi [.tup l, .tup [.ty "list", .ty "tuple"]] = some (.bl true) := by
        have e : kitL "tuple" ["list", "tuple"] = some true := by
          unfold kitL
          rw [t15]
          show kitL "tuple" ["tuple"] = _
          unfold kitL
          rw [t17]
        show (kitL "tuple" ["list", "tuple"]).map D.bl = _
        rw [e]
        rfl
      refine ⟨true, s, mv_tru (mv_call (mv_cons (mv_var rfl) (mv_cons (mv_tup (mv_cons mv_c (mv_cons mv_c mv_nil)) (by decide)) mv_nil)) t19) rfl, fun z => (by cases z), fun _ => ?_⟩
      have ln : gLen [.tup l] = some (.int l.length) := rfl
      have gne : gNe (.int l.length) (.int l.length) = some (.bl false) := by
        show (dEqB (.int l.length) (.int l.length)).map (fun k => D.bl (!k)) = _
        have : dEqB (.int l.length) (.int l.length) = some true := by
          have := gEq_int (i := (l.length : Int)) (j := l.length)
          unfold gEq at this
          obtain ⟨b, e1, e2⟩ := Option.map_eq_some_iff.mp this
          rw [e1]
          cases b
          · simp at e2
          · rfl
        rw [this]
        rfl
      refine ⟨false, s, mv_cmp (mv_call (mv_cons (mv_var rfl) mv_nil) ln) (mv_call (mv_cons (mv_var rfl) mv_nil) ln) gne, fun z => (by cases z), fun _ => ?_⟩
      walk_at "own wstep"
      obtain ⟨δ2, s2, e2, rfl, z, rfl⟩ := mv_for (I := iRng1 (aCons (eCall gLen (aCons (eVar 1) aNil)) aNil)) (N := nName 2) (G := sIf (tNot (tTru (eApp 2 [] (ms__law_same k) (aCons (eOp gIx (eVar 0) (eVar 2)) (aCons (eOp gIx (eVar 1) (eVar 2)) aNil))))) (sRet (eC (.bl false))) sNil)
        (δ := [.d (.tup l), .d (.tup l), .u]) (s := s) (s1 := s) (ds := rgL 0 ((l.length : Int).toNat)) (fun _ δ s' => s' = s ∧ ∃ z, δ = [.d (.tup l), .d (.tup l), z]) (mv_rng1 (mv_cons (mv_call (mv_cons (mv_var rfl) mv_nil) ln) mv_nil) (by omega) (by omega)) ⟨rfl, _, rfl⟩ (fun j d δ s' hd hP => by
          obtain ⟨rfl, z, rfl⟩ := hP
          obtain ⟨hj, rfl⟩ := rgL_get hd
          have hj2 : j < l.length := by omega
          have gx : gIx (.tup l) (.int (0 + (j : Int))) = some l[j] := by
            show atI l (0 + (j : Int)) = _
            unfold atI ixN
            rw [if_pos (by omega), if_pos (by omega)]
            have : (0 + (j : Int)).toNat = j := by omega
            simp [this, hj2]
          obtain ⟨r, s3, e3, rfl, rfl⟩ := same_ok (s := s') k l[j] (plains_get h.1 (List.getElem?_eq_getElem hj2))
          refine ⟨_, rfl, _, s3, ?_, rfl, .d (.int (0 + (j : Int))), rfl⟩
          exact mv_if_f (mv_not (mv_tru (mv_app (mv_cons (mv_op (mv_var rfl) (mv_var rfl) gx) (mv_cons (mv_op (mv_var rfl) (mv_var rfl) gx) mv_nil)) e3 rfl) rfl)) mv_snil)
      apply wp_seq
      refine ⟨_, _, e2, ?_⟩
      walk_at "own wstep"
      walk_at "own wstep"
      exact ⟨rfl, rfl⟩
    | lst l => unfold plain at h; cases h
    | sto => unfold plain at h; cases h
    | exc x => unfold plain at h; cases h
    | cls x => unfold plain at h; cases h
    | ty x => unfold plain at h; cases h
    | thk e p => unfold plain at h; cases h
theorem caught_val {p : D} {s : S} : m__law_caught [.thk none p] s = .ok (.tup [.str "returned", p]) s := by kernel_rfl
end A38
namespace A38
open PySem PySem.Spec PyProof.Rows L2 Mi
def cmpF (a b : Int) : Int := if a = b then 0 else if a < b then -1 else 1
theorem cmp_ok {a b : Int} {s : S} : m_compare_integers [.int a, .int b] s = .ok (.int (cmpF a b)) s := by
  unfold m_compare_integers G_compare_integers cmpF
  apply mv_fn
  by_cases h : a = b
  · rw [if_pos h]
    refine mv_seq_rt (mv_if_t (mv_cmp (mv_var rfl) (mv_var rfl) (b := true) ?_) (mv_ret mv_c))
    rw [Mi.gEq_int, decide_eq_true h]
  · rw [if_neg h]
    refine mv_seq (mv_if_f (mv_cmp (mv_var rfl) (mv_var rfl) (b := false) ?_) mv_snil) (mv_ret ?_)
    · rw [Mi.gEq_int, decide_eq_false h]
    · by_cases h2 : a < b
      · rw [if_pos h2]
        refine mv_eif_t (mv_cmp (mv_var rfl) (mv_var rfl) (b := true) ?_) (mv_un mv_c rfl)
        rw [Mi.gLt_int, decide_eq_true h2]
      · rw [if_neg h2]
        refine mv_eif_f (mv_cmp (mv_var rfl) (mv_var rfl) (b := false) ?_) mv_c
        rw [Mi.gLt_int, decide_eq_false h2]
theorem cmp_bits (a b : Int) : Builtin.Int.intBits (cmpF a b) ≤ 1 := by
  unfold cmpF
  split
  · decide
  · split <;> decide
theorem cmp_swap (a b : Int) : cmpF b a = - cmpF a b := by
  unfold cmpF
  split <;> split <;> (try split) <;> (try split) <;> omega
theorem cmp_self (a : Int) : cmpF a a = 0 := by
  unfold cmpF
  rw [if_pos rfl]
/-- data of the kinds that may be passed -/
def pl : D → Bool
  | .non => true
  | .bl _ => true
  | .int _ => true
  | .str _ => true
  | .tup _ => true
  | .lst _ => true
  | _ => false
theorem isint_ok {d : D} {s : S} (h : pl d = true) : m_is_integer [d] s = .ok (.bl (isI d)) s := by
  cases d <;> first | exact absurd h Bool.false_ne_true | kernel_rfl
theorem are_ok {l : List D} {m : Int} {s : S} (h : ∀ d ∈ l, pl d = true) (hl : l.length ≤ 1000) : m_are_integers [.tup l, .int m] s = .ok (.bl (decide ((l.length : Int) = m) && l.all isI)) s := by
  unfold m_are_integers G_are_integers
  apply mv_fn
  apply mv_ret
  unfold eAnd
  rw [show eOp gIs (eCall gType (aCons (eVar 0) aNil)) (eC (.ty "tuple")) (ev0 3 [.tup l, .int m]) s = .ok (.bl true) s from mv_op (mv_call (mv_cons (mv_var rfl) mv_nil) rfl) mv_c rfl, rb_ok]
  show rb (eOp gEq (eCall gLen (aCons (eVar 0) aNil)) (eVar 1) _ s) _ = _
  rw [show eOp gEq (eCall gLen (aCons (eVar 0) aNil)) (eVar 1) (ev0 3 [.tup l, .int m]) s = .ok (.bl (decide ((l.length : Int) = m))) s from mv_op (mv_call (mv_cons (mv_var rfl) mv_nil) gLen_tup) (mv_var rfl) Mi.gEq_int, rb_ok]
  cases decide ((l.length : Int) = m) with
  | false => rfl
  | true =>
    show eCall gAll _ _ _ = _
    refine mv_call (mv_cons (mv_lc (mv_iTpl (mv_var rfl)) (lcF_map (f := fun d => .bl (isI d)) l [] (fun d hd => mv_app (mv_cons (mv_var rfl) mv_nil) (isint_ok (h d hd)) rfl) (by simp; omega))) mv_nil) ?_
    rw [List.nil_append, gAll_map]
    rfl
theorem are_no {d : D} {m : Int} {s : S} (h : pl d = true) (ht : ∀ l, d ≠ .tup l) : m_are_integers [d, .int m] s = .ok (.bl false) s := by
  cases d <;> first | exact absurd h Bool.false_ne_true | (rename_i l; exact absurd rfl (ht l)) | kernel_rfl
/-- an exact number -/
abbrev ex (n d k : Int) : D := .tup [.int n, .int d, .int k]
structure Ex (n d k : Int) : Prop where
  d1 : 1 ≤ d
  kk : k = 1 ∨ k = 2
  n0 : k = 2 → 0 ≤ n
  nb : Builtin.Int.intBits n ≤ 12000
  db : Builtin.Int.intBits d ≤ 12000
def exB (n d k : Int) : Bool := if d < 1 ∨ k < 1 ∨ 2 < k ∨ (k = 2 ∧ n < 0) then false else (decide (Builtin.Int.intBits n ≤ 12000) && decide (Builtin.Int.intBits d ≤ 12000))
end A38
namespace A38
open PySem PySem.Spec PyProof.Rows L2 Mi
theorem Ex.b {n d k : Int} (h : Ex n d k) : exB n d k = true := by
  unfold exB
  have h1 := h.d1
  have h2 := h.kk
  have h3 := h.n0
  rw [if_neg (by omega), decide_eq_true h.nb, decide_eq_true h.db]
  rfl
theorem bmul {a b : Int} {m n : Nat} (h1 : Builtin.Int.intBits a ≤ m) (h2 : Builtin.Int.intBits b ≤ n) : Builtin.Int.intBits (a * b) ≤ m + n := PySem.intBits_mul_le h1 h2
theorem babs {a : Int} {n : Nat} (h : Builtin.Int.intBits a ≤ n) : Builtin.Int.intBits (a.natAbs : Int) ≤ n := PySem.intBits_le_iff.mpr (by
  have := PySem.intBits_le_iff.mp h
  omega)
theorem takeQ {b : Int} {s : S} {n : Nat} {Q : D → S → Prop} (h : SOk n s) (hn : n + 1 < 2 ^ 60) (hb : 2 ≤ b) (hbb : Builtin.Int.intBits b ≤ 100000) (q : ∀ (v : Int) s', SOk (n + 1) s' → 0 ≤ v → v < b → Q (.int v) s') : Wp (m__law_take [.sto, .int b] s) Q :=
  take_wp h hn hbb fun v s' o v0 v1 _ => q v s' o v0 (v1 hb)
theorem pow2 (k : Nat) : (1 : Int) ≤ 2 ^ k := by
  have := Nat.two_pow_pos k
  have e : ((2 : Int) ^ k) = ((2 ^ k : Nat) : Int) := by push_cast; rfl
  omega
theorem pow_le {a b : Nat} (h : a ≤ b) : (2 : Int) ^ a ≤ 2 ^ b := by
  have := Nat.pow_le_pow_right (show 0 < 2 by decide) h
  have e : ((2 : Int) ^ a) = ((2 ^ a : Nat) : Int) := by push_cast; rfl
  have e2 : ((2 : Int) ^ b) = ((2 ^ b : Nat) : Int) := by push_cast; rfl
  omega
theorem bits_of {i : Int} {k : Nat} (h : -(2 ^ k) < i) (h2 : i < 2 ^ k) : Builtin.Int.intBits i ≤ k := PySem.intBits_le_iff.mpr (by
  have e : ((2 : Int) ^ k) = ((2 ^ k : Nat) : Int) := by push_cast; rfl
  omega)
theorem b1 : Builtin.Int.intBits 1 ≤ 1 := by decide +kernel
theorem badd {a c : Int} {m : Nat} (h1 : Builtin.Int.intBits a ≤ m) (h2 : Builtin.Int.intBits c ≤ m) : Builtin.Int.intBits (a + c) ≤ m + 1 := Nat.le_trans (PySem.intBits_add_le h1 h2) (by omega)
theorem bsub {a c : Int} {m : Nat} (h1 : Builtin.Int.intBits a ≤ m) (h2 : Builtin.Int.intBits c ≤ m) : Builtin.Int.intBits (a - c) ≤ m + 1 := Nat.le_trans (PySem.intBits_sub_le h1 h2) (by omega)
/-- Builtin.Int.intBits of a shifted integer -/
theorem bshl {a : Int} {m j : Nat} (h : Builtin.Int.intBits a ≤ m) : Builtin.Int.intBits (a * 2 ^ j) ≤ m + (j + 1) := bmul h (by
  have := bits_pow (k := j)
  rwa [Int.one_mul] at this)
theorem bmono {a b : Int} {m : Nat} (h0 : 0 ≤ a) (h1 : a ≤ b) (h : Builtin.Int.intBits b ≤ m) : Builtin.Int.intBits a ≤ m := PySem.intBits_le_iff.mpr (by
  have := PySem.intBits_le_iff.mp h
  omega)
def pwF (b k : Int) : Int := if k = 1 then b else b * b
theorem pw_ok {b k : Int} {s : S} (h : Builtin.Int.intBits b ≤ 100000) : m_powered [.int b, .int k] s = .ok (.int (pwF b k)) s := by
  unfold m_powered G_powered pwF
  apply mv_fn
  apply mv_ret
  by_cases e : k = 1
  · rw [if_pos e]
    refine mv_eif_t (mv_cmp (mv_var rfl) mv_c (b := true) ?_) (mv_var rfl)
    rw [Mi.gEq_int, decide_eq_true e]
  · rw [if_neg e]
    refine mv_eif_f (mv_cmp (mv_var rfl) mv_c (b := false) ?_) (mv_op (mv_var rfl) (mv_var rfl) (gMul_int h h (by decide)))
    rw [Mi.gEq_int, decide_eq_false e]
def shF (k u : Int) : Int := if k = 1 then u else 2 * u
def ovF (n k u : Int) : Int := (n.natAbs : Int) * 2 ^ (max (-(shF k u)) 0).toNat
def unF (d k u : Int) : Int := d * 2 ^ (max (shF k u) 0).toNat
def ctF (n d k u : Int) : Int := if k = 1 then ovF n k u / unF d k u else ((Float64.isqrt (ovF n k u / unF d k u).toNat : Nat) : Int)
def wF (n d k u : Int) : Int := if ovF n k u = pwF (ctF n d k u) k * unF d k u then 0 else 2 + cmpF (ovF n k u * 2 ^ k.toNat) (pwF (2 * ctF n d k u + 1) k * unF d k u)
theorem gIsqrt_ok {i : Int} (h : 0 ≤ i) (hb : Builtin.Int.intBits i ≤ 200000) : gIsqrt [.int i] = some (.int ((Float64.isqrt i.toNat : Nat) : Int)) := if_pos ⟨h, hb⟩
theorem un_pos {n d k u : Int} (h : Ex n d k) : 1 ≤ unF d k u := by
  have a := pow2 (max (shF k u) 0).toNat
  have b := h.d1
  unfold unF
  have := Int.mul_le_mul b a (by decide) (by omega)
  omega
theorem ov_nn (n k u : Int) : 0 ≤ ovF n k u := Int.mul_nonneg (by omega) (by have := pow2 (max (-(shF k u)) 0).toNat; omega)
/-- the count, its square (or itself) at most the quotient, below the next -/
theorem ct_spec {n d k u : Int} (h : Ex n d k) : 0 ≤ ctF n d k u ∧ pwF (ctF n d k u) k * unF d k u ≤ ovF n k u ∧ ovF n k u < pwF (ctF n d k u + 1) k * unF d k u := by
  have hu := un_pos (u := u) h
  have ho := ov_nn n k u
  have q0 : 0 ≤ ovF n k u / unF d k u := Int.ediv_nonneg ho (by omega)
  have q1 : ovF n k u / unF d k u * unF d k u ≤ ovF n k u := Int.ediv_mul_le _ (by omega)
  have q2 : ovF n k u < (ovF n k u / unF d k u + 1) * unF d k u := Int.lt_ediv_add_one_mul_self _ (by omega)
  rcases h.kk with rfl | rfl
  · unfold ctF pwF
    simp only [if_pos]
    exact ⟨q0, q1, q2⟩
  · unfold ctF pwF
    rw [if_neg (by decide), if_neg (by decide), if_neg (by decide)]
    have sp := Float64.isqrt_spec (ovF n 2 u / unF d 2 u).toNat
    generalize Float64.isqrt (ovF n 2 u / unF d 2 u).toNat = r at sp ⊢
    generalize ovF n 2 u / unF d 2 u = q at q0 q1 q2 sp ⊢
    generalize unF d 2 u = U at hu q1 q2 ⊢
    have s1 : (r : Int) * r ≤ q := by
      have := sp.1
      have e : ((r * r : Nat) : Int) = (r : Int) * r := by push_cast; rfl
      omega
    have s2 : q + 1 ≤ ((r : Int) + 1) * (r + 1) := by
      have := sp.2
      have e : (((r + 1) * (r + 1) : Nat) : Int) = ((r : Int) + 1) * (r + 1) := by push_cast; rfl
      omega
    refine ⟨by omega, ?_, ?_⟩
    · exact Int.le_trans (Int.mul_le_mul_of_nonneg_right s1 (by omega)) q1
    · exact Int.lt_of_lt_of_le q2 (Int.mul_le_mul_of_nonneg_right s2 (by omega))
/-- the shift is small -/
def ShB (k u : Int) : Prop := -13000 ≤ shF k u ∧ shF k u ≤ 13000
theorem ov_b {n d k u : Int} (h : Ex n d k) (hs : ShB k u) : Builtin.Int.intBits (ovF n k u) ≤ 25001 := by
  obtain ⟨_, _⟩ := hs
  exact Nat.le_trans (bshl (babs h.nb)) (by omega)
theorem un_b {n d k u : Int} (h : Ex n d k) (hs : ShB k u) : Builtin.Int.intBits (unF d k u) ≤ 25001 := by
  obtain ⟨_, _⟩ := hs
  exact Nat.le_trans (bshl h.db) (by omega)
theorem le_mul1 {a b : Int} (ha : 0 ≤ a) (hb : 1 ≤ b) : a ≤ a * b := by
  have := Int.mul_le_mul_of_nonneg_left hb ha
  omega
theorem pw_b {b k : Int} {m : Nat} (h : Builtin.Int.intBits b ≤ m) : Builtin.Int.intBits (pwF b k) ≤ m + m := by
  unfold pwF
  split
  · omega
  · exact bmul h h
theorem ct_b {n d k u : Int} (h : Ex n d k) (hs : ShB k u) : Builtin.Int.intBits (ctF n d k u) ≤ 25001 := by
  obtain ⟨c0, c1, _⟩ := ct_spec (u := u) h
  have hu := un_pos (u := u) h
  have hp : pwF (ctF n d k u) k ≤ ovF n k u := by
    have : 0 ≤ pwF (ctF n d k u) k := by
      unfold pwF
      split
      · exact c0
      · exact Int.mul_nonneg c0 c0
    exact Int.le_trans (le_mul1 this hu) c1
  have hq : ctF n d k u ≤ pwF (ctF n d k u) k := by
    unfold pwF
    split
    · exact Int.le_refl _
    · rcases (show ctF n d k u = 0 ∨ 1 ≤ ctF n d k u by omega) with z | z
      · rw [z]
        decide
      · exact le_mul1 c0 z
  exact bmono c0 (Int.le_trans hq hp) (ov_b h hs)
theorem place_of_ok {n d k u : Int} {s : S} (h : Ex n d k) (hs : ShB k u) : m_place_of [ex n d k, .int u] s = .ok (.tup [.int (ctF n d k u), .int (wF n d k u)]) s := by
  have hu := hs
  obtain ⟨hs0, hs1⟩ := hs
  have cb := ct_b h hu
  have ob := ov_b h hu
  have ub := un_b h hu
  have u2 : -13000 ≤ u ∧ u ≤ 13000 := by
    have hs0 := hs0
    have hs1 := hs1
    unfold shF at hs0 hs1
    rcases h.kk with e | e
    · rw [if_pos e] at hs0 hs1
      omega
    · rw [if_neg (by omega)] at hs0 hs1
      omega
  have up := un_pos (u := u) h
  have on := ov_nn n k u
  have qn : 0 ≤ ovF n k u / unF d k u := Int.ediv_nonneg on (by omega)
  have ql : ovF n k u / unF d k u ≤ ovF n k u := Int.ediv_le_self _ on
  have sb : Builtin.Int.intBits (shF k u) ≤ 20 := bits_of (by omega) (by omega)
  have p1 := pw_b (k := k) cb
  have c2 : Builtin.Int.intBits (2 * ctF n d k u + 1) ≤ 25004 := by
    have := badd (m := 25003) (bmul (m := 2) (show Builtin.Int.intBits 2 ≤ 2 by decide +kernel) cb) (Nat.le_trans b1 (by decide))
    omega
  have p2 := pw_b (k := k) c2
  have e5 : ∀ {x0 x1 x2 x5 x6 x7 x8 : SV} {s : S}, eIf (tCmp gEq (eVar 9) (eC (.int 1))) (eOp (gI gDivB) (eVar 3) (eVar 4)) (eCall gIsqrt (aCons (eOp (gI gDivB) (eVar 3) (eVar 4)) aNil)) [x0, x1, x2, .d (.int (ovF n k u)), .d (.int (unF d k u)), x5, x6, x7, x8, .d (.int k)] s = .ok (.int (ctF n d k u)) s := fun {x0 x1 x2 x5 x6 x7 x8 s} => by
    have dv : gI gDivB (.int (ovF n k u)) (.int (unF d k u)) = some (.int (ovF n k u / unF d k u)) := gDivB_int (by omega)
    unfold ctF
    by_cases e : k = 1
    · rw [if_pos e]
      exact mv_eif_t (mv_cmp (mv_var rfl) mv_c (b := true) (by rw [Mi.gEq_int, decide_eq_true e])) (mv_op (mv_var rfl) (mv_var rfl) dv)
    · rw [if_neg e]
      exact mv_eif_f (mv_cmp (mv_var rfl) mv_c (b := false) (by rw [Mi.gEq_int, decide_eq_false e])) (mv_call (mv_cons (mv_op (mv_var rfl) (mv_var rfl) dv) mv_nil) (gIsqrt_ok qn (Nat.le_trans (bmono qn ql ob) (by decide))))
  have e2 : ∀ {x2 x3 x4 x5 x6 x7 x8 : SV} {s : S}, eIf (tCmp gEq (eVar 9) (eC (.int 1))) (eVar 1) (eOp (gI gMulI) (eC (.int 2)) (eVar 1)) [.d (ex n d k), .d (.int u), x2, x3, x4, x5, x6, x7, x8, .d (.int k)] s = .ok (.int (shF k u)) s := fun {x2 x3 x4 x5 x6 x7 x8 s} => by
    unfold shF
    by_cases e : k = 1
    · rw [if_pos e]
      exact mv_eif_t (mv_cmp (mv_var rfl) mv_c (b := true) (by rw [Mi.gEq_int, decide_eq_true e])) (mv_var rfl)
    · rw [if_neg e]
      exact mv_eif_f (mv_cmp (mv_var rfl) mv_c (b := false) (by rw [Mi.gEq_int, decide_eq_false e])) (mv_op mv_c (mv_var rfl) (gMul_int (m := 2) (n := 15) (by decide +kernel) (bits_of (by omega) (by omega)) (by decide)))
  have g3 : gI gShlI (.int (n.natAbs : Int)) (.int (max (-(shF k u)) 0)) = some (.int (ovF n k u)) := gShl_s (n := 12000) (by omega) (babs h.nb) (by omega)
  have g4 : gI gShlI (.int d) (.int (max (shF k u) 0)) = some (.int (unF d k u)) := gShl_s (n := 12000) (by omega) h.db (by omega)
  have m5 : gI gMulI (.int (pwF (ctF n d k u) k)) (.int (unF d k u)) = some (.int (pwF (ctF n d k u) k * unF d k u)) := gMul_int p1 ub (by decide)
  have m6 : gI gMulI (.int 2) (.int (ctF n d k u)) = some (.int (2 * ctF n d k u)) := gMul_int (m := 2) (by decide +kernel) cb (by decide)
  have m7 : gI gMulI (.int (pwF (2 * ctF n d k u + 1) k)) (.int (unF d k u)) = some (.int (pwF (2 * ctF n d k u + 1) k * unF d k u)) := gMul_int p2 ub (by decide)
  have hk : 0 ≤ k ∧ k ≤ 2 := by
    have := h.kk
    omega
  have g8 : gI gShlI (.int (ovF n k u)) (.int k) = some (.int (ovF n k u * 2 ^ k.toNat)) := gShl_s (n := 25001) hk.1 ob (by omega)
  unfold m_place_of G_place_of
  apply mv_fn
  refine mv_seq (mv_tgt (mv_var rfl) rfl) ?_
  refine mv_seq (mv_set e2) ?_
  refine mv_seq (mv_set (mv_op (mv_call (mv_cons (mv_var rfl) mv_nil) gAbs_i) (mv_call (mv_cons (mv_un (mv_var rfl) gNeg_int) (mv_cons mv_c mv_nil)) gMax2) g3)) ?_
  refine mv_seq (mv_set (mv_op (mv_var rfl) (mv_call (mv_cons (mv_var rfl) (mv_cons mv_c mv_nil)) gMax2) g4)) ?_
  refine mv_seq (mv_set e5) ?_
  unfold wF
  by_cases e : ovF n k u = pwF (ctF n d k u) k * unF d k u
  · rw [if_pos e]
    exact mv_seq_rt (mv_if_t (mv_cmp (mv_var rfl) (mv_op (mv_app (mv_cons (mv_var rfl) (mv_cons (mv_var rfl) mv_nil)) (pw_ok (Nat.le_trans cb (by decide))) rfl) (mv_var rfl) m5) (b := true) (by rw [Mi.gEq_int, decide_eq_true e])) (mv_ret (mv_tup (mv_cons (mv_var rfl) (mv_cons mv_c mv_nil)) (show 2 ≤ 100000 by decide))))
  · rw [if_neg e]
    refine mv_seq (mv_if_f (mv_cmp (mv_var rfl) (mv_op (mv_app (mv_cons (mv_var rfl) (mv_cons (mv_var rfl) mv_nil)) (pw_ok (Nat.le_trans cb (by decide))) rfl) (mv_var rfl) m5) (b := false) (by rw [Mi.gEq_int, decide_eq_false e])) mv_snil) ?_
    refine mv_seq (mv_set (mv_op (mv_app (mv_cons (mv_op (mv_op mv_c (mv_var rfl) m6) mv_c Mi.gAdd_int) (mv_cons (mv_var rfl) mv_nil)) (pw_ok (Nat.le_trans c2 (by decide))) rfl) (mv_var rfl) m7)) ?_
    exact mv_ret (mv_tup (mv_cons (mv_var rfl) (mv_cons (mv_op mv_c (mv_app (mv_cons (mv_op (mv_var rfl) (mv_var rfl) g8) (mv_cons (mv_var rfl) mv_nil)) cmp_ok rfl) Mi.gAdd_int) mv_nil)) (show 2 ≤ 100000 by decide))
end A38
namespace A38
open PySem PySem.Spec PyProof.Rows L2 Mi
theorem vb {δ : Ev} {i : Nat} {x : D} {s : S} (h1 : noT x = true) (h : δ[i]? = some (.d x)) : eVar i (capt δ) s = .ok x s := mv_var (capt_get h h1)
theorem gNe_str {a : PySem.Str} : gNe (.str a) (.str a) = some (.bl false) := by
  show (if scal (V.str a) (V.str a) = true then some (decide (V.str a = V.str a)) else dEqG (.str a) (.str a)).map (fun k => D.bl (!k)) = _
  rw [if_pos (show scal (V.str a) (V.str a) = true from rfl), decide_eq_true rfl]
  rfl
theorem cmp_lt {δ : Ev} {s : S} {F G : FE} {a b : Int} {r : Bool} (h1 : F δ s = .ok (.int a) s) (h2 : G δ s = .ok (.int b) s) (e : decide (a < b) = r) : tCmp gLt F G δ s = .ok r s := mv_cmp h1 h2 (by rw [Mi.gLt_int, e])
theorem cmp_gt {δ : Ev} {s : S} {F G : FE} {a b : Int} {r : Bool} (h1 : F δ s = .ok (.int a) s) (h2 : G δ s = .ok (.int b) s) (e : decide (b < a) = r) : tCmp gGt F G δ s = .ok r s := mv_cmp h1 h2 (by rw [Mi.gGt_int, e])
theorem cmp_ge {δ : Ev} {s : S} {F G : FE} {a b : Int} {r : Bool} (h1 : F δ s = .ok (.int a) s) (h2 : G δ s = .ok (.int b) s) (e : decide (b ≤ a) = r) : tCmp gGe F G δ s = .ok r s := mv_cmp h1 h2 (by rw [gGe_int, e])
theorem cmp_eq {δ : Ev} {s : S} {F G : FE} {a b : Int} {r : Bool} (h1 : F δ s = .ok (.int a) s) (h2 : G δ s = .ok (.int b) s) (e : decide (a = b) = r) : tCmp gEq F G δ s = .ok r s := mv_cmp h1 h2 (by rw [Mi.gEq_int, e])
theorem cmp_ne {δ : Ev} {s : S} {F G : FE} {a b : Int} {r : Bool} (h1 : F δ s = .ok (.int a) s) (h2 : G δ s = .ok (.int b) s) (e : (!decide (a = b)) = r) : tCmp gNe F G δ s = .ok r s := mv_cmp h1 h2 (by rw [gNe_int, e])
theorem p3 {δ : Ev} {s : S} {F1 F2 F3 : FE} {a b c : D} {i j l : Nat} (h1 : F1 δ s = .ok a s) (h2 : F2 δ s = .ok b s) (h3 : F3 δ s = .ok c s) : sPar3 i j l (aCons F1 (aCons F2 (aCons F3 aNil))) δ s = .ok (.nx (((δ.set i (.d a)).set j (.d b)).set l (.d c))) s := mv_par3 (mv_cons h1 (mv_cons h2 (mv_cons h3 mv_nil)))
theorem i0 {δ : Ev} {i : Nat} {a b c : Int} {s : S} (h : δ[i]? = some (.d (ex a b c))) : eOp gIx (eVar i) (eC (.int 0)) δ s = .ok (.int a) s := mv_op (mv_var h) mv_c rfl
theorem i1 {δ : Ev} {i : Nat} {a b c : Int} {s : S} (h : δ[i]? = some (.d (ex a b c))) : eOp gIx (eVar i) (eC (.int 1)) δ s = .ok (.int b) s := mv_op (mv_var h) mv_c rfl
theorem i2 {δ : Ev} {i : Nat} {a b c : Int} {s : S} (h : δ[i]? = some (.d (ex a b c))) : eOp gIx (eVar i) (eC (.int 2)) δ s = .ok (.int c) s := mv_op (mv_var h) mv_c rfl
theorem j0 {δ : Ev} {i : Nat} {a b : D} {s : S} (h : δ[i]? = some (.d (.tup [a, b]))) : eOp gIx (eVar i) (eC (.int 0)) δ s = .ok a s := mv_op (mv_var h) mv_c rfl
theorem j1 {δ : Ev} {i : Nat} {a b : D} {s : S} (h : δ[i]? = some (.d (.tup [a, b]))) : eOp gIx (eVar i) (eC (.int 1)) δ s = .ok b s := mv_op (mv_var h) mv_c rfl
theorem mul_s {δ : Ev} {s : S} {F G : FE} {a b : Int} {m n : Nat} (h1 : F δ s = .ok (.int a) s) (h2 : G δ s = .ok (.int b) s) (ha : Builtin.Int.intBits a ≤ m) (hb : Builtin.Int.intBits b ≤ n) (h : m + n ≤ 134217728) : eOp (gI gMulI) F G δ s = .ok (.int (a * b)) s := mv_op h1 h2 (gMul_int ha hb h)
def KF (k : Int) : Int := if k = 1 then 2 else 4
theorem pw_dbl {c k U : Int} : pwF (2 * c) k * U = KF k * (pwF c k * U) := by
  unfold pwF KF
  by_cases e : k = 1
  · rw [if_pos e, if_pos e, if_pos e, Int.mul_assoc]
  · rw [if_neg e, if_neg e, if_neg e]
    rw [show (2 : Int) * c * (2 * c) = 4 * (c * c) by rw [Int.mul_assoc, Int.mul_left_comm c 2 c, ← Int.mul_assoc]; rfl, Int.mul_assoc]
theorem kf_pow {k a : Int} (hk : k = 1 ∨ k = 2) : a * 2 ^ k.toNat = KF k * a := by
  unfold KF
  rcases hk with rfl | rfl
  · rw [if_pos rfl, Int.mul_comm]
    rfl
  · rw [if_neg (by decide), Int.mul_comm]
    rfl
theorem pw_lt {c k : Int} (hk : k = 1 ∨ k = 2) (c0 : 0 ≤ c) : pwF (2 * c) k < pwF (2 * c + 1) k := by
  unfold pwF
  rcases hk with rfl | rfl
  · rw [if_pos rfl, if_pos rfl]
    omega
  · rw [if_neg (by decide), if_neg (by decide)]
    generalize hx : 2 * c = x at *
    have : (x + 1) * (x + 1) = x * x + x + x + 1 := by rw [Int.add_mul, Int.mul_add, Int.one_mul, Int.mul_one]; omega
    have : 0 ≤ c := c0
    omega
theorem due_core {O L H K : Int} (hK : K = 2 ∨ K = 4) (h1 : L ≤ O) (hm : K * L < H) : (if O = L then 0 else 2 + cmpF (K * O) H) = if K * O < H then (if K * L < K * O then 1 else 0) else if H < K * O then 3 else 2 := by
  have e : (K * O = 2 * O ∧ K * L = 2 * L) ∨ (K * O = 4 * O ∧ K * L = 4 * L) := by
    rcases hK with rfl | rfl
    · exact .inl ⟨rfl, rfl⟩
    · exact .inr ⟨rfl, rfl⟩
  unfold cmpF
  generalize K * O = P at *
  generalize K * L = Q at *
  by_cases a : O = L
  · rw [if_pos a, if_pos (by omega), if_neg (by omega)]
  · rw [if_neg a]
    rcases Int.lt_trichotomy P H with z | z | z
    · rw [if_neg (by omega), if_pos z, if_pos z, if_pos (by omega)]
      rfl
    · rw [if_pos z, if_neg (by omega), if_neg (by omega)]
      rfl
    · rw [if_neg (by omega), if_neg (by omega), if_neg (by omega), if_pos z]
      rfl
/-- the answer of place, by whole parts -/
theorem w_due {n d k u : Int} (h : Ex n d k) : wF n d k u = if KF k * ovF n k u < pwF (2 * ctF n d k u + 1) k * unF d k u then (if pwF (2 * ctF n d k u) k * unF d k u < KF k * ovF n k u then 1 else 0) else if pwF (2 * ctF n d k u + 1) k * unF d k u < KF k * ovF n k u then 3 else 2 := by
  obtain ⟨c0, c1, c2⟩ := ct_spec (u := u) h
  have hu := un_pos (u := u) h
  have hl := pw_lt h.kk c0
  have hm := Int.mul_lt_mul_of_pos_right hl (show 0 < unF d k u by omega)
  have kk : KF k = 2 ∨ KF k = 4 := by
    unfold KF
    split
    · exact .inl rfl
    · exact .inr rfl
  unfold wF
  rw [kf_pow h.kk, pw_dbl]
  rw [pw_dbl] at hm
  exact due_core kk c1 hm
theorem mul_pos2 {a : Int} {k : Nat} {b : Int} : a * 2 ^ k < b * 2 ^ k ↔ a < b := by
  have := pow2 k
  exact Int.mul_lt_mul_right (by omega)
theorem sh_lt {n d : Int} {x y x' y' : Nat} (h : n * 2 ^ x < d * 2 ^ y) (e : y + x' = y' + x) : n * 2 ^ x' < d * 2 ^ y' := by
  have h1 := (mul_pos2 (k := x')).mpr h
  rw [Int.mul_assoc, Int.mul_assoc, ← Int.pow_add, ← Int.pow_add, e, Nat.add_comm x x', Int.pow_add, Int.pow_add, ← Int.mul_assoc, ← Int.mul_assoc] at h1
  exact mul_pos2.mp h1
theorem sh_le {n d : Int} {x y x' y' : Nat} (h : d * 2 ^ y ≤ n * 2 ^ x) (e : y + x' = y' + x) : d * 2 ^ y' ≤ n * 2 ^ x' := by
  rcases Int.lt_or_le (n * 2 ^ x') (d * 2 ^ y') with z | z
  · exact absurd (sh_lt z (show y' + x = y + x' by omega)) (by omega)
  · exact z
/-- n below 2 ^ p times d -/
def Gp (n d p : Int) : Prop := n * 2 ^ (-p).toNat < d * 2 ^ p.toNat
def Lp (n d p : Int) : Prop := d * 2 ^ p.toNat ≤ n * 2 ^ (-p).toNat
theorem gp_bits {n d : Int} (hn : n ≠ 0) (hd : 1 ≤ d) : Gp (n.natAbs) d ((Builtin.Int.intBits n : Int) - Builtin.Int.intBits d + 1) ∧ Lp (n.natAbs) d ((Builtin.Int.intBits n : Int) - Builtin.Int.intBits d - 1) ∧ 1 ≤ Builtin.Int.intBits n ∧ 1 ≤ Builtin.Int.intBits d := by
  have n1 : n.natAbs < 2 ^ Builtin.Int.intBits n := PySem.intBits_le_iff.mp (Nat.le_refl _)
  have d1 : d.natAbs < 2 ^ Builtin.Int.intBits d := PySem.intBits_le_iff.mp (Nat.le_refl _)
  have bn : 1 ≤ Builtin.Int.intBits n := by
    rcases Nat.eq_zero_or_pos (Builtin.Int.intBits n) with z | z
    · rw [z] at n1
      omega
    · exact z
  have bd : 1 ≤ Builtin.Int.intBits d := by
    rcases Nat.eq_zero_or_pos (Builtin.Int.intBits d) with z | z
    · rw [z] at d1
      omega
    · exact z
  have n2 : 2 ^ (Builtin.Int.intBits n - 1) ≤ n.natAbs := by
    rcases Nat.lt_or_ge n.natAbs (2 ^ (Builtin.Int.intBits n - 1)) with z | z
    · have := PySem.intBits_le_iff.mpr z
      omega
    · exact z
  have d2 : 2 ^ (Builtin.Int.intBits d - 1) ≤ d.natAbs := by
    rcases Nat.lt_or_ge d.natAbs (2 ^ (Builtin.Int.intBits d - 1)) with z | z
    · have := PySem.intBits_le_iff.mpr z
      omega
    · exact z
  generalize Builtin.Int.intBits n = p at *
  generalize Builtin.Int.intBits d = q at *
  have c : ∀ k : Nat, ((2 : Int) ^ k) = ((2 ^ k : Nat) : Int) := fun k => by push_cast; rfl
  have N1 : (n.natAbs : Int) < 2 ^ p := by rw [c]; omega
  have N2 : (2 : Int) ^ (p - 1) ≤ n.natAbs := by rw [c]; omega
  have D1 : d < 2 ^ q := by rw [c]; omega
  have D2 : (2 : Int) ^ (q - 1) ≤ d := by rw [c]; omega
  refine ⟨?_, ?_, bn, bd⟩
  · refine sh_lt (x := q - 1) (y := p) ?_ (by omega)
    have a := Int.mul_lt_mul_of_pos_right N1 (show (0 : Int) < 2 ^ (q - 1) by have := pow2 (q - 1); omega)
    have b := Int.mul_le_mul_of_nonneg_right D2 (show (0 : Int) ≤ 2 ^ p by have := pow2 p; omega)
    rw [Int.mul_comm (2 ^ (q - 1)) (2 ^ p)] at b
    omega
  · refine sh_le (x := q) (y := p - 1) ?_ (by omega)
    have a := Int.mul_le_mul_of_nonneg_right (Int.le_of_lt D1) (show (0 : Int) ≤ 2 ^ (p - 1) by have := pow2 (p - 1); omega)
    have b := Int.mul_le_mul_of_nonneg_right N2 (show (0 : Int) ≤ 2 ^ q by have := pow2 q; omega)
    rw [Int.mul_comm (2 ^ (p - 1)) (2 ^ q)] at b
    omega
theorem up_pow {a : Int} {x t : Nat} (h : 0 ≤ a) : a * 2 ^ x ≤ a * 2 ^ (x + t) := Int.mul_le_mul_of_nonneg_left (pow_le (by omega)) h
theorem gp_mono {n d p q : Int} (hd : 0 ≤ d) (h : Gp n d p) (e : p ≤ q) : Gp n d q := by
  have h2 : n * 2 ^ (-p).toNat < d * 2 ^ (p.toNat + (q - p).toNat) := Int.lt_of_lt_of_le h (up_pow hd)
  exact sh_lt h2 (by omega)
theorem lp_mono {n d p q : Int} (hn : 0 ≤ n) (h : Lp n d p) (e : q ≤ p) : Lp n d q := by
  have h2 : d * 2 ^ p.toNat ≤ n * 2 ^ ((-p).toNat + (p - q).toNat) := Int.le_trans h (up_pow hn)
  exact sh_le h2 (by omega)
end A38
namespace A38
open PySem PySem.Spec PyProof.Rows L2 Mi
theorem gEq_str2 {a b : PySem.Str} : gEq (.str a) (.str b) = some (.bl (decide (a = b))) := by
  show (if scal (V.str a) (V.str b) = true then some (decide (V.str a = V.str b)) else dEqG (.str a) (.str b)).map D.bl = _
  rw [if_pos (show scal (V.str a) (V.str b) = true from rfl)]
  simp
def stF (way : PySem.Str) (sg par w : Int) : Bool :=
  if w = 0 ∨ way = "zero" then false
  else if way = "up" then decide (sg = 0)
  else if way = "down" then decide (sg = 1)
  else if way = "odd" then decide (par = 0)
  else if w = 2 then (decide (way = "away") || decide (par = 1))
  else decide (w = 3)
theorem steps_ok {way : PySem.Str} {sg k w : Int} {s : S} : m_steps_up [.str way, .int sg, .int k, .int w] s = .ok (.bl (stF way sg (k % 2) w)) s := by
  unfold m_steps_up G_steps_up stF
  apply mv_fn
  by_cases h0 : w = 0
  · rw [if_pos (.inl h0)]
    refine mv_seq_rt (mv_if_t (mv_or_t (mv_cmp (mv_var rfl) mv_c (b := true) ?_)) (mv_ret mv_c))
    rw [Mi.gEq_int, decide_eq_true h0]
  by_cases hz : way = "zero"
  · rw [if_pos (.inr hz)]
    refine mv_seq_rt (mv_if_t (mv_or_f (mv_cmp (mv_var rfl) mv_c (b := false) ?_) (mv_cmp (mv_var rfl) mv_c (b := true) ?_)) (mv_ret mv_c))
    · rw [Mi.gEq_int, decide_eq_false h0]
    · rw [gEq_str2, decide_eq_true hz]
  rw [if_neg (fun z => z.elim h0 hz)]
  refine mv_seq (mv_if_f (mv_or_f (mv_cmp (mv_var rfl) mv_c (b := false) ?_) (mv_cmp (mv_var rfl) mv_c (b := false) ?_)) mv_snil) ?_
  · rw [Mi.gEq_int, decide_eq_false h0]
  · rw [gEq_str2, decide_eq_false hz]
  by_cases hu : way = "up"
  · rw [if_pos hu]
    refine mv_seq_rt (mv_if_t (mv_cmp (mv_var rfl) mv_c (b := true) ?_) (mv_ret (mv_op (mv_var rfl) mv_c Mi.gEq_int)))
    rw [gEq_str2, decide_eq_true hu]
  rw [if_neg hu]
  refine mv_seq (mv_if_f (mv_cmp (mv_var rfl) mv_c (b := false) ?_) mv_snil) ?_
  · rw [gEq_str2, decide_eq_false hu]
  by_cases hd : way = "down"
  · rw [if_pos hd]
    refine mv_seq_rt (mv_if_t (mv_cmp (mv_var rfl) mv_c (b := true) ?_) (mv_ret (mv_op (mv_var rfl) mv_c Mi.gEq_int)))
    rw [gEq_str2, decide_eq_true hd]
  rw [if_neg hd]
  refine mv_seq (mv_if_f (mv_cmp (mv_var rfl) mv_c (b := false) ?_) mv_snil) ?_
  · rw [gEq_str2, decide_eq_false hd]
  by_cases ho : way = "odd"
  · rw [if_pos ho]
    refine mv_seq_rt (mv_if_t (mv_cmp (mv_var rfl) mv_c (b := true) ?_) (mv_ret (mv_op (mv_op (mv_var rfl) mv_c (Mi.gMod_int (by decide))) mv_c Mi.gEq_int)))
    rw [gEq_str2, decide_eq_true ho]
  rw [if_neg ho]
  refine mv_seq (mv_if_f (mv_cmp (mv_var rfl) mv_c (b := false) ?_) mv_snil) ?_
  · rw [gEq_str2, decide_eq_false ho]
  by_cases h2 : w = 2
  · rw [if_pos h2]
    refine mv_seq_rt (mv_if_t (mv_cmp (mv_var rfl) mv_c (b := true) ?_) (mv_ret ?_))
    · rw [Mi.gEq_int, decide_eq_true h2]
    unfold eOr
    rw [mv_op (mv_var rfl) mv_c gEq_str2, rb_ok]
    cases decide (way = "away") with
    | true => rfl
    | false => exact mv_op (mv_op (mv_var rfl) mv_c (Mi.gMod_int (by decide))) mv_c Mi.gEq_int
  rw [if_neg h2]
  refine mv_seq (mv_if_f (mv_cmp (mv_var rfl) mv_c (b := false) ?_) mv_snil) ?_
  · rw [Mi.gEq_int, decide_eq_false h2]
  exact mv_ret (mv_op (mv_var rfl) mv_c Mi.gEq_int)
theorem choice_ok {way : PySem.Str} {sg k w : Int} {s : S} : m_choice [.str way, .int sg, .int k, .int w] s = .ok (.int (k + if stF way sg (k % 2) w then 1 else 0)) s := by
  unfold m_choice G_choice
  apply mv_fn
  apply mv_ret
  have h : tTru (eApp 4 [] m_steps_up (aCons (eVar 0) (aCons (eVar 1) (aCons (eVar 2) (aCons (eVar 3) aNil))))) (ev0 4 [.str way, .int sg, .int k, .int w]) s = .ok (stF way sg (k % 2) w) s := mv_tru (mv_app (mv_cons (mv_var rfl) (mv_cons (mv_var rfl) (mv_cons (mv_var rfl) (mv_cons (mv_var rfl) mv_nil)))) steps_ok rfl) rfl
  cases e : stF way sg (k % 2) w with
  | true =>
    rw [e] at h
    exact mv_eif_t h (mv_op (mv_var rfl) mv_c Mi.gAdd_int)
  | false =>
    rw [e] at h
    refine mv_eif_f h (mv_var ?_)
    show _ = some (SV.d (D.int (k + 0)))
    rw [Int.add_zero]
    rfl
/-! the power -/
def eF (n d : Int) : Int := (Builtin.Int.intBits n : Int) - Builtin.Int.intBits d
def pF (n d : Int) : Int := eF n d - (if decide ((n.natAbs : Int) * 2 ^ (-(eF n d)).toNat < d * 2 ^ (eF n d).toNat) = true then 1 else 0)
def qF (n d k : Int) : Int := pF n d / k
theorem p_spec {n d : Int} (hn : n ≠ 0) (hd : 1 ≤ d) (nb : Builtin.Int.intBits n ≤ 12000) (db : Builtin.Int.intBits d ≤ 12000) : Lp n.natAbs d (pF n d) ∧ Gp n.natAbs d (pF n d + 1) ∧ -12000 ≤ pF n d ∧ pF n d ≤ 12000 := by
  obtain ⟨g1, l1, bn, bd⟩ := gp_bits hn hd
  unfold pF
  by_cases c : (n.natAbs : Int) * 2 ^ (-(eF n d)).toNat < d * 2 ^ (eF n d).toNat
  · rw [if_pos (decide_eq_true c)]
    refine ⟨l1, ?_, ?_, ?_⟩
    · rw [Int.sub_add_cancel]
      exact c
    · unfold eF
      omega
    · unfold eF
      omega
  · rw [if_neg (by rw [decide_eq_false c]; decide)]
    rw [Int.sub_zero]
    refine ⟨Int.not_lt.mp c, g1, ?_, ?_⟩
    · unfold eF
      omega
    · unfold eF
      omega
theorem q_spec {n d k : Int} (h : Ex n d k) (hn : n ≠ 0) : Lp n.natAbs d (qF n d k * k) ∧ Gp n.natAbs d (qF n d k * k + k) ∧ -12001 ≤ qF n d k ∧ qF n d k ≤ 12001 ∧ -12001 ≤ qF n d k * k ∧ qF n d k * k ≤ 12001 := by
  obtain ⟨hL, hG, p0, p1⟩ := p_spec hn h.d1 h.nb h.db
  have d1 := h.d1
  unfold qF
  rcases h.kk with rfl | rfl
  · rw [Int.ediv_one, Int.mul_one]
    exact ⟨hL, hG, by omega, by omega, by omega, by omega⟩
  · exact ⟨lp_mono (by omega) hL (by omega), gp_mono (by omega) hG (by omega), by omega, by omega, by omega, by omega⟩
theorem babs_eq {n : Int} : Builtin.Int.intBits (n.natAbs : Int) = Builtin.Int.intBits n := by
  apply Nat.le_antisymm
  · exact babs (Nat.le_refl _)
  · refine PySem.intBits_le_iff.mpr ?_
    have := PySem.intBits_le_iff.mp (Nat.le_refl (Builtin.Int.intBits (n.natAbs : Int)))
    omega
theorem power_of_ok {n d k : Int} {s : S} (h : Ex n d k) (hn : n ≠ 0) : m_power_of [ex n d k] s = .ok (.int (qF n d k)) s := by
  obtain ⟨g1, l1, bn, bd⟩ := gp_bits hn h.d1
  have nb := h.nb
  have db := h.db
  have e0 : -12000 ≤ eF n d ∧ eF n d ≤ 12000 := by
    unfold eF
    omega
  have fin : ∀ {p : Int} {x5 : SV} {s : S}, sRet (eIf (tCmp gEq (eVar 4) (eC (.int 1))) (eVar 2) (eOp (gI gDivI) (eVar 2) (eC (.int 2)))) [.d (ex n d k), .d (.int n.natAbs), .d (.int p), .d (.int d), .d (.int k), x5] s = .ok (.rt (.int (p / k))) s := fun {p x5 s} => by
    rcases h.kk with rfl | rfl
    · rw [Int.ediv_one]
      exact mv_ret (mv_eif_t (cmp_eq (mv_var rfl) mv_c (decide_eq_true rfl)) (mv_var rfl))
    · exact mv_ret (mv_eif_f (cmp_eq (mv_var rfl) mv_c (decide_eq_false (by decide))) (mv_op (mv_var rfl) mv_c (gDiv_int (by decide) (by decide))))
  have five : ∀ {x5 : SV} {s : S}, sIf (tCmp gGe (eVar 2) (eC (.int 0))) (sSet 5 (eOp gLt (eVar 1) (eOp (gI gShlI) (eVar 3) (eVar 2)))) (sSet 5 (eOp gLt (eOp (gI gShlI) (eVar 1) (eUn gNeg (eVar 2))) (eVar 3))) [.d (ex n d k), .d (.int n.natAbs), .d (.int (eF n d)), .d (.int d), .d (.int k), x5] s = .ok (.nx [.d (ex n d k), .d (.int n.natAbs), .d (.int (eF n d)), .d (.int d), .d (.int k), .d (.bl (decide ((n.natAbs : Int) * 2 ^ (-(eF n d)).toNat < d * 2 ^ (eF n d).toNat)))]) s := fun {x5 s} => by
    by_cases e : 0 ≤ eF n d
    · rw [show (-(eF n d)).toNat = 0 by omega, show (n.natAbs : Int) * 2 ^ 0 = n.natAbs from Int.mul_one _]
      exact mv_if_t (cmp_ge (mv_var rfl) mv_c (decide_eq_true e)) (mv_set (mv_op (mv_var rfl) (mv_op (mv_var rfl) (mv_var rfl) (gShl_s (n := 12000) e db (by omega))) Mi.gLt_int))
    · rw [show (eF n d).toNat = 0 by omega, show d * 2 ^ 0 = d from Int.mul_one _]
      exact mv_if_f (cmp_ge (mv_var rfl) mv_c (decide_eq_false e)) (mv_set (mv_op (mv_op (mv_var rfl) (mv_un (mv_var rfl) gNeg_int) (gShl_s (n := 12000) (by omega) (babs nb) (by omega))) (mv_var rfl) Mi.gLt_int))
  unfold m_power_of G_power_of
  apply mv_fn
  refine mv_seq (mv_tgt (mv_var rfl) rfl) ?_
  refine mv_seq (mv_set (mv_call (mv_cons (mv_var rfl) mv_nil) gAbs_i)) ?_
  refine mv_seq (mv_set (mv_op (mv_un (mv_var rfl) gBits_int) (mv_un (mv_var rfl) gBits_int) gSub_int)) ?_
  rw [babs_eq]
  refine mv_seq five ?_
  unfold qF pF
  cases c : decide ((n.natAbs : Int) * 2 ^ (-(eF n d)).toNat < d * 2 ^ (eF n d).toNat) with
  | true => exact mv_seq (mv_if_t (mv_tru (x := .bl true) (mv_var rfl) rfl) (mv_set (mv_op (mv_var rfl) mv_c gSub_int))) fin
  | false =>
    rw [if_neg (by decide), Int.sub_zero]
    exact mv_seq (mv_if_f (mv_tru (x := .bl false) (mv_var rfl) rfl) mv_snil) fin
/-! the root -/
theorem amgm {x y r : Int} (h : x + y ≤ 2 * r) (hx : 0 ≤ x) (hy : 0 ≤ y) : x * y ≤ r * r := by
  have h1 : (x + y) * (x + y) ≤ (2 * r) * (2 * r) := Int.mul_le_mul h h (by omega) (by omega)
  have h2 : 0 ≤ (x - y) * (x - y) := by
    rcases Int.le_total 0 (x - y) with z | z
    · exact Int.mul_nonneg z z
    · exact Int.mul_nonneg_of_nonpos_of_nonpos z z
  have e1 : (x + y) * (x + y) = x * x + 2 * (x * y) + y * y := by
    rw [Int.add_mul, Int.mul_add, Int.mul_add, Int.mul_comm y x]
    omega
  have e2 : (x - y) * (x - y) = x * x - 2 * (x * y) + y * y := by
    rw [Int.sub_mul, Int.mul_sub, Int.mul_sub, Int.mul_comm y x]
    omega
  have e3 : (2 * r) * (2 * r) = 4 * (r * r) := by
    rw [Int.mul_assoc, Int.mul_left_comm r 2 r]
    omega
  omega
theorem newton {n k r : Int} (h1 : r * r ≤ n) (h2 : n < (r + 1) * (r + 1)) (hr : 0 ≤ r) (hk : r ≤ k) (k1 : 1 ≤ k) (n0 : 0 ≤ n) : r ≤ (k + n / k) / 2 ∧ (k ≤ (k + n / k) / 2 → k = r) ∧ ((k + n / k) / 2 < k → ((k + n / k) / 2 - r) * 2 ≤ k - r) := by
  have a : n / k * k ≤ n := Int.ediv_mul_le _ (by omega)
  have b : n < (n / k + 1) * k := Int.lt_ediv_add_one_mul_self _ (by omega)
  have q0 : 0 ≤ n / k := Int.ediv_nonneg n0 (by omega)
  generalize n / k = q at *
  have lo : 2 * r ≤ k + q := by
    rcases Int.lt_or_le (k + q) (2 * r) with z | z
    · have := amgm (x := q + 1) (y := k) (r := r) (by omega) (by omega) (by omega)
      omega
    · exact z
  have no : r + 1 ≤ q → r + 1 ≤ k → False := fun x y => by
    have := Int.mul_le_mul x y (by omega) q0
    omega
  refine ⟨by omega, fun h => ?_, fun h => ?_⟩
  · rcases Int.lt_or_le r k with z | z
    · exact (no (by omega) (by omega)).elim
    · omega
  · rcases Int.lt_or_le r q with z | z
    · rcases Int.lt_or_le r k with y | y
      · exact (no (by omega) (by omega)).elim
      · omega
    · omega
end A38
namespace A38
open PySem PySem.Spec PyProof.Rows L2 Mi
noncomputable def frBody : FS := (sSeq (sIf (tOr (tCmp gEq (eVar 0) (eC (.int 0))) (tCmp gGe (eOp (gI gDivI) (eOp gAdd (eVar 1) (eOp (gI gDivI) (eVar 0) (eVar 1))) (eC (.int 2))) (eVar 1))) (sRet (eOp (gI gMulI) (eVar 1) (eCall gInt (aCons (eOp gGt (eVar 0) (eC (.int 0))) aNil)))) sNil) (sSet 1 (eOp (gI gDivI) (eOp gAdd (eVar 1) (eOp (gI gDivI) (eVar 0) (eVar 1))) (eC (.int 2)))))
theorem p2s (j : Nat) : (2 : Int) ^ (j + 1) = 2 ^ j * 2 := Int.pow_succ _ _
theorem sp_core {K O L H : Int} (hK : K = 2 ∨ K = 4) (h1 : L ≤ O) (hm : K * L < H) : (if decide (L < O) = true then (1 : Int) else 0) + (if decide (H ≤ K * O) = true then 1 else 0) + (if decide (H < K * O) = true then 1 else 0) = if O = L then 0 else 2 + cmpF (K * O) H := by
  have e : (K * O = 2 * O ∧ K * L = 2 * L) ∨ (K * O = 4 * O ∧ K * L = 4 * L) := by
    rcases hK with rfl | rfl
    · exact .inl ⟨rfl, rfl⟩
    · exact .inr ⟨rfl, rfl⟩
  unfold cmpF
  generalize K * O = P at *
  generalize K * L = Q at *
  simp only [decide_eq_true_eq]
  by_cases a : O = L
  · rw [if_pos a, if_neg (by omega), if_neg (by omega), if_neg (by omega)]
    rfl
  · rw [if_neg a, if_pos (by omega)]
    rcases Int.lt_trichotomy P H with z | z | z
    · rw [if_neg (by omega), if_neg (by omega), if_neg (by omega), if_pos z]
      rfl
    · rw [if_pos (by omega), if_neg (by omega), if_pos z]
      rfl
    · rw [if_pos (by omega), if_pos z, if_neg (by omega), if_neg (by omega)]
      rfl
theorem hm_of {n d k u : Int} (h : Ex n d k) : KF k * (pwF (ctF n d k u) k * unF d k u) < pwF (2 * ctF n d k u + 1) k * unF d k u := by
  obtain ⟨c0, c1, c2⟩ := ct_spec (u := u) h
  have hu := un_pos (u := u) h
  have hl := pw_lt h.kk c0
  have hm := Int.mul_lt_mul_of_pos_right hl (show 0 < unF d k u by omega)
  rw [pw_dbl] at hm
  exact hm
theorem w_due0 {n d k u : Int} (h : Ex n d k) : wF n d k u = if ovF n k u = pwF (ctF n d k u) k * unF d k u then 0 else 2 + cmpF (KF k * ovF n k u) (pwF (2 * ctF n d k u + 1) k * unF d k u) := by
  unfold wF
  rw [kf_pow h.kk]
end A38
namespace A38
open PySem PySem.Spec PyProof.Rows L2 Mi
/-- one of the six -/
def Way (way : PySem.Str) : Prop := way = "even" ∨ way = "away" ∨ way = "zero" ∨ way = "up" ∨ way = "down" ∨ way = "odd"
theorem cmp_s {δ : Ev} {s : S} {F G : FE} {a b : PySem.Str} {r : Bool} (h1 : F δ s = .ok (.str a) s) (h2 : G δ s = .ok (.str b) s) (e : decide (a = b) = r) : tCmp gEq F G δ s = .ok r s := mv_cmp h1 h2 (by rw [gEq_str2, e])
theorem mv_eor {δ : Ev} {s : S} {F G : FE} {a b : Bool} (h1 : F δ s = .ok (.bl a) s) (h2 : G δ s = .ok (.bl b) s) : eOr F G δ s = .ok (.bl (a || b)) s := by
  unfold eOr
  rw [h1, rb_ok]
  cases a with
  | true => rfl
  | false => exact h2
theorem mv_eand {δ : Ev} {s : S} {F G : FE} {a b : Bool} (h1 : F δ s = .ok (.bl a) s) (h2 : G δ s = .ok (.bl b) s) : eAnd F G δ s = .ok (.bl (a && b)) s := by
  unfold eAnd
  rw [h1, rb_ok]
  cases a with
  | false => rfl
  | true => exact h2
theorem q_i {δ : Ev} {s : S} {F G : FE} {a b : Int} (h1 : F δ s = .ok (.int a) s) (h2 : G δ s = .ok (.int b) s) : eOp gEq F G δ s = .ok (.bl (decide (a = b))) s := mv_op h1 h2 Mi.gEq_int
theorem q_s {δ : Ev} {s : S} {F G : FE} {a b : PySem.Str} (h1 : F δ s = .ok (.str a) s) (h2 : G δ s = .ok (.str b) s) : eOp gEq F G δ s = .ok (.bl (decide (a = b))) s := mv_op h1 h2 gEq_str2
theorem and1 {c : Int} {δ : Ev} {s : S} {i : Nat} (h : δ[i]? = some (.d (.int c))) : eOp (gI gAndI) (eVar i) (eC (.int 1)) δ s = .ok (.int (c % 2)) s := mv_op (mv_var h) mv_c (by
  show gAndI c 1 = _
  unfold gAndI
  rw [bitAnd_m1])
def chV (way : PySem.Str) (sg c w : Int) : Int := c + if stF way sg (c % 2) w then 1 else 0
/-! formats -/
abbrev shp (p lo hi : Int) : D := .tup [.int p, .int lo, .int hi]
structure Shp (p lo hi : Int) : Prop where
  p2 : 2 ≤ p
  p140 : p ≤ 140
  l6 : -600 ≤ lo
  lh : lo ≤ hi
  h6 : hi ≤ 600
def shB (p lo hi : Int) : Bool := (decide (2 ≤ p) && decide (p ≤ 140)) && (decide (-600 ≤ lo) && (decide (lo ≤ hi) && decide (hi ≤ 600)))
theorem mv_chain {δ : Ev} {s s1 : S} {F : FE} {k : D → FE} {x : D} {r : R D} (h1 : F δ s = .ok x s1) (h2 : k x δ s1 = r) : eChain F k δ s = r := by
  unfold eChain
  rw [h1, rb_ok]
  exact h2
theorem mv_link {g : D → D → Option D} {δ : Ev} {s : S} {G : FE} {k : D → FE} {x y : D} {b c : Bool} (h1 : G δ s = .ok y s) (e : g x y = some (.bl b)) (h2 : k y δ s = .ok (.bl c) s) : cLink g G k x δ s = .ok (.bl (b && c)) s := by
  unfold cLink
  rw [h1, rb_ok, e]
  cases b with
  | true => exact h2
  | false => rfl
theorem mv_last {g : D → D → Option D} {δ : Ev} {s : S} {G : FE} {x y : D} {b : Bool} (h1 : G δ s = .ok y s) (e : g x y = some (.bl b)) : cLast g G x δ s = .ok (.bl b) s := by
  unfold cLast
  rw [h1, rb_ok, e]
  rfl
theorem isf_int {p lo hi : Int} {s : S} : m_is_format [shp p lo hi] s = .ok (.bl (shB p lo hi)) s := by
  unfold m_is_format G_is_format shB
  apply mv_fn
  refine mv_seq (mv_if_f (mv_not (b := true) (mv_tru (x := .bl true) (mv_app (mv_cons (mv_var rfl) (mv_cons mv_c mv_nil)) (are_ok (l := [.int p, .int lo, .int hi]) (m := 3) (by intro d hd; simp only [List.mem_cons, List.not_mem_nil, or_false] at hd; rcases hd with rfl | rfl | rfl <;> rfl) (show 3 ≤ 1000 by decide)) rfl) rfl)) mv_snil) ?_
  refine mv_seq (mv_tgt (mv_var rfl) rfl) (mv_ret (mv_eand ?_ ?_))
  · exact mv_chain mv_c (mv_link (mv_var rfl) gLe_int (mv_last mv_c gLe_int))
  · exact mv_chain (mv_un mv_c gNeg_int) (mv_link (mv_var rfl) gLe_int (mv_link (mv_var rfl) gLe_int (mv_last mv_c gLe_int)))
theorem Shp.b {p lo hi : Int} (h : Shp p lo hi) : shB p lo hi = true := by
  unfold shB
  rw [decide_eq_true h.p2, decide_eq_true h.p140, decide_eq_true h.l6, decide_eq_true h.lh, decide_eq_true h.h6]
  rfl
theorem cf_ok {p lo hi : Int} {s : S} (h : Shp p lo hi) : m_check_format [shp p lo hi] s = .ok .non s := by
  unfold m_check_format G_check_format
  refine mv_fn_nx (mv_if_f (mv_not (b := true) (mv_tru (x := .bl true) (mv_app (mv_cons (mv_var rfl) mv_nil) ?_ rfl) rfl)) mv_snil)
  rw [← h.b]
  exact isf_int
structure NotShp (d : D) : Prop where
  no : ∀ s, m_is_format [d] s = .ok (.bl false) s
  nt : noT d = true
theorem cf_bad {d : D} {s : S} (h : NotShp d) : m_check_format [d] s = .err "BadFormat" .non s := by
  unfold m_check_format G_check_format
  exact mv_fn_err (mv_if_t (mv_not (b := false) (mv_tru (x := .bl false) (mv_app (mv_cons (mv_var rfl) mv_nil) (h.no s) rfl) rfl)) rfl)
theorem isf_no {d : D} {s : S} (h : m_are_integers [d, .int 3] s = .ok (.bl false) s) : m_is_format [d] s = .ok (.bl false) s := by
  unfold m_is_format G_is_format
  exact mv_fn (mv_seq_rt (mv_if_t (mv_not (b := false) (mv_tru (x := .bl false) (mv_app (mv_cons (mv_var rfl) (mv_cons mv_c mv_nil)) h rfl) rfl)) (mv_ret mv_c)))
theorem ns_int {p lo hi : Int} (h : ¬ Shp p lo hi) : NotShp (shp p lo hi) := ⟨fun s => by
  rw [← show shB p lo hi = false by
    cases e : shB p lo hi with
    | false => rfl
    | true =>
      exfalso
      unfold shB at e
      simp only [Bool.and_eq_true, decide_eq_true_eq] at e
      exact h ⟨e.1.1, e.1.2, e.2.1, e.2.2.1, e.2.2.2⟩]
  exact isf_int, rfl⟩
theorem ns_tup {l : List D} (h : ∀ d ∈ l, pl d = true) (hl : l.length ≤ 1000) (hb : (decide ((l.length : Int) = 3) && l.all isI) = false) (nt : noTs l = true) : NotShp (.tup l) := ⟨fun s => isf_no (by rw [← hb]; exact are_ok h hl), nt⟩
theorem ns_other {d : D} (h : pl d = true) (ht : ∀ l, d ≠ .tup l) (nt : noT d = true) : NotShp d := ⟨fun s => isf_no (are_no h ht), nt⟩
/-! tininess -/
theorem tiny_ok {p lo hi q : Int} {s : S} : m_is_tiny [shp p lo hi, .int q] s = .ok (.bl (decide (q < lo + p - 1))) s := by
  unfold m_is_tiny G_is_tiny
  exact mv_fn (mv_ret (mv_op (mv_var rfl) (mv_op (mv_op (i1 rfl) (i0 rfl) Mi.gAdd_int) mv_c gSub_int) Mi.gLt_int))
theorem sgn_ok {n d k : Int} {s : S} : m_exact_sign [ex n d k] s = .ok (.int (if decide (n < 0) = true then 1 else 0)) s := by
  unfold m_exact_sign G_exact_sign
  refine mv_fn (mv_ret ?_)
  cases e : decide (n < 0) with
  | true => exact mv_eif_t (cmp_lt (i0 rfl) mv_c e) mv_c
  | false => exact mv_eif_f (cmp_lt (i0 rfl) mv_c e) mv_c
def erF (p lo n d k : Int) : Bool := decide (0 < n.natAbs) && decide (qF n d k < lo + p - 1)
theorem nz_pos {n : Int} : (!decide (n = 0)) = decide (0 < n.natAbs) := by
  by_cases h : n = 0
  · subst h
    rfl
  · rw [decide_eq_false h, decide_eq_true (show 0 < n.natAbs by omega)]
    rfl
theorem q_iff {n d k P : Int} (h : Ex n d k) (hn : n ≠ 0) : qF n d k < P ↔ Gp n.natAbs d (P * k) := by
  obtain ⟨hL, hG, _, _, _, _⟩ := q_spec h hn
  have d1 := h.d1
  have kk := h.kk
  constructor
  · intro z
    refine gp_mono (by omega) hG ?_
    rcases kk with rfl | rfl <;> omega
  · intro z
    rcases Int.lt_or_le (qF n d k) P with y | y
    · exact y
    · exfalso
      have : Lp n.natAbs d (P * k) := lp_mono (by omega) hL (by rcases kk with rfl | rfl <;> omega)
      exact absurd z (Int.not_lt.mpr this)
/-! .. after rounding -/
def uF (p n d k : Int) : Int := qF n d k - p + 1
def ltF (way : PySem.Str) (p lo n d k : Int) : Bool := if n = 0 then false else decide ((Builtin.Int.intBits (chV way (if decide (n < 0) = true then 1 else 0) (ctF n d k (uF p n d k)) (wF n d k (uF p n d k))) : Int) + uF p n d k < p + lo)
theorem u_sh {p n d k : Int} (h : Ex n d k) (hn : n ≠ 0) (p0 : 2 ≤ p) (p1 : p ≤ 140) : ShB k (uF p n d k) := by
  obtain ⟨_, _, a, b, c, e⟩ := q_spec h hn
  unfold ShB shF uF
  rcases h.kk with rfl | rfl
  · rw [if_pos rfl]
    omega
  · rw [if_neg (by decide)]
    omega
theorem w_rng {n d k u : Int} : 0 ≤ wF n d k u ∧ wF n d k u ≤ 3 := by
  unfold wF cmpF
  split
  · omega
  · split
    · omega
    · split <;> omega
theorem u_q {p n d k : Int} (h : Ex n d k) (hn : n ≠ 0) (p0 : 2 ≤ p) (p1 : p ≤ 140) : Builtin.Int.intBits (ovF n k (uF p n d k) / unF d k (uF p n d k)) ≤ 600 := by
  obtain ⟨_, hG, _, _, _, _⟩ := q_spec h hn
  have up := un_pos (u := uF p n d k) h
  have on := ov_nn n k (uF p n d k)
  have d1 := h.d1
  have hg : Gp n.natAbs d (shF k (uF p n d k) + (p * k)) := gp_mono (by omega) hG (by
    unfold shF uF
    rcases h.kk with rfl | rfl
    · rw [if_pos rfl]
      omega
    · rw [if_neg (by decide)]
      omega)
  have pk : 0 ≤ p * k ∧ p * k ≤ 280 := by
    rcases h.kk with rfl | rfl <;> omega
  have lt : ovF n k (uF p n d k) < unF d k (uF p n d k) * 2 ^ (p * k).toNat := by
    unfold ovF unF
    rw [Int.mul_assoc, ← Int.pow_add]
    exact sh_lt hg (by omega)
  have q0 : 0 ≤ ovF n k (uF p n d k) / unF d k (uF p n d k) := Int.ediv_nonneg on (by omega)
  have ql : ovF n k (uF p n d k) / unF d k (uF p n d k) < 2 ^ (p * k).toNat := Int.ediv_lt_of_lt_mul (by omega) (by rw [Int.mul_comm]; exact lt)
  exact Nat.le_trans (bits_of (k := (p * k).toNat) (by have := pow2 (p * k).toNat; omega) ql) (by omega)
end A38
namespace A38
open PySem PySem.Spec PyProof.Rows L2 Mi
theorem wide_form_ok {s : S} {n : Nat} {Q : D → S → Prop} (h : SOk n s) (hn : n + 10 < 2 ^ 60) (q : ∀ (p lo hi : Int) s', 2 ≤ p → p ≤ 140 → -600 ≤ lo → lo ≤ hi → hi ≤ 600 → SOk (n + 6) s' → Q (.tup [.int p, .int lo, .int hi]) s') : Wp (m__law_wide_form [.sto] s) Q := by
  unfold m__law_wide_form G__law_wide_form
  apply wp_fn
  walk_at "own wgo"
  refine edge_ok h (by omega) (by decide) (by decide) (by decide) fun p s1 p0 p1 ok1 => ?_
  walk_at "own wgo"
  refine edge_ok ok1 (by omega) (by decide) (by decide) (by decide) fun lo s2 l0 l1 ok2 => ?_
  walk_at "own wgo"
  refine edge_ok ok2 (by omega) l1 (PySem.intBits_le_iff.mpr (by omega)) (by decide) fun hi s3 h0 h1 ok3 => ?_
  walk_at "own wgo"
  exact q p lo hi s3 p0 p1 l0 h0 h1 ok3
def halfF (p : Int) : Int := 1 * 2 ^ (p - 1).toNat
def lastF (p lo hi : Int) : Int := halfF p * (hi - lo + 2) - 1
theorem half_b {p lo hi : Int} (h : Shp p lo hi) : 2 ≤ halfF p ∧ halfF p ≤ 2 ^ 139 := by
  have h1 := h.p2
  have h2 := h.p140
  have a := pow_le (show 1 ≤ (p - 1).toNat by omega)
  have b := pow_le (show (p - 1).toNat ≤ 139 by omega)
  unfold halfF
  omega
theorem half_mul {p lo hi : Int} (h : Shp p lo hi) {c : Int} (c0 : 0 ≤ c) (c1 : c ≤ 2000) : 0 ≤ halfF p * c ∧ halfF p * c ≤ 2 ^ 150 := by
  obtain ⟨a, b⟩ := half_b h
  refine ⟨Int.mul_nonneg (by omega) c0, ?_⟩
  have := Int.mul_le_mul b c1 c0 (by omega)
  omega
def spD (p lo hi kind i : Int) : Ev := [.d .sto, .d (shp p lo hi), .d (.int (halfF p)), .d (.int (lastF p lo hi)), .d (.int kind), .d (.int i), .u, .u, .u, .d (.int p), .d (.int lo), .d (.int hi), .u, .u]
def spA : FS := sIf (tCmp gEq (eVar 4) (eC (.int 0))) (sSet 5 (eApp 2 [] m__law_take (aCons (eVar 0) (aCons (eC (.int 2)) aNil)))) sNil
def spB : FS := sIf (tOr (tCmp gEq (eVar 4) (eC (.int 1))) (tCmp gEq (eVar 4) (eC (.int 2)))) (sSet 5 (eOp (gI gSubI) (eOp gAdd (eVar 3) (eC (.int 1))) (eVar 4))) sNil
def spC : FS := sIf (tCmp gEq (eVar 4) (eC (.int 3))) (sSet 5 (eOp gAdd (eVar 3) (eC (.int 1)))) sNil
def spE : FS := sIf (tCmp gEq (eVar 4) (eC (.int 4))) (sSet 5 (eOp gAdd (eOp (gI gSubI) (eOp (gI gMulI) (eVar 2) (eOp gAdd (eC (.int 1)) (eApp 2 [] m__law_take (aCons (eVar 0) (aCons (eOp gAdd (eOp (gI gSubI) (eVar 11) (eVar 10)) (eC (.int 2))) aNil))))) (eC (.int 1))) (eApp 2 [] m__law_take (aCons (eVar 0) (aCons (eC (.int 3)) aNil))))) sNil
def spF : FS := sIf (tCmp gEq (eVar 4) (eC (.int 5))) (sSet 5 (eOp (gI gSubI) (eVar 2) (eApp 2 [] m__law_take (aCons (eVar 0) (aCons (eC (.int 2)) aNil))))) sNil
/-- what the drawn rank keeps -/
def SpI (p lo hi kind : Int) (m : Nat) (fl : Fl) (s : S) : Prop := ∃ i, fl = .nx (spD p lo hi kind i) ∧ 0 ≤ i ∧ i ≤ lastF p lo hi + halfF p ∧ SOk m s
section
variable {p lo hi kind i : Int} {s : S} {n : Nat}
theorem spA_ok (hs : Shp p lo hi) (h : SOk n s) (hn : n + 100 < 2 ^ 60) (i0 : 0 ≤ i) (i1 : i ≤ lastF p lo hi + halfF p) : Wp (spA (spD p lo hi kind i) s) (SpI p lo hi kind (n + 2)) := by
  obtain ⟨ha, hb⟩ := half_b hs
  have h4 := hs.lh
  have m2 : halfF p * 2 ≤ halfF p * (hi - lo + 2) := Int.mul_le_mul_of_nonneg_left (by omega) (by omega)
  have hl : lastF p lo hi = halfF p * (hi - lo + 2) - 1 := rfl
  unfold spA spD
  walk_at "own wgo"
  refine ⟨fun _ => ?_, fun _ => ?_⟩
  · walk_at "own wgo"
    refine takeQ h (by omega) (by decide) (by decide) fun t s1 ok1 t0 t1 => ?_
    exact ⟨t, rfl, t0, by omega, ok1.mono (by omega)⟩
  · walk_at "own wgo"
    exact ⟨i, rfl, i0, i1, h.mono (by omega)⟩
theorem spB_ok (hs : Shp p lo hi) (h : SOk n s) (i0 : 0 ≤ i) (i1 : i ≤ lastF p lo hi + halfF p) : Wp (spB (spD p lo hi kind i) s) (SpI p lo hi kind n) := by
  obtain ⟨ha, hb⟩ := half_b hs
  have h4 := hs.lh
  have m2 : halfF p * 2 ≤ halfF p * (hi - lo + 2) := Int.mul_le_mul_of_nonneg_left (by omega) (by omega)
  have hl : lastF p lo hi = halfF p * (hi - lo + 2) - 1 := rfl
  unfold spB spD
  walk_at "own wgo"
  refine ⟨fun e => ⟨fun _ => ?_, fun z => nomatch z⟩, fun e => ?_⟩
  · have e := of_decide_eq_true e
    walk_at "own wgo"
    exact ⟨_, rfl, by omega, by omega, h⟩
  walk_at "own wgo"
  refine ⟨fun e => ?_, fun e => ?_⟩
  · have e := of_decide_eq_true e
    walk_at "own wgo"
    exact ⟨_, rfl, by omega, by omega, h⟩
  · walk_at "own wgo"
    exact ⟨i, rfl, i0, i1, h⟩
theorem spC_ok (hs : Shp p lo hi) (h : SOk n s) (i0 : 0 ≤ i) (i1 : i ≤ lastF p lo hi + halfF p) : Wp (spC (spD p lo hi kind i) s) (SpI p lo hi kind n) := by
  obtain ⟨ha, hb⟩ := half_b hs
  have h4 := hs.lh
  have m2 : halfF p * 2 ≤ halfF p * (hi - lo + 2) := Int.mul_le_mul_of_nonneg_left (by omega) (by omega)
  have hl : lastF p lo hi = halfF p * (hi - lo + 2) - 1 := rfl
  unfold spC spD
  walk_at "own wgo"
  refine ⟨fun e => ?_, fun e => ?_⟩
  · walk_at "own wgo"
    exact ⟨_, rfl, by omega, by omega, h⟩
  · walk_at "own wgo"
    exact ⟨i, rfl, i0, i1, h⟩
theorem spE_ok (hs : Shp p lo hi) (h : SOk n s) (hn : n + 100 < 2 ^ 60) (i0 : 0 ≤ i) (i1 : i ≤ lastF p lo hi + halfF p) : Wp (spE (spD p lo hi kind i) s) (SpI p lo hi kind (n + 2)) := by
  obtain ⟨ha, hb⟩ := half_b hs
  have h3 := hs.l6
  have h4 := hs.lh
  have h5 := hs.h6
  have hl : lastF p lo hi = halfF p * (hi - lo + 2) - 1 := rfl
  unfold spE spD
  walk_at "own wgo"
  refine ⟨fun e => ?_, fun e => ?_⟩
  · walk_at "own wgo"
    refine takeQ h (by omega) (by omega) (Nat.le_trans (bits_of (k := 20) (by omega) (by omega)) (by decide)) fun t s1 ok1 t0 t1 => ?_
    walk_at "own wgo"
    obtain ⟨m0, m1⟩ := half_mul hs (c := 1 + t) (by omega) (by omega)
    have m2 : halfF p * 1 ≤ halfF p * (1 + t) := Int.mul_le_mul_of_nonneg_left (by omega) (by omega)
    have m3 : halfF p * (1 + t) ≤ halfF p * (hi - lo + 2) := Int.mul_le_mul_of_nonneg_left (by omega) (by omega)
    refine ⟨_, gMul_int (m := 150) (n := 20) (bits_of (by omega) (by omega)) (bits_of (by omega) (by omega)) (by decide), ?_⟩
    walk_at "own wgo"
    refine takeQ ok1 (by omega) (by decide) (by decide) fun u s2 ok2 u0 u1 => ?_
    walk_at "own wgo"
    exact ⟨_, rfl, by omega, by omega, ok2⟩
  · walk_at "own wgo"
    exact ⟨i, rfl, i0, i1, h.mono (by omega)⟩
theorem spF_ok (hs : Shp p lo hi) (h : SOk n s) (hn : n + 100 < 2 ^ 60) (i0 : 0 ≤ i) (i1 : i ≤ lastF p lo hi + halfF p) : Wp (spF (spD p lo hi kind i) s) (SpI p lo hi kind (n + 2)) := by
  obtain ⟨ha, hb⟩ := half_b hs
  have h4 := hs.lh
  have m2 : halfF p * 2 ≤ halfF p * (hi - lo + 2) := Int.mul_le_mul_of_nonneg_left (by omega) (by omega)
  have hl : lastF p lo hi = halfF p * (hi - lo + 2) - 1 := rfl
  unfold spF spD
  walk_at "own wgo"
  refine ⟨fun e => ?_, fun e => ?_⟩
  · walk_at "own wgo"
    refine takeQ h (by omega) (by decide) (by decide) fun t s1 ok1 t0 t1 => ?_
    walk_at "own wgo"
    exact ⟨_, rfl, by omega, by omega, ok1.mono (by omega)⟩
  · walk_at "own wgo"
    exact ⟨i, rfl, i0, i1, h.mono (by omega)⟩
end
/-- an exact number, its parts of at most b Builtin.Int.intBits -/
structure ExB (b : Nat) (n d k : Int) : Prop where
  d1 : 1 ≤ d
  kk : k = 1 ∨ k = 2
  n0 : k = 2 → 0 ≤ n
  nb : Builtin.Int.intBits n ≤ b
  db : Builtin.Int.intBits d ≤ b
theorem ExB.ex {b : Nat} {n d k : Int} (h : ExB b n d k) (hb : b ≤ 12000) : Ex n d k := ⟨h.d1, h.kk, h.n0, Nat.le_trans h.nb hb, Nat.le_trans h.db hb⟩
theorem ExB.mono {b c : Nat} {n d k : Int} (h : ExB b n d k) (hb : b ≤ c) : ExB c n d k := ⟨h.d1, h.kk, h.n0, Nat.le_trans h.nb hb, Nat.le_trans h.db hb⟩
theorem bsm {a : Int} {m : Nat} (h0 : -8 < a) (h1 : a < 8) (hm : 3 ≤ m) : Builtin.Int.intBits a ≤ m := Nat.le_trans (bits_of (k := 3) (by omega) (by omega)) hm
end A38
namespace A38
open PySem PySem.Spec PyProof.Rows L2 Mi
/-- no integer -/
structure NoI (d : D) : Prop where
  no : isI d = false
  p : pl d = true
  nt : noT d = true
theorem no_integer_ok {s : S} {n : Nat} {Q : D → S → Prop} (h : SOk n s) (hn : n + 1 < 2 ^ 60) (q : ∀ d s', NoI d → SOk (n + 1) s' → Q d s') : Wp (m__law_no_integer [.sto] s) Q := by
  unfold m__law_no_integer G__law_no_integer
  apply wp_fn
  refine wp_seq_mv (mv_set (mv_lst (mv_cons mv_c (mv_cons mv_c (mv_cons mv_c (mv_cons mv_c (mv_cons mv_c (mv_cons (mv_tup (mv_cons mv_c mv_nil) (by decide)) (mv_cons (mv_tup mv_nil (by decide)) (mv_cons (mv_lst (mv_cons mv_c mv_nil) (by decide)) (mv_cons (mv_lst mv_nil (by decide)) mv_nil))))))))) (by decide))) ?_
  walk_at "own wgo"
  refine takeQ h (by omega) (by decide) (by decide) fun t s' ok' t0 t1 => ?_
  have t1 : t < 9 := t1
  have : t = 0 ∨ t = 1 ∨ t = 2 ∨ t = 3 ∨ t = 4 ∨ t = 5 ∨ t = 6 ∨ t = 7 ∨ t = 8 := by omega
  rcases this with rfl | rfl | rfl | rfl | rfl | rfl | rfl | rfl | rfl
  all_goals exact ⟨_, rfl, q _ s' ⟨rfl, rfl, rfl⟩ ok'⟩
theorem big : ¬ Builtin.Int.intBits (1 * 2 ^ (12000 : Int).toNat) ≤ 12000 := fun h => by
  have h := PySem.intBits_le_iff.mp h
  have e : ((1 : Int) * 2 ^ (12000 : Int).toNat) = ((2 ^ 12000 : Nat) : Int) := by rw [Int.one_mul]; push_cast; rfl
  rw [e] at h
  simp at h
theorem big2 : ¬ Builtin.Int.intBits (0 - 1 * 2 ^ (12000 : Int).toNat) ≤ 12000 := fun h => by
  have h := PySem.intBits_le_iff.mp h
  have e : ((0 : Int) - 1 * 2 ^ (12000 : Int).toNat) = -((2 ^ 12000 : Nat) : Int) := by rw [Int.one_mul, Int.zero_sub]; push_cast; rfl
  rw [e] at h
  simp at h
theorem exB_n {n d k : Int} (h : ¬ Builtin.Int.intBits n ≤ 12000) : exB n d k = false := by
  unfold exB
  split
  · rfl
  · rw [decide_eq_false h]
    rfl
theorem exB_d {n d k : Int} (h : ¬ Builtin.Int.intBits d ≤ 12000) : exB n d k = false := by
  unfold exB
  split
  · rfl
  · rw [decide_eq_false h, Bool.and_false]
theorem exB_c {n d k : Int} (h : d < 1 ∨ k < 1 ∨ 2 < k ∨ (k = 2 ∧ n < 0)) : exB n d k = false := if_pos h
theorem pl3 {a b c : D} (ha : pl a = true) (hb : pl b = true) (hc : pl c = true) : ∀ d ∈ [a, b, c], pl d = true := fun d hd => by
  simp only [List.mem_cons, List.not_mem_nil, or_false] at hd
  rcases hd with rfl | rfl | rfl <;> assumption
end A38
namespace A38
open PySem PySem.Spec PyProof.Rows L2 Mi
theorem sq_nn (n : Int) : 0 ≤ n * n := by
  rcases Int.le_total 0 n with z | z
  · exact Int.mul_nonneg z z
  · exact Int.mul_nonneg_of_nonpos_of_nonpos z z
structure BadM (d : D) : Prop where
  bad : ∀ s, m_check_mode [d] s = .err "BadMode" .non s
  nt : noT d = true
end A38
namespace A38
open PySem PySem.Spec PyProof.Rows L2 Mi
theorem apB {x0 x1 x3 x4 x5 : SV} {l : List D} {F : FE} {B : FS} {s s1 : S} {r : R Fl} {d : D} (h1 : F [x0, x1, .o l, x3, x4, x5] s = .ok d s1) (hl : l.length < 100000) (h2 : B [x0, x1, .o (l ++ [d]), x3, x4, x5] s1 = r) : sSeq (sApp 2 F) B [x0, x1, .o l, x3, x4, x5] s = r := mv_seq (mv_sApp rfl h1 hl) h2
theorem exB2 {x0 x1 x3 x4 x5 : SV} {l es : List D} {F : FA} {B : FS} {s s1 : S} {r : R Fl} (h1 : F [x0, x1, .o l, x3, x4, x5] s = .ok es s1) (hl : es.length ≤ 50000 ∧ l.length ≤ 50000) (h2 : B [x0, x1, .o (l ++ es), x3, x4, x5] s1 = r) : sSeq (sExt 2 F) B [x0, x1, .o l, x3, x4, x5] s = r := mv_seq (mv_sExt rfl h1 hl) h2
theorem tp2 {δ : Ev} {s s1 s2 : S} {F1 F2 : FE} {a b : D} (h1 : F1 δ s = .ok a s1) (h2 : F2 δ s1 = .ok b s2) : eTup (aCons F1 (aCons F2 aNil)) δ s = .ok (.tup [a, b]) s2 := mv_tup (mv_cons h1 (mv_cons h2 mv_nil)) (show 2 ≤ 100000 by decide)
theorem tp3 {δ : Ev} {s s1 s2 s3 : S} {F1 F2 F3 : FE} {a b c : D} (h1 : F1 δ s = .ok a s1) (h2 : F2 δ s1 = .ok b s2) (h3 : F3 δ s2 = .ok c s3) : eTup (aCons F1 (aCons F2 (aCons F3 aNil))) δ s = .ok (.tup [a, b, c]) s3 := mv_tup (mv_cons h1 (mv_cons h2 (mv_cons h3 mv_nil))) (show 3 ≤ 100000 by decide)
end A38
namespace A38
open PySem PySem.Spec PyProof.Rows L2 Mi
/-! odd parts -/
def tzF (m : Int) : Int := (Builtin.Int.intBits (Builtin.bitAnd m (-m)) : Int) - 1
theorem two_part : ∀ (n : Nat) (m : Int), m ≠ 0 → m.natAbs ≤ n → ∃ (k : Nat) (a : Int), m = 2 ^ k * (2 * a + 1)
  | 0, m, h, hn => absurd (by omega) h
  | n + 1, m, h, hn => by
    rcases (show m % 2 = 1 ∨ m % 2 = 0 by omega) with e | e
    · exact ⟨0, m / 2, by rw [Int.pow_zero, Int.one_mul]; omega⟩
    · obtain ⟨k, a, q⟩ := two_part n (m / 2) (by omega) (by omega)
      refine ⟨k + 1, a, ?_⟩
      rw [Int.pow_succ, Int.mul_comm (2 ^ k) 2, Int.mul_assoc, ← q]
      omega
theorem bits2 (k : Nat) : Builtin.Int.intBits ((2 : Int) ^ k) = k + 1 := by
  apply Nat.le_antisymm
  · have := bits_pow (k := k)
    rwa [Int.one_mul] at this
  · rcases Nat.lt_or_ge (Builtin.Int.intBits ((2 : Int) ^ k)) (k + 1) with z | z
    · exfalso
      have := PySem.intBits_le_iff.mp (Nat.le_of_lt_succ z)
      have e : ((2 : Int) ^ k) = ((2 ^ k : Nat) : Int) := by push_cast; rfl
      rw [e, Int.natAbs_natCast] at this
      omega
    · exact z
theorem tz_eq {m a : Int} {k : Nat} (e : m = 2 ^ k * (2 * a + 1)) : tzF m = k := by
  unfold tzF
  rw [e, PySem.W.kbt_low, bits2]
  omega
theorem tz_nn {m : Int} (h : m ≠ 0) : 0 ≤ tzF m := by
  obtain ⟨k, a, e⟩ := two_part m.natAbs m h (Nat.le_refl _)
  rw [tz_eq e]
  omega
theorem gShr_s {i j : Int} (h : 0 ≤ j) : gI gShrI (.int i) (.int j) = some (.int (i / 2 ^ j.toNat)) := if_pos h
theorem gAnd_s {i j : Int} : gI gAndI (.int i) (.int j) = some (.int (Builtin.bitAnd i j)) := rfl
theorem t2 {δ : Ev} {s : S} {F1 F2 : FE} {a b : D} (h1 : F1 δ s = .ok a s) (h2 : F2 δ s = .ok b s) : eTup (aCons F1 (aCons F2 aNil)) δ s = .ok (.tup [a, b]) s := mv_tup (mv_cons h1 (mv_cons h2 mv_nil)) (show 2 ≤ 100000 by decide)
theorem t3 {δ : Ev} {s : S} {F1 F2 F3 : FE} {a b c : D} (h1 : F1 δ s = .ok a s) (h2 : F2 δ s = .ok b s) (h3 : F3 δ s = .ok c s) : eTup (aCons F1 (aCons F2 (aCons F3 aNil))) δ s = .ok (.tup [a, b, c]) s := mv_tup (mv_cons h1 (mv_cons h2 (mv_cons h3 mv_nil))) (show 3 ≤ 100000 by decide)
theorem odd_parts_ok {m q : Int} {s : S} (h : m ≠ 0) : m_odd_parts [.int m, .int q] s = .ok (.tup [.int (m / 2 ^ (tzF m).toNat), .int (q + tzF m)]) s := by
  unfold m_odd_parts G_odd_parts
  apply mv_fn
  refine mv_seq (mv_set (d := .int (tzF m)) (mv_op (mv_un (mv_op (mv_var rfl) (mv_un (mv_var rfl) gNeg_int) gAnd_s) gBits_int) mv_c gSub_int)) ?_
  exact mv_ret (t2 (mv_op (mv_var rfl) (mv_var rfl) (gShr_s (tz_nn h))) (mv_op (mv_var rfl) (mv_var rfl) Mi.gAdd_int))
def odD (sg m q : Int) : D := if m = 0 then ex sg 0 0 else ex sg (m / 2 ^ (tzF m).toNat) (q + tzF m)
theorem sgd_ok {sg m q : Int} {s : S} : m_signed [.int sg, .int m, .int q] s = .ok (odD sg m q) s := by
  unfold m_signed G_signed odD
  apply mv_fn
  by_cases z : m = 0
  · rw [if_pos z]
    exact mv_seq_rt (mv_if_t (cmp_eq (mv_var rfl) mv_c (decide_eq_true z)) (mv_ret (t3 (mv_var rfl) mv_c mv_c)))
  · rw [if_neg z]
    refine mv_seq (mv_if_f (cmp_eq (mv_var rfl) mv_c (decide_eq_false z)) mv_snil) ?_
    exact mv_seq (mv_tgt (mv_app (mv_cons (mv_var rfl) (mv_cons (mv_var rfl) mv_nil)) (odd_parts_ok z) rfl) rfl) (mv_ret (t3 (mv_var rfl) (mv_var rfl) (mv_var rfl)))
theorem lodd_ok {sg m q : Int} {s : S} : m__law_odd [.int sg, .int m, .int q] s = .ok (odD sg m q) s := by
  unfold m__law_odd G__law_odd odD
  apply mv_fn
  by_cases z : m = 0
  · rw [if_pos z]
    exact mv_seq_rt (mv_if_t (cmp_eq (mv_var rfl) mv_c (decide_eq_true z)) (mv_ret (t3 (mv_var rfl) mv_c mv_c)))
  · rw [if_neg z]
    refine mv_seq (mv_if_f (cmp_eq (mv_var rfl) mv_c (decide_eq_false z)) mv_snil) ?_
    have e : tzF m = (Builtin.Int.intBits (Builtin.bitAnd m (0 - m)) : Int) - 1 := by
      unfold tzF
      rw [Int.zero_sub]
    have st : ∀ {x3 : SV}, eOp (gI gSubI) (eUn gBits (eOp (gI gAndI) (eVar 1) (eOp (gI gSubI) (eC (.int 0)) (eVar 1)))) (eC (.int 1)) [.d (.int sg), .d (.int m), .d (.int q), x3] s = .ok (.int (tzF m)) s := fun {x3} => by
      rw [e]
      exact mv_op (mv_un (mv_op (mv_var rfl) (mv_op mv_c (mv_var rfl) gSub_int) gAnd_s) gBits_int) mv_c gSub_int
    exact mv_seq (mv_set st) (mv_ret (t3 (mv_var rfl) (mv_op (mv_var rfl) (mv_var rfl) (gShr_s (tz_nn z))) (mv_op (mv_var rfl) (mv_var rfl) Mi.gAdd_int)))
/-! beyond -/
def iwS (sg : Int) : PySem.Str := if sg = 1 then "up" else "down"
def inB (way : PySem.Str) (sg : Int) : Bool := decide (way = "zero") || (decide (way = "odd") || decide (way = iwS sg))
def ovD (way : PySem.Str) (p hi sg : Int) : D := if inB way sg = true then ex sg (1 * 2 ^ p.toNat - 1) hi else ex sg (-1) 0
theorem mv_tor {T U : FT} {δ : Ev} {s : S} {a b : Bool} (h1 : T δ s = .ok a s) (h2 : U δ s = .ok b s) : tOr T U δ s = .ok (a || b) s := by
  cases a with
  | true => exact mv_or_t h1
  | false => exact mv_or_f h1 h2
theorem mv_tand {T U : FT} {δ : Ev} {s : S} {a b : Bool} (h1 : T δ s = .ok a s) (h2 : U δ s = .ok b s) : tAnd T U δ s = .ok (a && b) s := by
  cases a with
  | false => exact mv_and_f h1
  | true => exact mv_and_t h1 h2
theorem inB_law {way : PySem.Str} {sg : Int} (h : sg = 0 ∨ sg = 1) : (decide (way = "zero") || (decide (way = "odd") || ((decide (way = "up") && decide (sg = 1)) || (decide (way = "down") && decide (sg = 0))))) = inB way sg := by
  unfold inB iwS
  rcases h with rfl | rfl
  · simp
  · simp
theorem top_e {δ : Ev} {s : S} {i : Nat} {p : Int} (h : δ[i]? = some (.d (.int p))) (p0 : 0 ≤ p) (p1 : p ≤ 140) : eOp (gI gSubI) (eOp (gI gShlI) (eC (.int 1)) (eVar i)) (eC (.int 1)) δ s = .ok (.int (1 * 2 ^ p.toNat - 1)) s :=
  mv_op (mv_op mv_c (mv_var h) (gShl_s (n := 1) p0 (by decide +kernel) (by omega))) mv_c gSub_int
theorem overflowed_ok {way : PySem.Str} {p lo hi sg : Int} {s : S} (hs : Shp p lo hi) : m_overflowed [shp p lo hi, .str way, .int sg] s = .ok (ovD way p hi sg) s := by
  have p2 := hs.p2
  have p140 := hs.p140
  have e3 : ∀ {x0 x1 x3 x4 x5 x6 : SV}, eIf (tCmp gEq (eVar 2) (eC (.int 1))) (eC (.str "up")) (eC (.str "down")) [x0, x1, .d (.int sg), x3, x4, x5, x6] s = .ok (.str (iwS sg)) s := fun {x0 x1 x3 x4 x5 x6} => by
    unfold iwS
    by_cases e : sg = 1
    · rw [if_pos e]
      exact mv_eif_t (cmp_eq (mv_var rfl) mv_c (decide_eq_true e)) mv_c
    · rw [if_neg e]
      exact mv_eif_f (cmp_eq (mv_var rfl) mv_c (decide_eq_false e)) mv_c
  have c : ∀ {x0 x4 x5 x6 : SV}, tOr (tCmp gEq (eVar 1) (eC (.str "zero"))) (tOr (tCmp gEq (eVar 1) (eC (.str "odd"))) (tCmp gEq (eVar 1) (eVar 3))) [x0, .d (.str way), .d (.int sg), .d (.str (iwS sg)), x4, x5, x6] s = .ok (inB way sg) s := fun {x0 x4 x5 x6} =>
    mv_tor (cmp_s (mv_var rfl) mv_c rfl) (mv_tor (cmp_s (mv_var rfl) mv_c rfl) (cmp_s (mv_var rfl) (mv_var rfl) rfl))
  unfold m_overflowed G_overflowed ovD
  apply mv_fn
  refine mv_seq (mv_tgt (mv_var rfl) rfl) ?_
  refine mv_seq (mv_set e3) ?_
  cases e : inB way sg with
  | true =>
    rw [if_pos rfl]
    rw [e] at c
    exact mv_seq_rt (mv_if_t c (mv_ret (t3 (mv_var rfl) (top_e rfl (by omega) p140) (mv_var rfl))))
  | false =>
    rw [if_neg (by decide)]
    rw [e] at c
    exact mv_seq (mv_if_f c mv_snil) (mv_ret (t3 (mv_var rfl) (mv_un mv_c gNeg_int) mv_c))
/-! once -/
def sgF (n : Int) : Int := if decide (n < 0) = true then 1 else 0
theorem sgF_01 (n : Int) : sgF n = 0 ∨ sgF n = 1 := by
  unfold sgF
  split
  · exact .inr rfl
  · exact .inl rfl
def uuF (p lo n d k : Int) : Int := max (qF n d k - p + 1) lo
def ccF (way : PySem.Str) (p lo n d k : Int) : Int := chV way (sgF n) (ctF n d k (uuF p lo n d k)) (wF n d k (uuF p lo n d k))
def toD (w : Int) (b : Bool) : D := if w = 0 then .tup [] else if b = true then .tup [.str "underflow", .str "inexact"] else .tup [.str "inexact"]
def bigD : D := .tup [.str "overflow", .str "inexact"]
def rxD (way : PySem.Str) (p lo hi n d k t : Int) : D :=
  if n = 0 then .tup [ex t 0 0, .tup []]
  else if hi + p < (Builtin.Int.intBits (ccF way p lo n d k) : Int) + uuF p lo n d k then .tup [ovD way p hi (sgF n), bigD]
  else .tup [odD (sgF n) (ccF way p lo n d k) (uuF p lo n d k), toD (wF n d k (uuF p lo n d k)) (decide (qF n d k < lo + p - 1))]
theorem uu_sh {p lo hi n d k : Int} (hs : Shp p lo hi) (h : Ex n d k) (hn : n ≠ 0) : ShB k (uuF p lo n d k) := by
  obtain ⟨_, _, a, b, c, e⟩ := q_spec h hn
  have p2 := hs.p2
  have p140 := hs.p140
  have l6 := hs.l6
  have lh := hs.lh
  have h6 := hs.h6
  unfold ShB shF uuF
  rcases h.kk with rfl | rfl
  · rw [if_pos rfl]
    omega
  · rw [if_neg (by decide)]
    omega
theorem uu_q {p lo hi n d k : Int} (hs : Shp p lo hi) (h : Ex n d k) (hn : n ≠ 0) : Builtin.Int.intBits (ovF n k (uuF p lo n d k) / unF d k (uuF p lo n d k)) ≤ 600 := by
  obtain ⟨_, hG, _, _, _, _⟩ := q_spec h hn
  have p0 := hs.p2
  have p1 := hs.p140
  have up := un_pos (u := uuF p lo n d k) h
  have on := ov_nn n k (uuF p lo n d k)
  have d1 := h.d1
  have hu : qF n d k - p + 1 ≤ uuF p lo n d k := by
    unfold uuF
    omega
  generalize uuF p lo n d k = u at *
  have hg : Gp n.natAbs d (shF k u + (p * k)) := gp_mono (by omega) hG (by
    unfold shF
    rcases h.kk with rfl | rfl
    · rw [if_pos rfl]
      omega
    · rw [if_neg (by decide)]
      omega)
  have pk : 0 ≤ p * k ∧ p * k ≤ 280 := by
    rcases h.kk with rfl | rfl <;> omega
  have lt : ovF n k u < unF d k u * 2 ^ (p * k).toNat := by
    unfold ovF unF
    rw [Int.mul_assoc, ← Int.pow_add]
    exact sh_lt hg (by omega)
  have q0 : 0 ≤ ovF n k u / unF d k u := Int.ediv_nonneg on (by omega)
  have ql : ovF n k u / unF d k u < 2 ^ (p * k).toNat := Int.ediv_lt_of_lt_mul (by omega) (by rw [Int.mul_comm]; exact lt)
  exact Nat.le_trans (bits_of (k := (p * k).toNat) (by have := pow2 (p * k).toNat; omega) ql) (by omega)
/-- a unit that is no more than the number: at least one of it -/
theorem ct_ge1 {n d k u : Int} (h : Ex n d k) (hn : n ≠ 0) (hu : u ≤ qF n d k) : 1 ≤ ctF n d k u := by
  obtain ⟨c0, c1, c2⟩ := ct_spec (u := u) h
  obtain ⟨hL, _, _, _, _, _⟩ := q_spec h hn
  rcases (show 1 ≤ ctF n d k u ∨ ctF n d k u = 0 by omega) with z | z
  · exact z
  · exfalso
    rw [z] at c2
    have p1 : pwF (0 + 1) k = 1 := by
      unfold pwF
      split <;> rfl
    rw [p1, Int.one_mul] at c2
    have l2 : Lp n.natAbs d (shF k u) := lp_mono (by omega) hL (by
      unfold shF
      rcases h.kk with rfl | rfl
      · rw [if_pos rfl]
        omega
      · rw [if_neg (by decide)]
        omega)
    have l3 : unF d k u ≤ ovF n k u := by
      unfold unF ovF
      exact sh_le l2 (by omega)
    omega
theorem ch_ge {way : PySem.Str} {sg c w : Int} : c ≤ chV way sg c w := by
  unfold chV
  split <;> omega
theorem ov_iff {way : PySem.Str} {p lo hi n d k : Int} (hs : Shp p lo hi) (h : Ex n d k) (hn : n ≠ 0) : (decide (0 < ccF way p lo n d k) && decide (hi + p ≤ (Builtin.Int.intBits (ccF way p lo n d k) : Int) - 1 + uuF p lo n d k)) = decide (hi + p < (Builtin.Int.intBits (ccF way p lo n d k) : Int) + uuF p lo n d k) := by
  have p2 := hs.p2
  have lh := hs.lh
  have c0 : 0 ≤ ccF way p lo n d k := Int.le_trans (ct_spec (u := uuF p lo n d k) h).1 ch_ge
  rcases (show 0 < ccF way p lo n d k ∨ ccF way p lo n d k = 0 by omega) with z | z
  · rw [decide_eq_true z, Bool.true_and]
    exact decide_eq_decide.mpr (by omega)
  · rw [z, decide_eq_false (show ¬ (0 : Int) < 0 by decide), Bool.false_and]
    refine (decide_eq_false ?_).symm
    intro y
    rw [show (Builtin.Int.intBits 0 : Int) = 0 by decide +kernel, Int.zero_add] at y
    have hu : uuF p lo n d k ≤ qF n d k := by
      unfold uuF at y ⊢
      omega
    have g1 := ct_ge1 h hn hu
    have g2 : ctF n d k (uuF p lo n d k) ≤ ccF way p lo n d k := ch_ge
    omega
theorem round_exact_ok {way : PySem.Str} {p lo hi n d k t : Int} {s : S} (hs : Shp p lo hi) (h : Ex n d k) : m_round_exact [shp p lo hi, ex n d k, .str way, .int t] s = .ok (rxD way p lo hi n d k t) s := by
  unfold m_round_exact G_round_exact rxD
  apply mv_fn
  by_cases hn : n = 0
  · rw [if_pos hn]
    exact mv_seq_rt (mv_if_t (cmp_eq (i0 rfl) mv_c (decide_eq_true hn)) (mv_ret (t2 (t3 (mv_var rfl) mv_c mv_c) (mv_tup mv_nil (by decide)))))
  rw [if_neg hn]
  refine mv_seq (δ1 := [.d (shp p lo hi), .d (ex n d k), .d (.str way), .d (.int t), .u, .u, .u, .u, .u, .u, .u]) (mv_if_f (cmp_eq (i0 rfl) mv_c (decide_eq_false hn)) mv_snil) ?_
  refine mv_seq (δ1 := [.d (shp p lo hi), .d (ex n d k), .d (.str way), .d (.int t), .d (.int (sgF n)), .u, .u, .u, .u, .u, .u]) (mv_set (d := .int (sgF n)) (mv_app (mv_cons (mv_var rfl) mv_nil) sgn_ok rfl)) ?_
  refine mv_seq (δ1 := [.d (shp p lo hi), .d (ex n d k), .d (.str way), .d (.int t), .d (.int (sgF n)), .d (.int (qF n d k)), .u, .u, .u, .u, .u]) (mv_set (mv_app (mv_cons (mv_var rfl) mv_nil) (power_of_ok h hn) rfl)) ?_
  have un : ∀ {s : S}, m_unit_at [shp p lo hi, .int (qF n d k)] s = .ok (.int (uuF p lo n d k)) s := fun {s} => by
    unfold m_unit_at G_unit_at
    exact mv_fn (mv_seq (mv_tgt (mv_var rfl) rfl) (mv_ret (mv_call (mv_cons (mv_op (mv_op (mv_var rfl) (mv_var rfl) gSub_int) mv_c Mi.gAdd_int) (mv_cons (mv_var rfl) mv_nil)) gMax2)))
  refine mv_seq (δ1 := [.d (shp p lo hi), .d (ex n d k), .d (.str way), .d (.int t), .d (.int (sgF n)), .d (.int (qF n d k)), .d (.int (uuF p lo n d k)), .u, .u, .u, .u]) (mv_set (mv_app (mv_cons (mv_var rfl) (mv_cons (mv_var rfl) mv_nil)) un rfl)) ?_
  refine mv_seq (δ1 := [.d (shp p lo hi), .d (ex n d k), .d (.str way), .d (.int t), .d (.int (sgF n)), .d (.int (qF n d k)), .d (.int (uuF p lo n d k)), .u, .u, .d (.int (ctF n d k (uuF p lo n d k))), .d (.int (wF n d k (uuF p lo n d k)))]) (mv_tgt (mv_app (mv_cons (mv_var rfl) (mv_cons (mv_var rfl) mv_nil)) (place_of_ok h (uu_sh hs h hn)) rfl) rfl) ?_
  refine mv_seq (δ1 := [.d (shp p lo hi), .d (ex n d k), .d (.str way), .d (.int t), .d (.int (sgF n)), .d (.int (qF n d k)), .d (.int (uuF p lo n d k)), .d (.int (ccF way p lo n d k)), .u, .d (.int (ctF n d k (uuF p lo n d k))), .d (.int (wF n d k (uuF p lo n d k)))]) (mv_set (d := .int (ccF way p lo n d k)) (mv_app (mv_cons (mv_var rfl) (mv_cons (mv_var rfl) (mv_cons (mv_var rfl) (mv_cons (mv_var rfl) mv_nil)))) choice_ok rfl)) ?_
  have tst : ∀ {x0 x1 x2 x3 x4 x5 x8 x9 x10 : SV} {s : S}, x0 = .d (shp p lo hi) → tCmp gGt (eOp gAdd (eUn gBits (eVar 7)) (eVar 6)) (eOp gAdd (eOp gIx (eVar 0) (eC (.int 2))) (eOp gIx (eVar 0) (eC (.int 0)))) [x0, x1, x2, x3, x4, x5, .d (.int (uuF p lo n d k)), .d (.int (ccF way p lo n d k)), x8, x9, x10] s = .ok (decide (hi + p < (Builtin.Int.intBits (ccF way p lo n d k) : Int) + uuF p lo n d k)) s := fun e => by
    subst e
    exact cmp_gt (mv_op (mv_un (mv_var rfl) gBits_int) (mv_var rfl) Mi.gAdd_int) (mv_op (i2 rfl) (i0 rfl) Mi.gAdd_int) rfl
  by_cases o : hi + p < (Builtin.Int.intBits (ccF way p lo n d k) : Int) + uuF p lo n d k
  · rw [if_pos o]
    refine mv_seq_rt (mv_if_t ((tst rfl).trans (by rw [decide_eq_true o])) (mv_ret (t2 (mv_app (mv_cons (mv_var rfl) (mv_cons (mv_var rfl) (mv_cons (mv_var rfl) mv_nil))) (overflowed_ok hs) rfl) (t2 mv_c mv_c))))
  rw [if_neg o]
  refine mv_seq (δ1 := [.d (shp p lo hi), .d (ex n d k), .d (.str way), .d (.int t), .d (.int (sgF n)), .d (.int (qF n d k)), .d (.int (uuF p lo n d k)), .d (.int (ccF way p lo n d k)), .u, .d (.int (ctF n d k (uuF p lo n d k))), .d (.int (wF n d k (uuF p lo n d k)))]) (mv_if_f ((tst rfl).trans (by rw [decide_eq_false o])) mv_snil) ?_
  refine mv_seq (δ1 := [.d (shp p lo hi), .d (ex n d k), .d (.str way), .d (.int t), .d (.int (sgF n)), .d (.int (qF n d k)), .d (.int (uuF p lo n d k)), .d (.int (ccF way p lo n d k)), .d (odD (sgF n) (ccF way p lo n d k) (uuF p lo n d k)), .d (.int (ctF n d k (uuF p lo n d k))), .d (.int (wF n d k (uuF p lo n d k)))]) (mv_set (mv_app (mv_cons (mv_var rfl) (mv_cons (mv_var rfl) (mv_cons (mv_var rfl) mv_nil))) sgd_ok rfl)) ?_
  unfold toD
  by_cases w : wF n d k (uuF p lo n d k) = 0
  · rw [if_pos w]
    exact mv_seq_rt (mv_if_t (cmp_eq (mv_var rfl) mv_c (decide_eq_true w)) (mv_ret (t2 (mv_var rfl) (mv_tup mv_nil (by decide)))))
  rw [if_neg w]
  refine mv_seq (δ1 := [.d (shp p lo hi), .d (ex n d k), .d (.str way), .d (.int t), .d (.int (sgF n)), .d (.int (qF n d k)), .d (.int (uuF p lo n d k)), .d (.int (ccF way p lo n d k)), .d (odD (sgF n) (ccF way p lo n d k) (uuF p lo n d k)), .d (.int (ctF n d k (uuF p lo n d k))), .d (.int (wF n d k (uuF p lo n d k)))]) (mv_if_f (cmp_eq (mv_var rfl) mv_c (decide_eq_false w)) mv_snil) ?_
  have ty : ∀ {x1 x2 x3 x4 x6 x7 x8 x9 x10 : SV} {s : S}, tTru (eApp 2 [] m_is_tiny (aCons (eVar 0) (aCons (eVar 5) aNil))) [.d (shp p lo hi), x1, x2, x3, x4, .d (.int (qF n d k)), x6, x7, x8, x9, x10] s = .ok (decide (qF n d k < lo + p - 1)) s := fun {x1 x2 x3 x4 x6 x7 x8 x9 x10 s} => mv_tru (mv_app (mv_cons (mv_var rfl) (mv_cons (mv_var rfl) mv_nil)) tiny_ok rfl) rfl
  by_cases b : qF n d k < lo + p - 1
  · rw [decide_eq_true b, if_pos rfl]
    exact mv_ret (t2 (mv_var rfl) (mv_eif_t (ty.trans (by rw [decide_eq_true b])) (t2 mv_c mv_c)))
  · rw [decide_eq_false b, if_neg (by decide)]
    exact mv_ret (t2 (mv_var rfl) (mv_eif_f (ty.trans (by rw [decide_eq_false b])) (mv_tup (mv_cons mv_c mv_nil) (by decide))))
end A38
namespace A38
open PySem PySem.Spec PyProof.Rows L2 Mi
theorem mv_appN {n np m : Nat} {pre post : List D} {Fm : List D → S → R D} {F G : FA} {δ : Ev} {s s1 s2 : S} {ds es : List D} {r : R D} (h1 : F δ s = .ok ds s1) (h2 : G δ s1 = .ok es s2) (h : Fm (ds ++ (pre ++ (es ++ post))) s2 = r) (hl : ds.length = np ∧ es.length = m ∧ (ds ++ (pre ++ (es ++ post))).length = n) : eAppN n np m pre post Fm F G δ s = r := by
  unfold eAppN
  rw [h1, rb_ok, h2, rb_ok, if_pos hl]
  exact h
theorem mv_appR {n np m : Nat} {pre post : List D} {Fm : List D → S → R D} {F G : FA} {δ : Ev} {s s1 s2 : S} {ds es : List D} {r : R D} (h1 : F δ s = .ok ds s1) (h2 : G δ s1 = .ok es s2) (h : Fm (ds ++ (pre ++ (es.reverse ++ post))) s2 = r) (hl : ds.length = np ∧ es.length = m ∧ (ds ++ (pre ++ (es.reverse ++ post))).length = n) : eAppR n np m pre post Fm F G δ s = r := by
  unfold eAppR
  rw [h1, rb_ok, h2, rb_ok, if_pos hl]
  exact h
theorem not_t {δ : Ev} {s s1 : S} {F : FE} (h : F δ s = .ok (.bl true) s1) : tNot (tTru F) δ s = .ok false s1 := mv_not (b := true) (mv_tru (x := .bl true) h rfl)
/-! what is told is plain -/
theorem od_cases (sg m q : Int) : ∃ a b, odD sg m q = ex sg a b := by
  unfold odD
  split
  · exact ⟨_, _, rfl⟩
  · exact ⟨_, _, rfl⟩
theorem ov_cases (way : PySem.Str) (p hi sg : Int) : ∃ a b, ovD way p hi sg = ex sg a b := by
  unfold ovD
  split
  · exact ⟨_, _, rfl⟩
  · exact ⟨_, _, rfl⟩
theorem rx_cases (way : PySem.Str) (p lo hi n d k t : Int) : ∃ (a b c : Int) (f : List PySem.Str), rxD way p lo hi n d k t = .tup [ex a b c, .tup (f.map D.str)] ∧ f.length ≤ 2 := by
  unfold rxD
  split
  · exact ⟨_, _, _, [], rfl, by decide⟩
  split
  · obtain ⟨a, b, e⟩ := ov_cases way p hi (sgF n)
    rw [e]
    exact ⟨_, _, _, ["overflow", "inexact"], rfl, by decide⟩
  · obtain ⟨a, b, e⟩ := od_cases (sgF n) (ccF way p lo n d k) (uuF p lo n d k)
    rw [e]
    unfold toD
    split
    · exact ⟨_, _, _, [], rfl, by decide⟩
    split
    · exact ⟨_, _, _, ["underflow", "inexact"], rfl, by decide⟩
    · exact ⟨_, _, _, ["inexact"], rfl, by decide⟩
theorem rx_pl {way : PySem.Str} {p lo hi n d k t : Int} : plain 7 (rxD way p lo hi n d k t) = true := by
  obtain ⟨a, b, c, f, e, hl⟩ := rx_cases way p lo hi n d k t
  rw [e]
  match f, hl with
  | [], _ => simp [plain, plains]
  | [_], _ => simp [plain, plains]
  | [_, _], _ => simp [plain, plains]
theorem rx_nt {way : PySem.Str} {p lo hi n d k t : Int} : noT (rxD way p lo hi n d k t) = true := by
  obtain ⟨a, b, c, f, e, hl⟩ := rx_cases way p lo hi n d k t
  rw [e]
  match f, hl with
  | [], _ => rfl
  | [_], _ => rfl
  | [_, _], _ => rfl
def ways : List PySem.Str := ["even", "away", "zero", "up", "down", "odd"]
theorem way_of {way : PySem.Str} (h : way ∈ ways) : Way way ∧ ∀ s, m_check_mode [.str way] s = .ok .non s := by
  simp only [ways, List.mem_cons, List.not_mem_nil, or_false] at h
  rcases h with rfl | rfl | rfl | rfl | rfl | rfl
  · exact ⟨.inl rfl, fun s => by kernel_rfl⟩
  · exact ⟨.inr (.inl rfl), fun s => by kernel_rfl⟩
  · exact ⟨.inr (.inr (.inl rfl)), fun s => by kernel_rfl⟩
  · exact ⟨.inr (.inr (.inr (.inl rfl))), fun s => by kernel_rfl⟩
  · exact ⟨.inr (.inr (.inr (.inr (.inl rfl)))), fun s => by kernel_rfl⟩
  · exact ⟨.inr (.inr (.inr (.inr (.inr rfl)))), fun s => by kernel_rfl⟩
/-! all modes -/
/-! refused -/
theorem s201 : Shp 2 0 1 := ⟨by decide, by decide, by decide, by decide, by decide⟩
theorem e511 : Ex 5 1 1 := ⟨by decide, .inl rfl, fun e => (by cases e), by decide +kernel, by decide +kernel⟩
theorem ns3 {a b c : D} (ha : pl a = true) (hb : pl b = true) (hc : pl c = true) (h : [a, b, c].all isI = false) (nt : noTs [a, b, c] = true) : NotShp (.tup [a, b, c]) := ns_tup (pl3 ha hb hc) (show 3 ≤ 1000 by decide) (by rw [h, Bool.and_false]) nt
/-! the law -/
end A38
namespace A38
open PySem PySem.Spec PyProof.Rows L2 Mi
/-! ### numbers -/
structure Nu (a b c : Int) : Prop where
  s : a = 0 ∨ a = 1
  m : -2 ≤ b
  nan : b = -2 → a = 0
  q0 : b ≤ 0 → c = 0
  odd : 0 < b → b % 2 = 1
  bb : Builtin.Int.intBits b ≤ 600
  c0 : -2000 ≤ c
  c1 : c ≤ 2000
theorem nanE : gEq (ex 0 (-2) 0) d_NAN = some (.bl true) := by kernel_rfl
theorem ex3 {a b c : Int} : ∀ d ∈ [D.int a, D.int b, D.int c], pl d = true := fun d hd => by
  simp only [List.mem_cons, List.not_mem_nil, or_false] at hd
  rcases hd with rfl | rfl | rfl <;> rfl
theorem inb_ok {m q : Int} {s : S} (h : Builtin.Int.intBits m ≤ 600) (h0 : -2000 ≤ q) (h1 : q ≤ 2000) : m_in_bounds [.int m, .int q] s = .ok (.bl true) s := by
  unfold m_in_bounds G_in_bounds
  refine mv_fn (mv_ret ?_)
  have e : (true : Bool) = (decide ((Builtin.Int.intBits m : Int) ≤ 600) && (decide (-2000 ≤ q) && decide (q ≤ 2000))) := by
    rw [decide_eq_true (show (Builtin.Int.intBits m : Int) ≤ 600 by omega), decide_eq_true h0, decide_eq_true h1]
    rfl
  rw [e]
  exact mv_eand (mv_op (mv_un (mv_var rfl) gBits_int) mv_c gLe_int) (mv_chain (mv_un mv_c gNeg_int) (mv_link (mv_var rfl) gLe_int (mv_last mv_c gLe_int)))
theorem inb_no {m q : Int} {s : S} (h : ¬ (Builtin.Int.intBits m ≤ 600 ∧ -2000 ≤ q ∧ q ≤ 2000)) : m_in_bounds [.int m, .int q] s = .ok (.bl false) s := by
  unfold m_in_bounds G_in_bounds
  refine mv_fn (mv_ret ?_)
  have e : (false : Bool) = (decide ((Builtin.Int.intBits m : Int) ≤ 600) && (decide (-2000 ≤ q) && decide (q ≤ 2000))) := by
    by_cases h1 : Builtin.Int.intBits m ≤ 600
    · by_cases h2 : -2000 ≤ q
      · rw [decide_eq_false (show ¬ q ≤ 2000 from fun z => h ⟨h1, h2, z⟩), Bool.and_false, Bool.and_false]
      · rw [decide_eq_false h2, Bool.false_and, Bool.and_false]
    · rw [decide_eq_false (show ¬ (Builtin.Int.intBits m : Int) ≤ 600 by omega), Bool.false_and]
  rw [e]
  exact mv_eand (mv_op (mv_un (mv_var rfl) gBits_int) mv_c gLe_int) (mv_chain (mv_un mv_c gNeg_int) (mv_link (mv_var rfl) gLe_int (mv_last mv_c gLe_int)))
theorem mv_eor_t {δ : Ev} {s : S} {F G : FE} (h1 : F δ s = .ok (.bl true) s) : eOr F G δ s = .ok (.bl true) s := by
  unfold eOr
  rw [h1, rb_ok]
theorem mv_eor_f {δ : Ev} {s : S} {F G : FE} {r : R D} (h1 : F δ s = .ok (.bl false) s) (h2 : G δ s = r) : eOr F G δ s = r := by
  unfold eOr
  rw [h1, rb_ok]
  exact h2
theorem mv_eand_f {δ : Ev} {s : S} {F G : FE} (h1 : F δ s = .ok (.bl false) s) : eAnd F G δ s = .ok (.bl false) s := by
  unfold eAnd
  rw [h1, rb_ok]
theorem mv_eand_t {δ : Ev} {s : S} {F G : FE} {r : R D} (h1 : F δ s = .ok (.bl true) s) (h2 : G δ s = r) : eAnd F G δ s = r := by
  unfold eAnd
  rw [h1, rb_ok]
  exact h2
/-- the first rows of is_number, over three integers -/
theorem isn_head {a b c : Int} {s : S} {d : D} (ha : a = 0 ∨ a = 1)
    (h : ∀ s, sSeq (sIf (tCmp gGt (eVar 2) (eC (.int 0))) (sRet (eAnd (eOp gEq (eOp (gI gAndI) (eVar 2) (eC (.int 1))) (eC (.int 1))) (eApp 2 [] m_in_bounds (aCons (eVar 2) (aCons (eVar 3) aNil))))) sNil) (sRet (eAnd (eOp gEq (eVar 3) (eC (.int 0))) (eOr (eOp gGe (eVar 2) (eUn gNeg (eC (.int 1)))) (eOp gEq (eVar 0) (eC d_NAN))))) [.d (ex a b c), .d (.int a), .d (.int b), .d (.int c)] s = .ok (.rt d) s) : m_is_number [ex a b c] s = .ok d s := by
  unfold m_is_number G_is_number
  apply mv_fn
  refine mv_seq (mv_if_f (mv_not (b := true) (mv_tru (x := .bl true) (mv_app (mv_cons (mv_var rfl) (mv_cons mv_c mv_nil)) (are_ok (m := 3) ex3 (show 3 ≤ 1000 by decide)) rfl) rfl)) mv_snil) ?_
  refine mv_seq (δ1 := [.d (ex a b c), .d (.int a), .d (.int b), .d (.int c)]) (mv_tgt (mv_var rfl) rfl) ?_
  have e : (false : Bool) = ((!decide (a = 0)) && (!decide (a = 1))) := by
    rcases ha with rfl | rfl <;> rfl
  refine mv_seq (mv_if_f ?_ mv_snil) (h s)
  rw [e]
  exact mv_tand (cmp_ne (mv_var rfl) mv_c rfl) (cmp_ne (mv_var rfl) mv_c rfl)
theorem isnum_ok {a b c : Int} {s : S} (h : Nu a b c) : m_is_number [ex a b c] s = .ok (.bl true) s := by
  refine isn_head h.s fun s => ?_
  by_cases hb : 0 < b
  · refine mv_seq_rt (mv_if_t (cmp_gt (mv_var rfl) mv_c (decide_eq_true hb)) (mv_ret (mv_eand_t ?_ (mv_app (mv_cons (mv_var rfl) (mv_cons (mv_var rfl) mv_nil)) (inb_ok h.bb h.c0 h.c1) rfl))))
    rw [← decide_eq_true (h.odd hb)]
    exact q_i (and1 rfl) mv_c
  · refine mv_seq (mv_if_f (cmp_gt (mv_var rfl) mv_c (decide_eq_false hb)) mv_snil) (mv_ret ?_)
    have c0 := h.q0 (by omega)
    subst c0
    refine mv_eand_t (mv_op (mv_var rfl) mv_c (Mi.gEq_int (i := 0) (j := 0))) ?_
    by_cases h1 : -1 ≤ b
    · refine mv_eor_t ?_
      rw [← decide_eq_true h1]
      exact mv_op (mv_var rfl) (mv_un mv_c gNeg_int) gGe_int
    · have := h.m
      have hb2 : b = -2 := by omega
      subst hb2
      have ha := h.nan rfl
      subst ha
      refine mv_eor_f ?_ (mv_op (mv_var rfl) mv_c nanE)
      rw [← decide_eq_false h1]
      exact mv_op (mv_var rfl) (mv_un mv_c gNeg_int) gGe_int
structure NotNu (d : D) : Prop where
  no : ∀ s, m_is_number [d] s = .ok (.bl false) s
  nt : noT d = true
theorem cn_ok {a b c : Int} {s : S} (h : Nu a b c) : m_check_number [ex a b c] s = .ok .non s := by
  unfold m_check_number G_check_number
  exact mv_fn_nx (mv_if_f (mv_not (b := true) (mv_tru (x := .bl true) (mv_app (mv_cons (mv_var rfl) mv_nil) (isnum_ok h) rfl) rfl)) mv_snil)
theorem cn_bad {d : D} {s : S} (h : NotNu d) : m_check_number [d] s = .err "BadNumber" .non s := by
  unfold m_check_number G_check_number
  exact mv_fn_err (mv_if_t (mv_not (b := false) (mv_tru (x := .bl false) (mv_app (mv_cons (mv_var rfl) mv_nil) (h.no s) rfl) rfl)) rfl)
theorem isn_no {d : D} {s : S} (h : m_are_integers [d, .int 3] s = .ok (.bl false) s) : m_is_number [d] s = .ok (.bl false) s := by
  unfold m_is_number G_is_number
  exact mv_fn (mv_seq_rt (mv_if_t (mv_not (b := false) (mv_tru (x := .bl false) (mv_app (mv_cons (mv_var rfl) (mv_cons mv_c mv_nil)) h rfl) rfl)) (mv_ret mv_c)))
theorem nn_tup {l : List D} (h : ∀ d ∈ l, pl d = true) (hl : l.length ≤ 1000) (hb : (decide ((l.length : Int) = 3) && l.all isI) = false) (nt : noTs l = true) : NotNu (.tup l) := ⟨fun s => isn_no (by rw [← hb]; exact are_ok h hl), nt⟩
theorem nn_other {d : D} (h : pl d = true) (ht : ∀ l, d ≠ .tup l) (nt : noT d = true) : NotNu d := ⟨fun s => isn_no (are_no h ht), nt⟩
theorem nn_sign {a b c : Int} (h0 : a ≠ 0) (h1 : a ≠ 1) : NotNu (ex a b c) := ⟨fun s => by
  unfold m_is_number G_is_number
  apply mv_fn
  refine mv_seq (mv_if_f (mv_not (b := true) (mv_tru (x := .bl true) (mv_app (mv_cons (mv_var rfl) (mv_cons mv_c mv_nil)) (are_ok (m := 3) ex3 (show 3 ≤ 1000 by decide)) rfl) rfl)) mv_snil) ?_
  refine mv_seq (δ1 := [.d (ex a b c), .d (.int a), .d (.int b), .d (.int c)]) (mv_tgt (mv_var rfl) rfl) ?_
  refine mv_seq_rt (mv_if_t ?_ (mv_ret mv_c))
  exact mv_and_t (cmp_ne (mv_var rfl) mv_c (by rw [decide_eq_false h0]; rfl)) (cmp_ne (mv_var rfl) mv_c (by rw [decide_eq_false h1]; rfl)), rfl⟩
theorem nn_q {a b c : Int} (ha : a = 0 ∨ a = 1) (hb : b ≤ 0) (hc : c ≠ 0) : NotNu (ex a b c) := ⟨fun s => by
  refine isn_head ha fun s => ?_
  refine mv_seq (mv_if_f (cmp_gt (mv_var rfl) mv_c (decide_eq_false (by omega))) mv_snil) (mv_ret (mv_eand_f ?_))
  rw [← decide_eq_false hc]
  exact q_i (mv_var rfl) mv_c, rfl⟩
theorem nn_m {a b c : Int} (ha : a = 0 ∨ a = 1) (hb : b < -1) (hn : gEq (ex a b c) d_NAN = some (.bl false)) : NotNu (ex a b c) := ⟨fun s => by
  refine isn_head ha fun s => ?_
  refine mv_seq (mv_if_f (cmp_gt (mv_var rfl) mv_c (decide_eq_false (by omega))) mv_snil) (mv_ret ?_)
  by_cases hc : c = 0
  · subst hc
    refine mv_eand_t (mv_op (mv_var rfl) mv_c (Mi.gEq_int (i := 0) (j := 0))) (mv_eor_f ?_ (mv_op (mv_var rfl) mv_c hn))
    rw [← decide_eq_false (show ¬ -1 ≤ b by omega)]
    exact mv_op (mv_var rfl) (mv_un mv_c gNeg_int) gGe_int
  · refine mv_eand_f ?_
    rw [← decide_eq_false hc]
    exact q_i (mv_var rfl) mv_c, rfl⟩
theorem nn_pos {a b c : Int} (ha : a = 0 ∨ a = 1) (hb : 0 < b) (h : ¬ (b % 2 = 1 ∧ Builtin.Int.intBits b ≤ 600 ∧ -2000 ≤ c ∧ c ≤ 2000)) : NotNu (ex a b c) := ⟨fun s => by
  refine isn_head ha fun s => ?_
  refine mv_seq_rt (mv_if_t (cmp_gt (mv_var rfl) mv_c (decide_eq_true hb)) (mv_ret ?_))
  by_cases ho : b % 2 = 1
  · refine mv_eand_t ?_ (mv_app (mv_cons (mv_var rfl) (mv_cons (mv_var rfl) mv_nil)) (inb_no fun z => h ⟨ho, z⟩) rfl)
    rw [← decide_eq_true ho]
    exact q_i (and1 rfl) mv_c
  · refine mv_eand_f ?_
    rw [← decide_eq_false ho]
    exact q_i (and1 rfl) mv_c, rfl⟩
/-! what a number is -/
theorem isz_ok {a b c : Int} {s : S} : m_is_zero [ex a b c] s = .ok (.bl (decide (b = 0))) s := by
  unfold m_is_zero G_is_zero
  exact mv_fn (mv_ret (q_i (i1 rfl) mv_c))
theorem isinf_ok {a b c : Int} {s : S} : m_is_infinite [ex a b c] s = .ok (.bl (decide (b = -1))) s := by
  unfold m_is_infinite G_is_infinite
  exact mv_fn (mv_ret (q_i (i1 rfl) (mv_un mv_c gNeg_int)))
theorem isnan_ok {a b c : Int} {s : S} : m_is_nan [ex a b c] s = .ok (.bl (decide (b = -2))) s := by
  unfold m_is_nan G_is_nan
  exact mv_fn (mv_ret (q_i (i1 rfl) (mv_un mv_c gNeg_int)))
def spN (a b : Int) : Int := if a = 1 then -b else b
theorem sp_ok {a b c : Int} {s : S} : m_signed_part [ex a b c] s = .ok (.int (spN a b)) s := by
  unfold m_signed_part G_signed_part spN
  refine mv_fn (mv_ret ?_)
  by_cases e : a = 1
  · rw [if_pos e]
    exact mv_eif_t (cmp_eq (i0 rfl) mv_c (decide_eq_true e)) (mv_un (i1 rfl) gNeg_int)
  · rw [if_neg e]
    exact mv_eif_f (cmp_eq (i0 rfl) mv_c (decide_eq_false e)) (i1 rfl)
theorem b600 {b : Int} (h : Builtin.Int.intBits b ≤ 600) : -(2 ^ 600) < b ∧ b < 2 ^ 600 := by
  have := PySem.intBits_le_iff.mp h
  have e : ((2 : Int) ^ 600) = ((2 ^ 600 : Nat) : Int) := by push_cast; rfl
  omega
theorem lsp_e {a b c : Int} {δ : Ev} {s : S} {i : Nat} (h : δ[i]? = some (.d (ex a b c))) (ha : a = 0 ∨ a = 1) (hb : Builtin.Int.intBits b ≤ 6000) : eOp (gI gMulI) (eOp (gI gSubI) (eC (.int 1)) (eOp (gI gMulI) (eC (.int 2)) (eOp gIx (eVar i) (eC (.int 0))))) (eOp gIx (eVar i) (eC (.int 1))) δ s = .ok (.int (spN a b)) s := by
  have e : spN a b = (1 - 2 * a) * b := by
    unfold spN
    rcases ha with rfl | rfl
    · rw [if_neg (by decide)]
      omega
    · rw [if_pos rfl]
      omega
  rw [e]
  exact mul_s (mv_op mv_c (mul_s mv_c (i0 h) (m := 2) (n := 3) (by decide +kernel) (bsm (by omega) (by omega) (by decide)) (by decide)) gSub_int) (i1 h) (m := 3) (bsm (by omega) (by omega) (by decide)) hb (by decide)
theorem sp_b {a b : Int} {n : Nat} (h : Builtin.Int.intBits b ≤ n) : Builtin.Int.intBits (spN a b) ≤ n := by
  unfold spN
  split
  · exact PySem.intBits_le_iff.mpr (by
      have := PySem.intBits_le_iff.mp h
      omega)
  · exact h
theorem cv_ok {a b c : Int} {s : S} (h : Nu a b c) (h0 : 0 ≤ b) : m_check_valued [ex a b c] s = .ok .non s := by
  unfold m_check_valued G_check_valued
  exact mv_fn_nx (mv_seq (mv_expr (mv_app (mv_cons (mv_var rfl) mv_nil) (cn_ok h) rfl)) (mv_if_f (cmp_lt (i1 rfl) mv_c (decide_eq_false (by omega))) mv_snil))
theorem cv_bad {d : D} {s : S} (h : NotNu d) : m_check_valued [d] s = .err "BadNumber" .non s := by
  unfold m_check_valued G_check_valued
  exact mv_fn_err (mv_seq_err (mv_expr_err (mv_app (mv_cons (mv_var rfl) mv_nil) (cn_bad h) rfl)))
theorem cv_neg {a b c : Int} {s : S} (h : Nu a b c) (h0 : b < 0) : m_check_valued [ex a b c] s = .err "BadNumber" .non s := by
  unfold m_check_valued G_check_valued
  exact mv_fn_err (mv_seq (mv_expr (mv_app (mv_cons (mv_var rfl) mv_nil) (cn_ok h) rfl)) (mv_if_t (cmp_lt (i1 rfl) mv_c (decide_eq_true h0)) rfl))
/-! loops over a row of known length -/
theorem loop_cons {N : FG} {G : FS} {d : D} {ds : List D} {δ δ1 δ2 : Ev} {s s1 : S} {r : R Fl} (e1 : N d δ = some δ1) (e2 : G δ1 s = .ok (.nx δ2) s1) (h : loopF N G ds δ2 s1 = r) : loopF N G (d :: ds) δ s = r := by
  conv => lhs; unfold loopF
  rw [e1]
  show rb (G δ1 s) _ = _
  rw [e2]
  exact h
theorem loop_err {N : FG} {G : FS} {d : D} {ds : List D} {δ δ1 : Ev} {s s1 : S} {c : PySem.Str} {p : D} (e1 : N d δ = some δ1) (e2 : G δ1 s = .err c p s1) : loopF N G (d :: ds) δ s = .err c p s1 := by
  conv => lhs; unfold loopF
  rw [e1]
  show rb (G δ1 s) _ = _
  rw [e2]
  rfl
theorem for_of {I : FI} {N : FG} {G : FS} {δ : Ev} {s s1 : S} {ds : List D} {r : R Fl} (h1 : I δ s = .ok ds s1) (h : loopF N G ds δ s1 = r) : sFor I N G δ s = r := by
  unfold sFor
  rw [h1, rb_ok]
  exact h
theorem boolsA {f : D → Bool} (l : List D) : gAny [.lst (l.map fun d => .bl (f d))] = some (.bl (l.any f)) := by
  show (boolsOf _).map _ = _
  rw [boolsB]
  show some (D.bl ((l.map f).any id)) = _
  rw [List.any_map]
  rfl
def nanB : D → Bool
  | .tup [.int _, .int b, .int _] => decide (b = -2)
  | _ => false
theorem any_nan_ok {l : List D} {s : S} (h : ∀ d ∈ l, ∃ a b c, d = ex a b c) (hl : l.length ≤ 1000) : m_any_nan [.tup l] s = .ok (.bl (l.any nanB)) s := by
  unfold m_any_nan G_any_nan
  refine mv_fn (mv_ret (mv_call (mv_cons (mv_lc (mv_iTpl (mv_var rfl)) (lcF_map (f := fun d => .bl (nanB d)) l [] (fun d hd => ?_) (by simp; omega))) mv_nil) ?_))
  · obtain ⟨a, b, c, rfl⟩ := h d hd
    exact mv_app (mv_cons (mv_var rfl) mv_nil) isnan_ok rfl
  · rw [List.nil_append]
    exact boolsA l
end A38
namespace A38
open PySem PySem.Spec PyProof.Rows L2 Mi
/-! ### dyadic numbers -/
def dnF (m q : Int) : Int := if m = 0 then 0 else if 0 ≤ q + tzF m then m / 2 ^ (tzF m).toNat * 2 ^ (q + tzF m).toNat else m / 2 ^ (tzF m).toNat
def ddF (m q : Int) : Int := if m = 0 then 1 else if 0 ≤ q + tzF m then 1 else 1 * 2 ^ (-(q + tzF m)).toNat
/-- the parts: an odd integer times a power of two -/
theorem parts {m : Int} (h : m ≠ 0) : ∃ (k : Nat) (o : Int), tzF m = k ∧ m / 2 ^ (tzF m).toNat = o ∧ m = o * 2 ^ k ∧ o % 2 = 1 ∧ k + 1 ≤ Builtin.Int.intBits m := by
  obtain ⟨k, a, e⟩ := two_part m.natAbs m h (Nat.le_refl _)
  have tz := tz_eq e
  have pk := pow2 k
  have q : m / 2 ^ k = 2 * a + 1 := by
    rw [e, Int.mul_comm]
    exact Int.mul_ediv_cancel _ (by omega)
  refine ⟨k, 2 * a + 1, tz, ?_, ?_, by omega, ?_⟩
  · rw [tz, Int.toNat_natCast]
    exact q
  · rw [e, Int.mul_comm]
  · rw [← bits2 k]
    refine PySem.intBits_le_iff.mpr ?_
    have h1 := PySem.intBits_le_iff.mp (Nat.le_refl (Builtin.Int.intBits m))
    have h2 : ((2 : Int) ^ k).natAbs ≤ m.natAbs := by
      rw [e, Int.natAbs_mul]
      exact Nat.le_mul_of_pos_right _ (by omega)
    omega
theorem dyadic_ok {m q : Int} {s : S} (hb : Builtin.Int.intBits m ≤ 20000) (q1 : q ≤ 20000) (q0 : -20000 ≤ q) : m_dyadic [.int m, .int q] s = .ok (ex (dnF m q) (ddF m q) 1) s := by
  unfold m_dyadic G_dyadic dnF ddF
  apply mv_fn
  by_cases z : m = 0
  · rw [if_pos z, if_pos z]
    exact mv_seq_rt (mv_if_t (cmp_eq (mv_var rfl) mv_c (decide_eq_true z)) (mv_ret (t3 mv_c mv_c mv_c)))
  rw [if_neg z, if_neg z]
  obtain ⟨k, o, e1, e2, e3, e4, e5⟩ := parts z
  have ob : Builtin.Int.intBits (m / 2 ^ (tzF m).toNat) ≤ 20000 := bits_div (by have := pow2 (tzF m).toNat; omega) hb
  refine mv_seq (δ1 := [.d (.int m), .d (.int q), .u, .u]) (mv_if_f (cmp_eq (mv_var rfl) mv_c (decide_eq_false z)) mv_snil) ?_
  refine mv_seq (δ1 := [.d (.int m), .d (.int q), .d (.int (m / 2 ^ (tzF m).toNat)), .d (.int (q + tzF m))]) (mv_tgt (mv_app (mv_cons (mv_var rfl) (mv_cons (mv_var rfl) mv_nil)) (odd_parts_ok z) rfl) rfl) ?_
  by_cases p : 0 ≤ q + tzF m
  · rw [if_pos p, if_pos p]
    exact mv_seq_rt (mv_if_t (cmp_ge (mv_var rfl) mv_c (decide_eq_true p)) (mv_ret (t3 (mv_op (mv_var rfl) (mv_var rfl) (gShl_s p ob (by omega))) mv_c mv_c)))
  · rw [if_neg p, if_neg p]
    exact mv_seq (mv_if_f (cmp_ge (mv_var rfl) mv_c (decide_eq_false p)) mv_snil) (mv_ret (t3 (mv_var rfl) (mv_op mv_c (mv_un (mv_var rfl) gNeg_int) (gShl_s (n := 1) (by omega) (by decide +kernel) (by omega))) mv_c))
theorem pn (k : Nat) : (((2 : Int) ^ k).natAbs : Int) = 2 ^ k := by
  have := pow2 k
  omega
theorem dn_rel {m q : Int} (z : m ≠ 0) : ((dnF m q).natAbs : Int) * 2 ^ (-q).toNat = (m.natAbs : Int) * 2 ^ q.toNat * ddF m q := by
  obtain ⟨k, o, e1, e2, e3, e4, e5⟩ := parts z
  have em : (m.natAbs : Int) = (o.natAbs : Int) * 2 ^ k := by
    rw [e3, Int.natAbs_mul, Int.natCast_mul, pn]
  unfold dnF ddF
  rw [if_neg z, if_neg z, e2, e1, em]
  by_cases p : 0 ≤ q + k
  · rw [if_pos p, if_pos p, Int.natAbs_mul, Int.natCast_mul, pn, Int.mul_one, Int.mul_assoc, ← Int.pow_add, Int.mul_assoc, ← Int.pow_add]
    congr 2
    omega
  · rw [if_neg p, if_neg p, Int.one_mul, Int.mul_assoc, Int.mul_assoc, ← Int.pow_add, ← Int.pow_add]
    congr 2
    omega
theorem dn_sg {m q : Int} : sgF (dnF m q) = sgF m ∧ (dnF m q = 0 ↔ m = 0) := by
  by_cases z : m = 0
  · subst z
    exact ⟨rfl, Iff.rfl⟩
  obtain ⟨k, o, e1, e2, e3, e4, e5⟩ := parts z
  have pk := pow2 k
  have sgn : ∀ j : Nat, (o * 2 ^ j < 0 ↔ o < 0) ∧ o * 2 ^ j ≠ 0 := fun j => by
    have pj := pow2 j
    rcases (show o < 0 ∨ 0 < o by omega) with y | y
    · have := Int.mul_neg_of_neg_of_pos y (show (0 : Int) < 2 ^ j by omega)
      exact ⟨⟨fun _ => y, fun _ => this⟩, by omega⟩
    · have := Int.mul_pos y (show (0 : Int) < 2 ^ j by omega)
      exact ⟨⟨fun x => by omega, fun x => by omega⟩, by omega⟩
  have sm := sgn k
  rw [← e3] at sm
  have sd : (dnF m q < 0 ↔ o < 0) ∧ dnF m q ≠ 0 := by
    unfold dnF
    rw [if_neg z, e2]
    split
    · exact sgn _
    · exact ⟨Iff.rfl, by omega⟩
  refine ⟨?_, ⟨fun x => absurd x sd.2, fun x => absurd x z⟩⟩
  unfold sgF
  rw [decide_eq_decide.mpr (sd.1.trans sm.1.symm)]
theorem dy_ex {m q : Int} (hb : Builtin.Int.intBits m + q.toNat + 1 ≤ 12000) (q0 : -11000 ≤ q) : Ex (dnF m q) (ddF m q) 1 := by
  by_cases z : m = 0
  · subst z
    rw [show dnF 0 q = 0 from rfl, show ddF 0 q = 1 from rfl]
    exact ⟨by decide, .inl rfl, fun e => (by cases e), by decide +kernel, by decide +kernel⟩
  obtain ⟨k, o, e1, e2, e3, e4, e5⟩ := parts z
  have pk := pow2 k
  have ob : Builtin.Int.intBits o ≤ Builtin.Int.intBits m := by
    rw [← e2]
    exact bits_div (by have := pow2 (tzF m).toNat; omega) (Nat.le_refl _)
  unfold dnF ddF
  rw [if_neg z, if_neg z, e2, e1]
  by_cases p : 0 ≤ q + k
  · rw [if_pos p, if_pos p]
    refine ⟨by decide, .inl rfl, fun e => (by cases e), ?_, by decide +kernel⟩
    by_cases y : 0 ≤ q
    · have e : o * 2 ^ (q + k).toNat = m * 2 ^ q.toNat := by
        rw [e3, Int.mul_assoc, ← Int.pow_add]
        congr 2
        omega
      rw [e]
      exact Nat.le_trans (bshl (Nat.le_refl (Builtin.Int.intBits m))) (by omega)
    · have e : m = o * 2 ^ (q + k).toNat * 2 ^ (-q).toNat := by
        rw [Int.mul_assoc, ← Int.pow_add]
        conv => lhs; rw [e3]
        congr 2
        omega
      have h1 := PySem.intBits_le_iff.mp (Nat.le_refl (Builtin.Int.intBits m))
      have h2 : (o * 2 ^ (q + k).toNat).natAbs ≤ m.natAbs := by
        conv => rhs; rw [e]
        rw [Int.natAbs_mul (o * 2 ^ (q + k).toNat)]
        exact Nat.le_mul_of_pos_right _ (by have := pow2 (-q).toNat; omega)
      have h3 : Builtin.Int.intBits (o * 2 ^ (q + k).toNat) ≤ Builtin.Int.intBits m := PySem.intBits_le_iff.mpr (by omega)
      omega
  · rw [if_neg p, if_neg p]
    have := pow2 (-(q + k)).toNat
    exact ⟨by omega, .inl rfl, fun e => (by cases e), by omega, Nat.le_trans bits_pow (by omega)⟩
/-- between two powers of two -/
theorem pw_of_bits {m : Int} (z : m ≠ 0) : (2 : Int) ^ (Builtin.Int.intBits m - 1) ≤ m.natAbs ∧ (m.natAbs : Int) < 2 ^ Builtin.Int.intBits m ∧ 1 ≤ Builtin.Int.intBits m := by
  have n1 : m.natAbs < 2 ^ Builtin.Int.intBits m := PySem.intBits_le_iff.mp (Nat.le_refl _)
  have bn : 1 ≤ Builtin.Int.intBits m := by
    rcases Nat.eq_zero_or_pos (Builtin.Int.intBits m) with y | y
    · rw [y] at n1
      omega
    · exact y
  have n2 : 2 ^ (Builtin.Int.intBits m - 1) ≤ m.natAbs := by
    rcases Nat.lt_or_ge m.natAbs (2 ^ (Builtin.Int.intBits m - 1)) with y | y
    · have := PySem.intBits_le_iff.mpr y
      omega
    · exact y
  have c : ∀ k : Nat, ((2 : Int) ^ k) = ((2 ^ k : Nat) : Int) := fun k => by push_cast; rfl
  exact ⟨by rw [c]; omega, by rw [c]; omega, bn⟩
theorem dy_q {m q : Int} (z : m ≠ 0) (h : Ex (dnF m q) (ddF m q) 1) : qF (dnF m q) (ddF m q) 1 = (Builtin.Int.intBits m : Int) - 1 + q := by
  obtain ⟨hL, hG, _, _, _, _⟩ := q_spec h (fun x => z (dn_sg.2.mp x))
  have rel := dn_rel (q := q) z
  obtain ⟨b1, b2, b3⟩ := pw_of_bits z
  have d1 := h.d1
  rw [Int.mul_one] at hL hG
  generalize dnF m q = n at *
  generalize ddF m q = d at *
  have lp : Lp n.natAbs d ((Builtin.Int.intBits m : Int) - 1 + q) := by
    refine sh_le (x := (-q).toNat) (y := (Builtin.Int.intBits m - 1) + q.toNat) ?_ (by omega)
    rw [rel, Int.pow_add, Int.mul_comm d]
    exact Int.mul_le_mul_of_nonneg_right (Int.mul_le_mul_of_nonneg_right b1 (by have := pow2 q.toNat; omega)) (by omega)
  have gp : Gp n.natAbs d ((Builtin.Int.intBits m : Int) - 1 + q + 1) := by
    refine sh_lt (x := (-q).toNat) (y := Builtin.Int.intBits m + q.toNat) ?_ (by omega)
    rw [rel, Int.pow_add, Int.mul_comm d]
    exact Int.mul_lt_mul_of_pos_right (Int.mul_lt_mul_of_pos_right b2 (by have := pow2 q.toNat; omega)) (by omega)
  rcases Int.lt_trichotomy (qF n d 1) ((Builtin.Int.intBits m : Int) - 1 + q) with y | y | y
  · exfalso
    have : Gp n.natAbs d ((Builtin.Int.intBits m : Int) - 1 + q) := gp_mono (by omega) hG (by omega)
    exact absurd lp (Int.not_le.mpr this)
  · exact y
  · exfalso
    have : Lp n.natAbs d ((Builtin.Int.intBits m : Int) - 1 + q + 1) := lp_mono (by omega) hL (by omega)
    exact absurd gp (Int.not_lt.mpr this)
theorem cross {a N d : Int} {A B X Y Z W : Nat} (h : a * 2 ^ A = N * 2 ^ B * d) (e : B + X + Y = Z + W + A) : a * 2 ^ X * 2 ^ Y = N * 2 ^ Z * (d * 2 ^ W) := by
  have pA := pow2 A
  refine Int.eq_of_mul_eq_mul_right (a := 2 ^ A) (by omega) ?_
  have l : a * 2 ^ X * 2 ^ Y * 2 ^ A = (a * 2 ^ A) * (2 ^ X * 2 ^ Y) := by ac_rfl
  have r : N * 2 ^ Z * (d * 2 ^ W) * 2 ^ A = N * d * (2 ^ Z * 2 ^ W * 2 ^ A) := by ac_rfl
  have m : N * 2 ^ B * d * (2 ^ X * 2 ^ Y) = N * d * (2 ^ B * 2 ^ X * 2 ^ Y) := by ac_rfl
  rw [l, h, m, r, ← Int.pow_add, ← Int.pow_add, ← Int.pow_add, ← Int.pow_add, e]
theorem same_div {ov un NN MM : Int} (hu : 0 < un) (hm : 0 < MM) (h : ov * MM = NN * un) : ov / un = NN / MM := by
  have a : ov * MM / (un * MM) = ov / un := Int.mul_ediv_mul_of_pos_left _ _ hm
  have b : NN * un / (MM * un) = NN / MM := Int.mul_ediv_mul_of_pos_left _ _ hu
  rw [← a, h, Int.mul_comm un MM, b]
theorem same_lt {ov un NN MM K t : Int} (hu : 0 < un) (hm : 0 < MM) (h : ov * MM = NN * un) : (K * ov < t * un ↔ K * NN < t * MM) ∧ (t * un < K * ov ↔ t * MM < K * NN) := by
  have e1 : K * ov * MM = K * NN * un := by
    rw [Int.mul_assoc, h, ← Int.mul_assoc]
  have e2 : t * un * MM = t * MM * un := by ac_rfl
  refine ⟨⟨fun x => ?_, fun x => ?_⟩, ⟨fun x => ?_, fun x => ?_⟩⟩
  · have := Int.mul_lt_mul_of_pos_right x hm
    rw [e1, e2] at this
    exact Int.lt_of_mul_lt_mul_right this (by omega)
  · have := Int.mul_lt_mul_of_pos_right x hu
    rw [← e1, ← e2] at this
    exact Int.lt_of_mul_lt_mul_right this (by omega)
  · have := Int.mul_lt_mul_of_pos_right x hm
    rw [e1, e2] at this
    exact Int.lt_of_mul_lt_mul_right this (by omega)
  · have := Int.mul_lt_mul_of_pos_right x hu
    rw [← e1, ← e2] at this
    exact Int.lt_of_mul_lt_mul_right this (by omega)
def nnF (m q u : Int) : Int := (m.natAbs : Int) * 2 ^ (max 0 (q - u)).toNat
def mmF (q u : Int) : Int := 1 * 2 ^ (max 0 (u - q)).toNat
theorem mm_pos {q u : Int} : 0 < mmF q u := by
  have := pow2 (max 0 (u - q)).toNat
  unfold mmF
  omega
theorem dy_cross {m q u : Int} (z : m ≠ 0) : ovF (dnF m q) 1 u * mmF q u = nnF m q u * unF (ddF m q) 1 u := by
  have rel := dn_rel (q := q) z
  unfold ovF mmF nnF unF shF
  rw [if_pos rfl, Int.one_mul]
  exact cross rel (by omega)
theorem spot_core {NN T MM : Int} (h0 : T ≤ NN) (h1 : NN < T + MM) : ((if decide (0 < 2 * (NN - T)) = true then (1 : Int) else 0) + (if (decide (0 < 2 * (NN - T)) && decide (MM ≤ 2 * (NN - T))) = true then 1 else 0) + (if decide (MM < 2 * (NN - T)) = true then 1 else 0)) = if 2 * NN < 2 * T + MM then (if 2 * T < 2 * NN then 1 else 0) else if 2 * T + MM < 2 * NN then 3 else 2 := by
  simp only [Bool.and_eq_true, decide_eq_true_eq]
  by_cases a : 0 < 2 * (NN - T)
  · by_cases b : MM < 2 * (NN - T)
    · rw [if_pos a, if_pos ⟨a, by omega⟩, if_pos b, if_neg (by omega), if_pos (by omega)]
      rfl
    · by_cases c : MM ≤ 2 * (NN - T)
      · rw [if_pos a, if_pos ⟨a, c⟩, if_neg b, if_neg (by omega), if_neg (by omega)]
        rfl
      · rw [if_pos a, if_neg (fun y => c y.2), if_neg b, if_pos (by omega), if_pos (by omega)]
        rfl
  · rw [if_neg a, if_neg (fun y => a y.1), if_neg (by omega), if_pos (by omega), if_neg (by omega)]
    rfl
/-- the place of a dyadic number -/
theorem dy_place {m q u : Int} (z : m ≠ 0) (h : Ex (dnF m q) (ddF m q) 1) : ctF (dnF m q) (ddF m q) 1 u = nnF m q u / mmF q u ∧
    ((if decide (0 < 2 * (nnF m q u - nnF m q u / mmF q u * mmF q u)) = true then (1 : Int) else 0) + (if (decide (0 < 2 * (nnF m q u - nnF m q u / mmF q u * mmF q u)) && decide (mmF q u ≤ 2 * (nnF m q u - nnF m q u / mmF q u * mmF q u))) = true then 1 else 0) + (if decide (mmF q u < 2 * (nnF m q u - nnF m q u / mmF q u * mmF q u)) = true then 1 else 0)) = wF (dnF m q) (ddF m q) 1 u := by
  have un := un_pos (u := u) h
  have mp := mm_pos (q := q) (u := u)
  have cr := dy_cross (q := q) (u := u) z
  have c1 : ctF (dnF m q) (ddF m q) 1 u = nnF m q u / mmF q u := by
    unfold ctF
    rw [if_pos rfl]
    exact same_div (by omega) mp cr
  refine ⟨c1, ?_⟩
  have q1 : nnF m q u / mmF q u * mmF q u ≤ nnF m q u := Int.ediv_mul_le _ (by omega)
  have q2 : nnF m q u < (nnF m q u / mmF q u + 1) * mmF q u := Int.lt_ediv_add_one_mul_self _ mp
  rw [Int.add_mul, Int.one_mul] at q2
  rw [spot_core q1 q2, w_due h, c1]
  generalize nnF m q u / mmF q u = c at *
  have lt := fun t => same_lt (K := 2) (t := t) (by omega : 0 < unF (ddF m q) 1 u) mp cr
  have p1 : ∀ x : Int, pwF x 1 = x := fun x => if_pos rfl
  have k1 : KF 1 = 2 := if_pos rfl
  rw [p1, p1, k1]
  have e1 : (2 * c + 1) * mmF q u = 2 * (c * mmF q u) + mmF q u := by
    rw [Int.add_mul, Int.mul_assoc, Int.one_mul]
  have e2 : 2 * c * mmF q u = 2 * (c * mmF q u) := Int.mul_assoc _ _ _
  rw [← e1, ← e2]
  simp only [(lt (2 * c + 1)).1, (lt (2 * c + 1)).2, (lt (2 * c)).2]
end A38
namespace A38
open PySem PySem.Spec PyProof.Rows L2 Mi
theorem mv_if_tb {T : FT} {A B : FS} {δ : Ev} {s s1 : S} {b : Bool} {r : R Fl} (h1 : T δ s = .ok b s1) (hb : b = true) (h2 : A δ s1 = r) : sIf T A B δ s = r := by
  subst hb
  exact mv_if_t h1 h2
theorem mv_if_fb {T : FT} {A B : FS} {δ : Ev} {s s1 : S} {b : Bool} {r : R Fl} (h1 : T δ s = .ok b s1) (hb : b = false) (h2 : B δ s1 = r) : sIf T A B δ s = r := by
  subst hb
  exact mv_if_f h1 h2
end A38
namespace A38
open PySem PySem.Spec PyProof.Rows L2 Mi
/-! ### the program's sums and products -/
def xr (a b : Int) : Int := if a = b then 0 else 1
theorem xr_01 (a b : Int) : xr a b = 0 ∨ xr a b = 1 := by
  unfold xr
  split
  · exact .inl rfl
  · exact .inr rfl
theorem gXor01 {a b : Int} (ha : a = 0 ∨ a = 1) (hb : b = 0 ∨ b = 1) : gI gXorI (.int a) (.int b) = some (.int (xr a b)) := by
  rcases ha with rfl | rfl <;> rcases hb with rfl | rfl <;> kernel_rfl
theorem sp_mul {a1 b1 a2 b2 : Int} (h1 : a1 = 0 ∨ a1 = 1) (h2 : a2 = 0 ∨ a2 = 1) : spN (xr a1 a2) (b1 * b2) = spN a1 b1 * spN a2 b2 := by
  unfold spN xr
  rcases h1 with rfl | rfl <;> rcases h2 with rfl | rfl <;> simp [Int.neg_mul, Int.mul_neg]
def nanD : D := .tup [ex 0 (-2) 0, .tup []]
def invD : D := .tup [ex 0 (-2) 0, .tup [.str "invalid"]]
def zsF (way : PySem.Str) (s s2 : Int) (bz : Bool) : Int := if bz = true ∧ s = s2 then s else if way = "down" then 1 else 0
def smF (a1 b1 c1 a2 b2 c2 : Int) : Int := spN a1 b1 * 2 ^ (c1 - min c1 c2).toNat + spN a2 b2 * 2 ^ (c2 - min c1 c2).toNat
def rsD (way : PySem.Str) (p lo hi a1 b1 c1 a2 b2 c2 : Int) : D :=
  rxD way p lo hi (dnF (smF a1 b1 c1 a2 b2 c2) (min c1 c2)) (ddF (smF a1 b1 c1 a2 b2 c2) (min c1 c2)) 1 (zsF way a1 a2 (decide (b1 = 0) && decide (b2 = 0)))
/-- the parts of a number, or of a product -/
structure Pt (a b c : Int) : Prop where
  s : a = 0 ∨ a = 1
  bb : Builtin.Int.intBits b ≤ 1200
  c0 : -4000 ≤ c
  c1 : c ≤ 4000
theorem Nu.pt {a b c : Int} (h : Nu a b c) : Pt a b c := ⟨h.s, Nat.le_trans h.bb (by decide), by have := h.c0; omega, by have := h.c1; omega⟩
theorem sm_b {a1 b1 c1 a2 b2 c2 : Int} (h1 : Pt a1 b1 c1) (h2 : Pt a2 b2 c2) : Builtin.Int.intBits (smF a1 b1 c1 a2 b2 c2) ≤ 9203 ∧ Builtin.Int.intBits (smF a1 b1 c1 a2 b2 c2) + (min c1 c2).toNat + 1 ≤ 12000 := by
  have := h1.c0
  have := h1.c1
  have := h2.c0
  have := h2.c1
  have e1 : Builtin.Int.intBits (spN a1 b1 * 2 ^ (c1 - min c1 c2).toNat) ≤ 1200 + ((4000 - min c1 c2).toNat + 1) := Nat.le_trans (bshl (sp_b h1.bb)) (by omega)
  have e2 : Builtin.Int.intBits (spN a2 b2 * 2 ^ (c2 - min c1 c2).toNat) ≤ 1200 + ((4000 - min c1 c2).toNat + 1) := Nat.le_trans (bshl (sp_b h2.bb)) (by omega)
  have e3 := badd e1 e2
  unfold smF
  omega
theorem sm_ex {a1 b1 c1 a2 b2 c2 : Int} (h1 : Pt a1 b1 c1) (h2 : Pt a2 b2 c2) : Ex (dnF (smF a1 b1 c1 a2 b2 c2) (min c1 c2)) (ddF (smF a1 b1 c1 a2 b2 c2) (min c1 c2)) 1 := dy_ex (sm_b h1 h2).2 (by
  have := h1.c0
  have := h2.c0
  omega)
theorem dsum_ok {m q m2 q2 : Int} {s : S} (h1 : Builtin.Int.intBits m ≤ 1200) (h2 : Builtin.Int.intBits m2 ≤ 1200) (q0 : -4000 ≤ q) (q1 : q ≤ 4000) (q20 : -4000 ≤ q2) (q21 : q2 ≤ 4000) : m_dyadic_sum [.int m, .int q, .int m2, .int q2] s = .ok (.tup [.int (m * 2 ^ (q - min q q2).toNat + m2 * 2 ^ (q2 - min q q2).toNat), .int (min q q2)]) s := by
  unfold m_dyadic_sum G_dyadic_sum
  apply mv_fn
  refine mv_seq (δ1 := [.d (.int m), .d (.int q), .d (.int m2), .d (.int q2), .d (.int (min q q2))]) (mv_set (mv_call (mv_cons (mv_var rfl) (mv_cons (mv_var rfl) mv_nil)) gMin2)) ?_
  exact mv_ret (t2 (mv_op (mv_op (mv_var rfl) (mv_op (mv_var rfl) (mv_var rfl) gSub_int) (gShl_s (by omega) h1 (by omega))) (mv_op (mv_var rfl) (mv_op (mv_var rfl) (mv_var rfl) gSub_int) (gShl_s (by omega) h2 (by omega))) Mi.gAdd_int) (mv_var rfl))
theorem zs_ok {way : PySem.Str} {s1 s2 : Int} {bz : Bool} {s : S} : m_zero_sign [.int s1, .int s2, .bl bz, .str way] s = .ok (.int (zsF way s1 s2 bz)) s := by
  unfold m_zero_sign G_zero_sign zsF
  apply mv_fn
  have tst : tAnd (tTru (eVar 2)) (tCmp gEq (eVar 0) (eVar 1)) [.d (.int s1), .d (.int s2), .d (.bl bz), .d (.str way)] s = .ok (bz && decide (s1 = s2)) s := mv_tand (mv_tru (x := .bl bz) (mv_var rfl) rfl) (cmp_eq (mv_var rfl) (mv_var rfl) rfl)
  by_cases e : bz = true ∧ s1 = s2
  · rw [if_pos e]
    exact mv_seq_rt (mv_if_tb tst (by rw [e.1, decide_eq_true e.2]; rfl) (mv_ret (mv_var rfl)))
  · rw [if_neg e]
    have hb : (bz && decide (s1 = s2)) = false := by
      cases bz with
      | false => rfl
      | true => exact decide_eq_false (fun y => e ⟨rfl, y⟩)
    refine mv_seq (mv_if_fb tst hb mv_snil) (mv_ret ?_)
    by_cases d : way = "down"
    · rw [if_pos d]
      exact mv_eif_t (cmp_s (mv_var rfl) mv_c (decide_eq_true d)) mv_c
    · rw [if_neg d]
      exact mv_eif_f (cmp_s (mv_var rfl) mv_c (decide_eq_false d)) mv_c
theorem rsum_ok {way : PySem.Str} {p lo hi a1 b1 c1 a2 b2 c2 : Int} {s : S} (hs : Shp p lo hi) (h1 : Pt a1 b1 c1) (h2 : Pt a2 b2 c2) : m_round_sum_of [shp p lo hi, ex a1 b1 c1, ex a2 b2 c2, .str way] s = .ok (rsD way p lo hi a1 b1 c1 a2 b2 c2) s := by
  have hb := sm_b h1 h2
  have u0 := h1.c0
  have u1 := h1.c1
  have v0 := h2.c0
  have v1 := h2.c1
  unfold m_round_sum_of G_round_sum_of
  apply mv_fn
  refine mv_seq (δ1 := [.d (shp p lo hi), .d (ex a1 b1 c1), .d (ex a2 b2 c2), .d (.str way), .u, .d (.int (smF a1 b1 c1 a2 b2 c2)), .d (.int (min c1 c2))]) (mv_tgt (mv_app (mv_cons (mv_app (mv_cons (mv_var rfl) mv_nil) sp_ok rfl) (mv_cons (i2 rfl) (mv_cons (mv_app (mv_cons (mv_var rfl) mv_nil) sp_ok rfl) (mv_cons (i2 rfl) mv_nil)))) (dsum_ok (sp_b h1.bb) (sp_b h2.bb) u0 u1 v0 v1) rfl) rfl) ?_
  refine mv_seq (δ1 := [.d (shp p lo hi), .d (ex a1 b1 c1), .d (ex a2 b2 c2), .d (.str way), .d (.int (zsF way a1 a2 (decide (b1 = 0) && decide (b2 = 0)))), .d (.int (smF a1 b1 c1 a2 b2 c2)), .d (.int (min c1 c2))]) (mv_set (mv_app (mv_cons (i0 rfl) (mv_cons (i0 rfl) (mv_cons (mv_eand (q_i (i1 rfl) mv_c) (q_i (i1 rfl) mv_c)) (mv_cons (mv_var rfl) mv_nil)))) zs_ok rfl)) ?_
  exact mv_ret (mv_app (mv_cons (mv_var rfl) (mv_cons (mv_app (mv_cons (mv_var rfl) (mv_cons (mv_var rfl) mv_nil)) (dyadic_ok (Nat.le_trans hb.1 (by decide)) (by omega) (by omega)) rfl) (mv_cons (mv_var rfl) (mv_cons (mv_var rfl) mv_nil)))) (round_exact_ok hs (sm_ex h1 h2)) rfl)
def saD (way : PySem.Str) (p lo hi a1 b1 c1 a2 b2 c2 : Int) : D :=
  if b1 = -2 ∨ b2 = -2 then nanD
  else if b1 = -1 ∧ b2 = -1 ∧ a1 ≠ a2 then invD
  else if b1 = -1 then .tup [ex a1 b1 c1, .tup []]
  else if b2 = -1 then .tup [ex a2 b2 c2, .tup []]
  else rsD way p lo hi a1 b1 c1 a2 b2 c2
theorem nan_ret {δ : Ev} {s : S} : sRet (eTup (aCons (eC d_NAN) (aCons (eTup aNil) aNil))) δ s = .ok (.rt nanD) s := mv_ret (t2 mv_c (mv_tup mv_nil (by decide)))
theorem sum_answer_ok {way : PySem.Str} {p lo hi a1 b1 c1 a2 b2 c2 : Int} {s : S} (hs : Shp p lo hi) (h1 : Pt a1 b1 c1) (h2 : Pt a2 b2 c2) : m_sum_answer [shp p lo hi, ex a1 b1 c1, ex a2 b2 c2, .str way] s = .ok (saD way p lo hi a1 b1 c1 a2 b2 c2) s := by
  unfold m_sum_answer G_sum_answer saD
  apply mv_fn
  have nt : tTru (eApp 1 [] m_any_nan (aCons (eTup (aCons (eVar 1) (aCons (eVar 2) aNil))) aNil)) [.d (shp p lo hi), .d (ex a1 b1 c1), .d (ex a2 b2 c2), .d (.str way)] s = .ok ([ex a1 b1 c1, ex a2 b2 c2].any nanB) s := mv_tru (mv_app (mv_cons (t2 (mv_var rfl) (mv_var rfl)) mv_nil) (any_nan_ok (fun d hd => by
    simp only [List.mem_cons, List.not_mem_nil, or_false] at hd
    rcases hd with rfl | rfl
    · exact ⟨_, _, _, rfl⟩
    · exact ⟨_, _, _, rfl⟩) (show 2 ≤ 1000 by decide)) rfl) rfl
  have ne : ([ex a1 b1 c1, ex a2 b2 c2].any nanB) = (decide (b1 = -2) || (decide (b2 = -2) || false)) := rfl
  by_cases n : b1 = -2 ∨ b2 = -2
  · rw [if_pos n]
    exact mv_seq_rt (mv_if_tb nt (ne.trans (by simp only [Bool.or_eq_true, Bool.and_eq_true, Bool.or_eq_false_iff, Bool.and_eq_false_iff, Bool.not_eq_true', Bool.not_eq_false', decide_eq_true_eq, decide_eq_false_iff_not]; omega)) nan_ret)
  rw [if_neg n]
  refine mv_seq (δ1 := [.d (shp p lo hi), .d (ex a1 b1 c1), .d (ex a2 b2 c2), .d (.str way)]) (mv_if_fb nt (ne.trans (by rw [decide_eq_false (fun x => n (.inl x)), decide_eq_false (fun x => n (.inr x))]; rfl)) mv_snil) ?_
  have i1t : ∀ {s : S}, tTru (eApp 1 [] m_is_infinite (aCons (eVar 1) aNil)) [.d (shp p lo hi), .d (ex a1 b1 c1), .d (ex a2 b2 c2), .d (.str way)] s = .ok (decide (b1 = -1)) s := fun {s} => mv_tru (mv_app (mv_cons (mv_var rfl) mv_nil) isinf_ok rfl) rfl
  have i2t : ∀ {s : S}, tTru (eApp 1 [] m_is_infinite (aCons (eVar 2) aNil)) [.d (shp p lo hi), .d (ex a1 b1 c1), .d (ex a2 b2 c2), .d (.str way)] s = .ok (decide (b2 = -1)) s := fun {s} => mv_tru (mv_app (mv_cons (mv_var rfl) mv_nil) isinf_ok rfl) rfl
  have iv := mv_tand (i1t (s := s)) (mv_tand (i2t (s := s)) (cmp_ne (δ := [.d (shp p lo hi), .d (ex a1 b1 c1), .d (ex a2 b2 c2), .d (.str way)]) (s := s) (i0 (i := 1) rfl) (i0 (i := 2) rfl) rfl))
  by_cases v : b1 = -1 ∧ b2 = -1 ∧ a1 ≠ a2
  · rw [if_pos v]
    exact mv_seq_rt (mv_if_tb iv (by rw [decide_eq_true v.1, decide_eq_true v.2.1, decide_eq_false v.2.2]; rfl) (mv_ret mv_c))
  rw [if_neg v]
  refine mv_seq (δ1 := [.d (shp p lo hi), .d (ex a1 b1 c1), .d (ex a2 b2 c2), .d (.str way)]) (mv_if_fb iv (by simp only [Bool.or_eq_true, Bool.and_eq_true, Bool.or_eq_false_iff, Bool.and_eq_false_iff, Bool.not_eq_true', Bool.not_eq_false', decide_eq_true_eq, decide_eq_false_iff_not]; omega) mv_snil) ?_
  by_cases f1 : b1 = -1
  · rw [if_pos f1]
    exact mv_seq_rt (mv_if_tb i1t (decide_eq_true f1) (mv_ret (t2 (mv_var rfl) (mv_tup mv_nil (by decide)))))
  rw [if_neg f1]
  refine mv_seq (δ1 := [.d (shp p lo hi), .d (ex a1 b1 c1), .d (ex a2 b2 c2), .d (.str way)]) (mv_if_fb i1t (decide_eq_false f1) mv_snil) ?_
  by_cases f2 : b2 = -1
  · rw [if_pos f2]
    exact mv_seq_rt (mv_if_tb i2t (decide_eq_true f2) (mv_ret (t2 (mv_var rfl) (mv_tup mv_nil (by decide)))))
  rw [if_neg f2]
  refine mv_seq (δ1 := [.d (shp p lo hi), .d (ex a1 b1 c1), .d (ex a2 b2 c2), .d (.str way)]) (mv_if_fb i2t (decide_eq_false f2) mv_snil) ?_
  exact mv_ret (mv_app (mv_cons (mv_var rfl) (mv_cons (mv_var rfl) (mv_cons (mv_var rfl) (mv_cons (mv_var rfl) mv_nil)))) (rsum_ok hs h1 h2) rfl)
/-! product and sum -/
def maD (way : PySem.Str) (p lo hi a1 b1 c1 a2 b2 c2 a3 b3 c3 : Int) : D :=
  if b1 = -2 ∨ b2 = -2 ∨ b3 = -2 then nanD
  else if b1 = -1 ∨ b2 = -1 then
    if b1 = 0 ∨ b2 = 0 then invD else saD way p lo hi (xr a1 a2) (-1) 0 a3 b3 c3
  else if b3 = -1 then .tup [ex a3 b3 c3, .tup []]
  else rsD way p lo hi (xr a1 a2) (b1 * b2) (c1 + c2) a3 b3 c3
theorem ma_comm {way : PySem.Str} {p lo hi a1 b1 c1 a2 b2 c2 a3 b3 c3 : Int} : maD way p lo hi a2 b2 c2 a1 b1 c1 a3 b3 c3 = maD way p lo hi a1 b1 c1 a2 b2 c2 a3 b3 c3 := by
  have e : xr a2 a1 = xr a1 a2 := by
    unfold xr
    by_cases h : a1 = a2
    · rw [if_pos h, if_pos h.symm]
    · rw [if_neg h, if_neg (fun x => h x.symm)]
  unfold maD
  rw [e, Int.mul_comm b2 b1, Int.add_comm c2 c1]
  simp only [show (b2 = -2 ∨ b1 = -2 ∨ b3 = -2) = (b1 = -2 ∨ b2 = -2 ∨ b3 = -2) from propext ⟨by omega, by omega⟩, show (b2 = -1 ∨ b1 = -1) = (b1 = -1 ∨ b2 = -1) from propext ⟨by omega, by omega⟩, show (b2 = 0 ∨ b1 = 0) = (b1 = 0 ∨ b2 = 0) from propext ⟨by omega, by omega⟩]
theorem pp_pt {a1 b1 c1 a2 b2 c2 : Int} (h1 : Nu a1 b1 c1) (h2 : Nu a2 b2 c2) : Pt (xr a1 a2) (b1 * b2) (c1 + c2) := by
  have := h1.c0
  have := h1.c1
  have := h2.c0
  have := h2.c1
  exact ⟨xr_01 _ _, bmul h1.bb h2.bb, by omega, by omega⟩
theorem inf_pt (a b : Int) : Pt (xr a b) (-1) 0 := ⟨xr_01 _ _, by decide, by decide, by decide⟩
theorem muladd_answer_ok {way : PySem.Str} {p lo hi a1 b1 c1 a2 b2 c2 a3 b3 c3 : Int} {s : S} (hs : Shp p lo hi) (h1 : Nu a1 b1 c1) (h2 : Nu a2 b2 c2) (h3 : Nu a3 b3 c3) : m_muladd_answer [shp p lo hi, ex a1 b1 c1, ex a2 b2 c2, ex a3 b3 c3, .str way] s = .ok (maD way p lo hi a1 b1 c1 a2 b2 c2 a3 b3 c3) s := by
  unfold m_muladd_answer G_muladd_answer maD
  apply mv_fn
  have nt : tTru (eApp 1 [] m_any_nan (aCons (eTup (aCons (eVar 1) (aCons (eVar 2) (aCons (eVar 3) aNil)))) aNil)) [.d (shp p lo hi), .d (ex a1 b1 c1), .d (ex a2 b2 c2), .d (ex a3 b3 c3), .d (.str way)] s = .ok ([ex a1 b1 c1, ex a2 b2 c2, ex a3 b3 c3].any nanB) s := mv_tru (mv_app (mv_cons (t3 (mv_var rfl) (mv_var rfl) (mv_var rfl)) mv_nil) (any_nan_ok (fun d hd => by
    simp only [List.mem_cons, List.not_mem_nil, or_false] at hd
    rcases hd with rfl | rfl | rfl
    · exact ⟨_, _, _, rfl⟩
    · exact ⟨_, _, _, rfl⟩
    · exact ⟨_, _, _, rfl⟩) (show 3 ≤ 1000 by decide)) rfl) rfl
  have ne : ([ex a1 b1 c1, ex a2 b2 c2, ex a3 b3 c3].any nanB) = (decide (b1 = -2) || (decide (b2 = -2) || (decide (b3 = -2) || false))) := rfl
  by_cases n : b1 = -2 ∨ b2 = -2 ∨ b3 = -2
  · rw [if_pos n]
    exact mv_seq_rt (mv_if_tb nt (ne.trans (by simp only [Bool.or_eq_true, Bool.and_eq_true, Bool.or_eq_false_iff, Bool.and_eq_false_iff, Bool.not_eq_true', Bool.not_eq_false', decide_eq_true_eq, decide_eq_false_iff_not]; omega)) nan_ret)
  rw [if_neg n]
  refine mv_seq (δ1 := [.d (shp p lo hi), .d (ex a1 b1 c1), .d (ex a2 b2 c2), .d (ex a3 b3 c3), .d (.str way)]) (mv_if_fb nt (ne.trans (by rw [decide_eq_false (fun x => n (.inl x)), decide_eq_false (fun x => n (.inr (.inl x))), decide_eq_false (fun x => n (.inr (.inr x)))]; rfl)) mv_snil) ?_
  have inf : tOr (tTru (eApp 1 [] m_is_infinite (aCons (eVar 1) aNil))) (tTru (eApp 1 [] m_is_infinite (aCons (eVar 2) aNil))) [.d (shp p lo hi), .d (ex a1 b1 c1), .d (ex a2 b2 c2), .d (ex a3 b3 c3), .d (.str way)] s = .ok (decide (b1 = -1) || decide (b2 = -1)) s := mv_tor (mv_tru (mv_app (mv_cons (mv_var rfl) mv_nil) isinf_ok rfl) rfl) (mv_tru (mv_app (mv_cons (mv_var rfl) mv_nil) isinf_ok rfl) rfl)
  have zer : tOr (tTru (eApp 1 [] m_is_zero (aCons (eVar 1) aNil))) (tTru (eApp 1 [] m_is_zero (aCons (eVar 2) aNil))) [.d (shp p lo hi), .d (ex a1 b1 c1), .d (ex a2 b2 c2), .d (ex a3 b3 c3), .d (.str way)] s = .ok (decide (b1 = 0) || decide (b2 = 0)) s := mv_tor (mv_tru (mv_app (mv_cons (mv_var rfl) mv_nil) isz_ok rfl) rfl) (mv_tru (mv_app (mv_cons (mv_var rfl) mv_nil) isz_ok rfl) rfl)
  by_cases v : b1 = -1 ∨ b2 = -1
  · rw [if_pos v]
    refine mv_seq_rt (mv_if_tb inf (by simp only [Bool.or_eq_true, Bool.and_eq_true, Bool.or_eq_false_iff, Bool.and_eq_false_iff, Bool.not_eq_true', Bool.not_eq_false', decide_eq_true_eq, decide_eq_false_iff_not]; omega) ?_)
    by_cases z : b1 = 0 ∨ b2 = 0
    · rw [if_pos z]
      exact mv_seq_rt (mv_if_tb zer (by simp only [Bool.or_eq_true, Bool.and_eq_true, Bool.or_eq_false_iff, Bool.and_eq_false_iff, Bool.not_eq_true', Bool.not_eq_false', decide_eq_true_eq, decide_eq_false_iff_not]; omega) (mv_ret mv_c))
    · rw [if_neg z]
      refine mv_seq (δ1 := [.d (shp p lo hi), .d (ex a1 b1 c1), .d (ex a2 b2 c2), .d (ex a3 b3 c3), .d (.str way)]) (mv_if_fb zer (by simp only [Bool.or_eq_true, Bool.and_eq_true, Bool.or_eq_false_iff, Bool.and_eq_false_iff, Bool.not_eq_true', Bool.not_eq_false', decide_eq_true_eq, decide_eq_false_iff_not]; omega) mv_snil) ?_
      exact mv_ret (mv_app (mv_cons (mv_var rfl) (mv_cons (t3 (mv_op (i0 rfl) (i0 rfl) (gXor01 h1.s h2.s)) (mv_un mv_c gNeg_int) mv_c) (mv_cons (mv_var rfl) (mv_cons (mv_var rfl) mv_nil)))) (sum_answer_ok hs (inf_pt a1 a2) h3.pt) rfl)
  rw [if_neg v]
  refine mv_seq (δ1 := [.d (shp p lo hi), .d (ex a1 b1 c1), .d (ex a2 b2 c2), .d (ex a3 b3 c3), .d (.str way)]) (mv_if_fb inf (by simp only [Bool.or_eq_true, Bool.and_eq_true, Bool.or_eq_false_iff, Bool.and_eq_false_iff, Bool.not_eq_true', Bool.not_eq_false', decide_eq_true_eq, decide_eq_false_iff_not]; omega) mv_snil) ?_
  have i3t : tTru (eApp 1 [] m_is_infinite (aCons (eVar 3) aNil)) [.d (shp p lo hi), .d (ex a1 b1 c1), .d (ex a2 b2 c2), .d (ex a3 b3 c3), .d (.str way)] s = .ok (decide (b3 = -1)) s := mv_tru (mv_app (mv_cons (mv_var rfl) mv_nil) isinf_ok rfl) rfl
  by_cases f3 : b3 = -1
  · rw [if_pos f3]
    exact mv_seq_rt (mv_if_tb i3t (decide_eq_true f3) (mv_ret (t2 (mv_var rfl) (mv_tup mv_nil (by decide)))))
  rw [if_neg f3]
  refine mv_seq (δ1 := [.d (shp p lo hi), .d (ex a1 b1 c1), .d (ex a2 b2 c2), .d (ex a3 b3 c3), .d (.str way)]) (mv_if_fb i3t (decide_eq_false f3) mv_snil) ?_
  have pp : ∀ {s : S}, m_product_parts [ex a1 b1 c1, ex a2 b2 c2] s = .ok (ex (xr a1 a2) (b1 * b2) (c1 + c2)) s := fun {s} => by
    unfold m_product_parts G_product_parts
    exact mv_fn (mv_ret (t3 (mv_op (i0 rfl) (i0 rfl) (gXor01 h1.s h2.s)) (mul_s (i1 rfl) (i1 rfl) h1.bb h2.bb (by decide)) (mv_op (i2 rfl) (i2 rfl) Mi.gAdd_int)))
  exact mv_ret (mv_app (mv_cons (mv_var rfl) (mv_cons (mv_app (mv_cons (mv_var rfl) (mv_cons (mv_var rfl) mv_nil)) pp rfl) (mv_cons (mv_var rfl) (mv_cons (mv_var rfl) mv_nil)))) (rsum_ok hs (pp_pt h1 h2) h3.pt) rfl)
/-! the law's own word of it -/
end A38
namespace A38
open PySem PySem.Spec PyProof.Rows L2 Mi
/-! ### drawn numbers -/
theorem nu_nan : Nu 0 (-2) 0 := ⟨.inl rfl, by decide, fun _ => rfl, fun _ => rfl, fun h => (by omega), by decide +kernel, by decide, by decide⟩
theorem nu_inf {a : Int} (h : a = 0 ∨ a = 1) : Nu a (-1) 0 := ⟨h, by decide, fun h => (by omega), fun _ => rfl, fun h => (by omega), by decide +kernel, by decide, by decide⟩
theorem nu_zero {a : Int} (h : a = 0 ∨ a = 1) : Nu a 0 0 := ⟨h, by decide, fun h => (by omega), fun _ => rfl, fun h => (by omega), by decide +kernel, by decide, by decide⟩
theorem loose_ok {most reach : Int} {s : S} {n : Nat} {Q : D → S → Prop} (h : SOk n s) (hn : n + 100 < 2 ^ 60) (m1 : 1 ≤ most) (m2 : most ≤ 600) (r0 : 0 ≤ reach) (r1 : reach ≤ 2000) (q : ∀ (a b c : Int) s', Nu a b c → 0 < b → SOk (n + 6) s' → Q (ex a b c) s') : Wp (m__law_loose [.sto, .int most, .int reach] s) Q := by
  unfold m__law_loose G__law_loose
  apply wp_fn
  walk_at "own wgo"
  refine takeQ h (by omega) (by decide) (by decide) fun t s1 ok1 t0 t1 => ?_
  walk_at "own wgo"
  refine scaled_ok ok1 (by omega) (by omega) (by omega) fun v s2 _ v0 v1 ok2 => ?_
  have pw := pow_le (show (most - 1).toNat ≤ 599 by omega)
  have e6 : (2 : Int) ^ 600 = 2 ^ 599 * 2 := Int.pow_succ 2 599
  have vb : Builtin.Int.intBits v ≤ 600 := bits_of (by omega) (by omega)
  refine ⟨_, gMul_int (m := 2) (n := 600) (by decide +kernel) vb (by decide), ?_⟩
  walk_at "own wgo"
  refine edge_ok ok2 (by omega) (by omega) (Nat.le_trans (bits_of (k := 12) (by omega) (by omega)) (by decide)) (Nat.le_trans (bits_of (k := 12) (by omega) (by omega)) (by decide)) fun e s3 e0 e1 ok3 => ?_
  walk_at "own wgo"
  exact q _ _ _ s3 ⟨by omega, by omega, fun _ => by omega, fun _ => by omega, fun _ => by omega, bits_of (by omega) (by omega), by omega, by omega⟩ (by omega) (ok3.mono (by omega))
theorem number_ok {s : S} {n : Nat} {Q : D → S → Prop} (h : SOk n s) (hn : n + 200 < 2 ^ 60) (q : ∀ (a b c : Int) s', Nu a b c → SOk (n + 7) s' → Q (ex a b c) s') : Wp (m__law_number [.sto] s) Q := by
  unfold m__law_number G__law_number
  apply wp_fn
  walk_at "own wgo"
  refine takeQ h (by omega) (by decide) (by decide) fun k s1 ok1 k0 k1 => ?_
  walk_at "own wgo"
  refine ⟨fun _ => ?_, fun _ => ?_⟩
  · walk_at "own wgo"
    exact q _ _ _ s1 nu_nan (ok1.mono (by omega))
  walk_at "own wgo"
  refine ⟨fun _ => ?_, fun _ => ?_⟩
  · walk_at "own wgo"
    refine takeQ ok1 (by omega) (by decide) (by decide) fun t s2 ok2 t0 t1 => ?_
    walk_at "own wgo"
    exact q _ _ _ s2 (nu_inf (by omega)) (ok2.mono (by omega))
  walk_at "own wgo"
  refine ⟨fun _ => ?_, fun _ => ?_⟩
  · walk_at "own wgo"
    refine takeQ ok1 (by omega) (by decide) (by decide) fun t s2 ok2 t0 t1 => ?_
    walk_at "own wgo"
    exact q _ _ _ s2 (nu_zero (by omega)) (ok2.mono (by omega))
  walk_at "own wgo"
  refine ⟨fun _ => ?_, fun _ => ?_⟩
  · walk_at "own wgo"
    exact loose_ok ok1 (by omega) (by decide) (by decide) (by decide) (by decide) fun a b c s2 hu _ ok2 => q _ _ _ s2 hu (ok2.mono (by omega))
  walk_at "own wgo"
  refine ⟨fun _ => ?_, fun _ => ?_⟩
  · walk_at "own wgo"
    exact loose_ok ok1 (by omega) (by decide) (by decide) (by decide) (by decide) fun a b c s2 hu _ ok2 => q _ _ _ s2 hu (ok2.mono (by omega))
  walk_at "own wgo"
  exact loose_ok ok1 (by omega) (by decide) (by decide) (by decide) (by decide) fun a b c s2 hu _ ok2 => q _ _ _ s2 hu (ok2.mono (by omega))
end A38
namespace A38
open PySem PySem.Spec PyProof.Rows L2 Mi
theorem apN {x0 x1 : SV} {l : List D} {F : FE} {B : FS} {s s1 : S} {r : R Fl} {d : D} (h1 : F [x0, x1, .o l] s = .ok d s1) (hl : l.length < 100000) (h2 : B [x0, x1, .o (l ++ [d])] s1 = r) : sSeq (sApp 2 F) B [x0, x1, .o l] s = r := mv_seq (mv_sApp rfl h1 hl) h2
theorem exN {x0 x1 : SV} {l es : List D} {F : FA} {B : FS} {s s1 : S} {r : R Fl} (h1 : F [x0, x1, .o l] s = .ok es s1) (hl : es.length ≤ 50000 ∧ l.length ≤ 50000) (h2 : B [x0, x1, .o (l ++ es)] s1 = r) : sSeq (sExt 2 F) B [x0, x1, .o l] s = r := mv_seq (mv_sExt rfl h1 hl) h2
theorem p600 : gI gShlI (.int 1) (.int 600) = some (.int (1 * 2 ^ (600 : Int).toNat)) := gShl_s (n := 1) (by decide) (by decide +kernel) (by decide)
theorem e600 : (2 : Int) ^ (600 : Int).toNat = ((2 ^ 600 : Nat) : Int) := by
  show (2 : Int) ^ 600 = _
  push_cast
  rfl
theorem b601 : ¬ Builtin.Int.intBits (1 * 2 ^ (600 : Int).toNat + 1) ≤ 600 := fun h => by
  have h := PySem.intBits_le_iff.mp h
  rw [e600, Int.one_mul] at h
  omega
theorem ev600 : ¬ (1 * 2 ^ (600 : Int).toNat : Int) % 2 = 1 := fun h => by
  rw [show (600 : Int).toNat = 599 + 1 from rfl, Int.pow_succ, Int.one_mul] at h
  omega
theorem bad_number_ok {a b c : Int} {s : S} {n : Nat} {Q : D → S → Prop} (h0 : Nu a b c) (h : SOk n s) (hn : n + 100 < 2 ^ 60) (q : ∀ x s', NotNu x → SOk (n + 10) s' → Q x s') : Wp (m__law_bad_number [.sto, ex a b c] s) Q := by
  have pw := pow2 (600 : Int).toNat
  obtain ⟨x0, s1, e1, hx0, ok1⟩ := no_integer_ok (Q := fun x s' => NoI x ∧ SOk (n + 1) s') h (by omega) fun x s' a b => ⟨a, b⟩
  obtain ⟨x1, s2, e2, hx1, ok2⟩ := no_integer_ok (Q := fun x s' => NoI x ∧ SOk (n + 2) s') ok1 (by omega) fun x s' a b => ⟨a, b⟩
  obtain ⟨x2, s3, e3, hx2, ok3⟩ := no_integer_ok (Q := fun x s' => NoI x ∧ SOk (n + 3) s') ok2 (by omega) fun x s' a b => ⟨a, b⟩
  obtain ⟨_, s4, e4, t, rfl, t0, t1, ok4⟩ := takeQ (Q := fun x s' => ∃ t, x = .int t ∧ 0 ≤ t ∧ t < 27 ∧ SOk (n + 4) s') ok3 (by omega) (show (2 : Int) ≤ 27 by decide) (by decide) fun v s' o a b => ⟨v, rfl, a, b, o⟩
  have key : ∀ y, gIx (.lst [.lst [.int a, .int b, .int c], .tup [.int a, .int b], .tup [.int a, .int b, .int c, .int 0], ex 2 b c, ex (-1) b c, ex 0 0 1, ex 1 0 (-2001), ex 0 (-1) 1, ex 1 (-2) 0, ex 0 (-3) 0, ex 0 2 0, ex 1 6 (-1), ex 0 (1 * 2 ^ (600 : Int).toNat + 1) 0, ex 0 1 2001, ex 0 1 (-2001), ex 0 (-5) 0, .non, .str "1p0", .int 1, .int 0, .tup [x0, .int b, .int c], .tup [.int a, x1, .int c], .tup [.int a, .int b, x2], .tup [], .tup [ex a b c], .bl true, ex 0 (1 * 2 ^ (600 : Int).toNat) 0]) (.int t) = some y → m__law_bad_number [.sto, ex a b c] s = .ok y s4 := fun y hy => by
    unfold m__law_bad_number G__law_bad_number
    apply mv_fn
    refine mv_seq (δ1 := [.d .sto, .d (ex a b c), .o [.lst [.int a, .int b, .int c], .tup [.int a, .int b], .tup [.int a, .int b, .int c, .int 0], ex 2 b c]]) (mv_own (mv_cons (mv_lst (mv_cons (i0 rfl) (mv_cons (i1 rfl) (mv_cons (i2 rfl) mv_nil))) (show 3 ≤ 100000 by decide)) (mv_cons (t2 (i0 rfl) (i1 rfl)) (mv_cons (mv_tup (mv_cons (i0 rfl) (mv_cons (i1 rfl) (mv_cons (i2 rfl) (mv_cons mv_c mv_nil)))) (show 4 ≤ 100000 by decide)) (mv_cons (t3 mv_c (i1 rfl) (i2 rfl)) mv_nil)))) (show 4 ≤ 100000 by decide)) ?_
    refine exN (es := [ex (-1) b c, ex 0 0 1, ex 1 0 (-2001), ex 0 (-1) 1, ex 1 (-2) 0, ex 0 (-3) 0, ex 0 2 0]) (mv_cons (t3 (mv_un mv_c gNeg_int) (i1 rfl) (i2 rfl)) (mv_cons (t3 mv_c mv_c mv_c) (mv_cons (t3 mv_c mv_c (mv_un mv_c gNeg_int)) (mv_cons (t3 mv_c (mv_un mv_c gNeg_int) mv_c) (mv_cons (t3 mv_c (mv_un mv_c gNeg_int) mv_c) (mv_cons (t3 mv_c (mv_un mv_c gNeg_int) mv_c) (mv_cons (t3 mv_c mv_c mv_c) mv_nil))))))) ⟨show 7 ≤ 50000 by decide, show 4 ≤ 50000 by decide⟩ ?_
    refine exN (es := [ex 1 6 (-1), ex 0 (1 * 2 ^ (600 : Int).toNat + 1) 0, ex 0 1 2001, ex 0 1 (-2001), ex 0 (-5) 0, .non, .str "1p0", .int 1, .int 0]) (mv_cons (t3 mv_c mv_c (mv_un mv_c gNeg_int)) (mv_cons (t3 mv_c (mv_op (mv_op mv_c mv_c p600) mv_c Mi.gAdd_int) mv_c) (mv_cons (t3 mv_c mv_c mv_c) (mv_cons (t3 mv_c mv_c (mv_un mv_c gNeg_int)) (mv_cons (t3 mv_c (mv_un mv_c gNeg_int) mv_c) (mv_cons mv_c (mv_cons mv_c (mv_cons mv_c (mv_cons mv_c mv_nil))))))))) ⟨show 9 ≤ 50000 by decide, show 11 ≤ 50000 by decide⟩ ?_
    refine apN (tp3 (mv_app (mv_cons (mv_var rfl) mv_nil) e1 rfl) (i1 rfl) (i2 rfl)) (show 20 < 100000 by decide) ?_
    refine apN (tp3 (i0 rfl) (mv_app (mv_cons (mv_var rfl) mv_nil) e2 rfl) (i2 rfl)) (show 21 < 100000 by decide) ?_
    refine apN (tp3 (i0 rfl) (i1 rfl) (mv_app (mv_cons (mv_var rfl) mv_nil) e3 rfl)) (show 22 < 100000 by decide) ?_
    refine exN (es := [.tup [], .tup [ex a b c], .bl true, ex 0 (1 * 2 ^ (600 : Int).toNat) 0]) (mv_cons (mv_tup mv_nil (by decide)) (mv_cons (mv_tup (mv_cons (mv_var rfl) mv_nil) (show 1 ≤ 100000 by decide)) (mv_cons mv_c (mv_cons (t3 mv_c (mv_op mv_c mv_c p600) mv_c) mv_nil)))) ⟨show 4 ≤ 50000 by decide, show 23 ≤ 50000 by decide⟩ ?_
    refine mv_frz (mv_ret (mv_op (mv_var rfl) (mv_app (mv_cons (mv_var rfl) (mv_cons (mv_call (mv_cons (mv_var rfl) mv_nil) rfl) mv_nil)) e4 rfl) hy))
  have fin : ∀ y, NotNu y → gIx (.lst [.lst [.int a, .int b, .int c], .tup [.int a, .int b], .tup [.int a, .int b, .int c, .int 0], ex 2 b c, ex (-1) b c, ex 0 0 1, ex 1 0 (-2001), ex 0 (-1) 1, ex 1 (-2) 0, ex 0 (-3) 0, ex 0 2 0, ex 1 6 (-1), ex 0 (1 * 2 ^ (600 : Int).toNat + 1) 0, ex 0 1 2001, ex 0 1 (-2001), ex 0 (-5) 0, .non, .str "1p0", .int 1, .int 0, .tup [x0, .int b, .int c], .tup [.int a, x1, .int c], .tup [.int a, .int b, x2], .tup [], .tup [ex a b c], .bl true, ex 0 (1 * 2 ^ (600 : Int).toNat) 0]) (.int t) = some y → Wp (m__law_bad_number [.sto, ex a b c] s) Q := fun y hy e => ⟨y, s4, key y e, q _ _ hy (ok4.mono (by omega))⟩
  have : t = 0 ∨ t = 1 ∨ t = 2 ∨ t = 3 ∨ t = 4 ∨ t = 5 ∨ t = 6 ∨ t = 7 ∨ t = 8 ∨ t = 9 ∨ t = 10 ∨ t = 11 ∨ t = 12 ∨ t = 13 ∨ t = 14 ∨ t = 15 ∨ t = 16 ∨ t = 17 ∨ t = 18 ∨ t = 19 ∨ t = 20 ∨ t = 21 ∨ t = 22 ∨ t = 23 ∨ t = 24 ∨ t = 25 ∨ t = 26 := by omega
  rcases this with rfl | rfl | rfl | rfl | rfl | rfl | rfl | rfl | rfl | rfl | rfl | rfl | rfl | rfl | rfl | rfl | rfl | rfl | rfl | rfl | rfl | rfl | rfl | rfl | rfl | rfl | rfl
  · exact fin _ (nn_other rfl (fun l z => by cases z) rfl) rfl
  · exact fin _ (nn_tup (l := [.int a, .int b]) (fun d hd => by
      simp only [List.mem_cons, List.not_mem_nil, or_false] at hd
      rcases hd with rfl | rfl <;> rfl) (show 2 ≤ 1000 by decide) rfl rfl) rfl
  · exact fin _ (nn_tup (l := [.int a, .int b, .int c, .int 0]) (fun d hd => by
      simp only [List.mem_cons, List.not_mem_nil, or_false] at hd
      rcases hd with rfl | rfl | rfl | rfl <;> rfl) (show 4 ≤ 1000 by decide) rfl rfl) rfl
  · exact fin _ (nn_sign (by decide) (by decide)) rfl
  · exact fin _ (nn_sign (by decide) (by decide)) rfl
  · exact fin _ (nn_q (.inl rfl) (by decide) (by decide)) rfl
  · exact fin _ (nn_q (.inr rfl) (by decide) (by decide)) rfl
  · exact fin _ (nn_q (.inl rfl) (by decide) (by decide)) rfl
  · exact fin _ (nn_m (.inr rfl) (by decide) (by kernel_rfl)) rfl
  · exact fin _ (nn_m (.inl rfl) (by decide) (by kernel_rfl)) rfl
  · exact fin _ (nn_pos (.inl rfl) (by decide) (fun z => absurd z.1 (by decide))) rfl
  · exact fin _ (nn_pos (.inr rfl) (by decide) (fun z => absurd z.1 (by decide))) rfl
  · exact fin _ (nn_pos (.inl rfl) (by omega) (fun z => b601 z.2.1)) rfl
  · exact fin _ (nn_pos (.inl rfl) (by decide) (fun z => absurd z.2.2.2 (by decide))) rfl
  · exact fin _ (nn_pos (.inl rfl) (by decide) (fun z => absurd z.2.2.1 (by decide))) rfl
  · exact fin _ (nn_m (.inl rfl) (by decide) (by kernel_rfl)) rfl
  · exact fin _ (nn_other rfl (fun l z => by cases z) rfl) rfl
  · exact fin _ (nn_other rfl (fun l z => by cases z) rfl) rfl
  · exact fin _ (nn_other rfl (fun l z => by cases z) rfl) rfl
  · exact fin _ (nn_other rfl (fun l z => by cases z) rfl) rfl
  · exact fin _ (nn_tup (pl3 hx0.p rfl rfl) (show 3 ≤ 1000 by decide) (by simp [hx0.no]) (by show (noT x0 && true) = true; rw [hx0.nt]; rfl)) rfl
  · exact fin _ (nn_tup (pl3 rfl hx1.p rfl) (show 3 ≤ 1000 by decide) (by simp [hx1.no]) (by show (noT x1 && true) = true; rw [hx1.nt]; rfl)) rfl
  · exact fin _ (nn_tup (pl3 rfl rfl hx2.p) (show 3 ≤ 1000 by decide) (by simp [hx2.no]) (by show (noT x2 && true) = true; rw [hx2.nt]; rfl)) rfl
  · exact fin _ (nn_tup (l := []) (fun d hd => by cases hd) (show 0 ≤ 1000 by decide) rfl rfl) rfl
  · exact fin _ (nn_tup (l := [ex a b c]) (fun d hd => by rw [List.mem_singleton.mp hd]; rfl) (show 1 ≤ 1000 by decide) rfl rfl) rfl
  · exact fin _ (nn_other rfl (fun l z => by cases z) rfl) rfl
  · exact fin _ (nn_pos (.inl rfl) (by omega) (fun z => ev600 z.1)) rfl
end A38
namespace A38
open PySem PySem.Spec PyProof.Rows L2 Mi
/-! ### the step's check -/
def NuD (d : D) : Prop := ∃ a b c, d = ex a b c ∧ Nu a b c
abbrev csBody : FS := sExpr (eApp 1 [] m_check_number (aCons (eVar 3) aNil))
theorem cs_nums {x0 x1 x2 : SV} {s : S} : ∀ (l : List D), (∀ d ∈ l, NuD d) → ∀ x3, ∃ x3', loopF (nName 3) csBody l [x0, x1, x2, x3] s = .ok (.nx [x0, x1, x2, x3']) s
  | [], _, x3 => ⟨x3, rfl⟩
  | d :: l, h, x3 => by
    obtain ⟨x3', e⟩ := cs_nums l (fun d hd => h d (List.mem_cons_of_mem _ hd)) (.d d)
    obtain ⟨a, b, c, rfl, hu⟩ := h d List.mem_cons_self
    exact ⟨x3', loop_cons rfl (mv_expr (mv_app (mv_cons (mv_var rfl) mv_nil) (cn_ok hu) rfl)) e⟩
theorem cs_bad {x0 x1 x2 : SV} {s : S} {bad : D} {l2 : List D} (hb : NotNu bad) : ∀ (l : List D), (∀ d ∈ l, NuD d) → ∀ x3, loopF (nName 3) csBody (l ++ bad :: l2) [x0, x1, x2, x3] s = .err "BadNumber" .non s
  | [], _, x3 => loop_err rfl (mv_expr_err (mv_app (mv_cons (mv_var rfl) mv_nil) (cn_bad hb) rfl))
  | d :: l, h, x3 => by
    obtain ⟨a, b, c, rfl, hu⟩ := h d List.mem_cons_self
    exact loop_cons rfl (mv_expr (mv_app (mv_cons (mv_var rfl) mv_nil) (cn_ok hu) rfl)) (cs_bad hb l (fun d hd => h d (List.mem_cons_of_mem _ hd)) (.d (ex a b c)))
theorem cs_ok {p lo hi : Int} {l : List D} {w : D} {s : S} (hs : Shp p lo hi) (h : ∀ d ∈ l, NuD d) (hw : ∀ s, m_check_mode [w] s = .ok .non s) : m_check_step [shp p lo hi, .tup l, w] s = .ok .non s := by
  obtain ⟨x3', e⟩ := cs_nums (x0 := .d (shp p lo hi)) (x1 := .d (.tup l)) (x2 := .d w) (s := s) l h .u
  unfold m_check_step G_check_step
  exact mv_fn_nx (mv_seq (mv_expr (mv_app (mv_cons (mv_var rfl) mv_nil) (cf_ok hs) rfl)) (mv_seq (for_of (mv_iTpl (mv_var rfl)) e) (mv_expr (mv_app (mv_cons (mv_var rfl) mv_nil) (hw s) rfl))))
theorem cs_f {x y w : D} {s : S} (h : NotShp x) : m_check_step [x, y, w] s = .err "BadFormat" .non s := by
  unfold m_check_step G_check_step
  exact mv_fn_err (mv_seq_err (mv_expr_err (mv_app (mv_cons (mv_var rfl) mv_nil) (cf_bad h) rfl)))
theorem cs_n {p lo hi : Int} {l l2 : List D} {w bad : D} {s : S} (hs : Shp p lo hi) (h : ∀ d ∈ l, NuD d) (hb : NotNu bad) : m_check_step [shp p lo hi, .tup (l ++ bad :: l2), w] s = .err "BadNumber" .non s := by
  unfold m_check_step G_check_step
  exact mv_fn_err (mv_seq (mv_expr (mv_app (mv_cons (mv_var rfl) mv_nil) (cf_ok hs) rfl)) (mv_seq_err (for_of (mv_iTpl (mv_var rfl)) (cs_bad hb l h .u))))
theorem cs_m {p lo hi : Int} {l : List D} {w : D} {s : S} (hs : Shp p lo hi) (h : ∀ d ∈ l, NuD d) (hw : BadM w) : m_check_step [shp p lo hi, .tup l, w] s = .err "BadMode" .non s := by
  obtain ⟨x3', e⟩ := cs_nums (x0 := .d (shp p lo hi)) (x1 := .d (.tup l)) (x2 := .d w) (s := s) l h .u
  unfold m_check_step G_check_step
  exact mv_fn_err (mv_seq (mv_expr (mv_app (mv_cons (mv_var rfl) mv_nil) (cf_ok hs) rfl)) (mv_seq (for_of (mv_iTpl (mv_var rfl)) e) (mv_expr_err (mv_app (mv_cons (mv_var rfl) mv_nil) (hw.bad s) rfl))))
theorem nu3 {x y z : D} (h1 : NuD x) (h2 : NuD y) (h3 : NuD z) : ∀ d ∈ [x, y, z], NuD d := fun d hd => by
  simp only [List.mem_cons, List.not_mem_nil, or_false] at hd
  rcases hd with rfl | rfl | rfl <;> assumption
/-! ### muladd -/
theorem muladd_ok {way : PySem.Str} {p lo hi a1 b1 c1 a2 b2 c2 a3 b3 c3 : Int} {s : S} (hw : way ∈ ways) (hs : Shp p lo hi) (h1 : Nu a1 b1 c1) (h2 : Nu a2 b2 c2) (h3 : Nu a3 b3 c3) : m_muladd [shp p lo hi, ex a1 b1 c1, ex a2 b2 c2, ex a3 b3 c3, .str way] s = .ok (maD way p lo hi a1 b1 c1 a2 b2 c2 a3 b3 c3) s := by
  unfold m_muladd G_muladd
  exact mv_fn (mv_seq (mv_expr (mv_app (mv_cons (mv_var rfl) (mv_cons (t3 (mv_var rfl) (mv_var rfl) (mv_var rfl)) (mv_cons (mv_var rfl) mv_nil))) (cs_ok hs (nu3 ⟨_, _, _, rfl, h1⟩ ⟨_, _, _, rfl, h2⟩ ⟨_, _, _, rfl, h3⟩) (way_of hw).2) rfl)) (mv_ret (mv_app (mv_cons (mv_var rfl) (mv_cons (mv_var rfl) (mv_cons (mv_var rfl) (mv_cons (mv_var rfl) (mv_cons (mv_var rfl) mv_nil))))) (muladd_answer_ok hs h1 h2 h3) rfl)))
theorem mu_err {x y1 y2 y3 w : D} {s : S} {e : PySem.Str} (h : m_check_step [x, .tup [y1, y2, y3], w] s = .err e .non s) : m_muladd [x, y1, y2, y3, w] s = .err e .non s := by
  unfold m_muladd G_muladd
  exact mv_fn_err (mv_seq_err (mv_expr_err (mv_app (mv_cons (mv_var rfl) (mv_cons (t3 (mv_var rfl) (mv_var rfl) (mv_var rfl)) (mv_cons (mv_var rfl) mv_nil))) h rfl)))
/-! ### the exact product -/
/-! ### the law's pair -/
/-! ### right by all modes -/
theorem ma_cases (way : PySem.Str) (p lo hi a1 b1 c1 a2 b2 c2 a3 b3 c3 : Int) : ∃ (a b c : Int) (f : List PySem.Str), maD way p lo hi a1 b1 c1 a2 b2 c2 a3 b3 c3 = .tup [ex a b c, .tup (f.map D.str)] ∧ f.length ≤ 2 := by
  have rs : ∀ a1 b1 c1 a2 b2 c2, ∃ (a b c : Int) (f : List PySem.Str), rsD way p lo hi a1 b1 c1 a2 b2 c2 = .tup [ex a b c, .tup (f.map D.str)] ∧ f.length ≤ 2 := fun a1 b1 c1 a2 b2 c2 => rx_cases _ _ _ _ _ _ _ _
  have sa : ∀ a1 b1 c1 a2 b2 c2, ∃ (a b c : Int) (f : List PySem.Str), saD way p lo hi a1 b1 c1 a2 b2 c2 = .tup [ex a b c, .tup (f.map D.str)] ∧ f.length ≤ 2 := fun a1 b1 c1 a2 b2 c2 => by
    unfold saD
    split
    · exact ⟨_, _, _, [], rfl, by decide⟩
    split
    · exact ⟨_, _, _, ["invalid"], rfl, by decide⟩
    split
    · exact ⟨_, _, _, [], rfl, by decide⟩
    split
    · exact ⟨_, _, _, [], rfl, by decide⟩
    · exact rs _ _ _ _ _ _
  unfold maD
  split
  · exact ⟨_, _, _, [], rfl, by decide⟩
  split
  · split
    · exact ⟨_, _, _, ["invalid"], rfl, by decide⟩
    · exact sa _ _ _ _ _ _
  split
  · exact ⟨_, _, _, [], rfl, by decide⟩
  · exact rs _ _ _ _ _ _
theorem told_pl {x : D} (h : ∃ (a b c : Int) (f : List PySem.Str), x = .tup [ex a b c, .tup (f.map D.str)] ∧ f.length ≤ 2) : plain 7 x = true ∧ noT x = true := by
  obtain ⟨a, b, c, f, rfl, hl⟩ := h
  match f, hl with
  | [], _ => exact ⟨by simp [plain, plains], rfl⟩
  | [_], _ => exact ⟨by simp [plain, plains], rfl⟩
  | [_, _], _ => exact ⟨by simp [plain, plains], rfl⟩
/-! ### specials -/
def rowL : List D := [ex 0 0 0, ex 1 0 0, ex 0 (-1) 0, ex 1 (-1) 0, ex 0 (-2) 0, ex 0 3 (-1), ex 1 1 2]
theorem rowN : ∀ d ∈ rowL, NuD d := fun d hd => by
  simp only [rowL, List.mem_cons, List.not_mem_nil, or_false] at hd
  rcases hd with rfl | rfl | rfl | rfl | rfl | rfl | rfl
  · exact ⟨_, _, _, rfl, nu_zero (.inl rfl)⟩
  · exact ⟨_, _, _, rfl, nu_zero (.inr rfl)⟩
  · exact ⟨_, _, _, rfl, nu_inf (.inl rfl)⟩
  · exact ⟨_, _, _, rfl, nu_inf (.inr rfl)⟩
  · exact ⟨_, _, _, rfl, nu_nan⟩
  · exact ⟨_, _, _, rfl, .inl rfl, by decide, fun h => (by omega), fun h => (by omega), fun _ => by decide, by decide +kernel, by decide, by decide⟩
  · exact ⟨_, _, _, rfl, .inr rfl, by decide, fun h => (by omega), fun h => (by omega), fun _ => by decide, by decide +kernel, by decide, by decide⟩
theorem rowP {t : Int} (t0 : 0 ≤ t) (t1 : t < 7) : ∃ d, gIx (.lst rowL) (.int t) = some d ∧ NuD d := by
  have : t = 0 ∨ t = 1 ∨ t = 2 ∨ t = 3 ∨ t = 4 ∨ t = 5 ∨ t = 6 := by omega
  rcases this with rfl | rfl | rfl | rfl | rfl | rfl | rfl
  all_goals exact ⟨_, rfl, rowN _ (by simp [rowL])⟩
/-! ### refused -/
theorem n010 : Nu 0 1 0 := ⟨.inl rfl, by decide, fun h => (by omega), fun h => (by omega), fun _ => by decide, by decide +kernel, by decide, by decide⟩
/-! ### the law -/
end A38
namespace A38
open PySem PySem.Spec PyProof.Rows L2 Mi
theorem nl {δ : Ev} {s : S} : eTup aNil δ s = .ok (.tup []) s := mv_tup mv_nil (by decide)
theorem tru {F : FE} {δ : Ev} {s : S} {b : Bool} (h : F δ s = .ok (.bl b) s) : tTru F δ s = .ok b s := mv_tru h rfl
def odB (m : Int) : Int := if m = 0 then 0 else m / 2 ^ (tzF m).toNat
def odC (m q : Int) : Int := if m = 0 then 0 else q + tzF m
theorem od_ex {sg m q : Int} : odD sg m q = ex sg (odB m) (odC m q) := by
  unfold odD odB odC
  split <;> rfl
theorem od_nu {sg m q : Int} (hs : sg = 0 ∨ sg = 1) (m0 : 0 ≤ m) (mb : Builtin.Int.intBits m ≤ 600) (q0 : -2000 ≤ q) (q1 : q ≤ 2000) : (odC m q ≤ 2000 → Nu sg (odB m) (odC m q)) ∧ (2000 < odC m q → NotNu (ex sg (odB m) (odC m q))) := by
  unfold odB odC
  by_cases z : m = 0
  · rw [if_pos z, if_pos z]
    exact ⟨fun _ => nu_zero hs, fun h => absurd h (by decide)⟩
  rw [if_neg z, if_neg z]
  obtain ⟨k, o, e1, e2, e3, e4, e5⟩ := parts z
  have pk := pow2 k
  have ob : Builtin.Int.intBits o ≤ 600 := by
    rw [← e2]
    exact bits_div (by have := pow2 (tzF m).toNat; omega) mb
  rw [e2, e1]
  have opos : 0 < o := by
    rcases (show o < 0 ∨ 0 < o by omega) with y | y
    · have := Int.mul_neg_of_neg_of_pos y (show (0 : Int) < 2 ^ k by omega)
      omega
    · exact y
  exact ⟨fun h => ⟨hs, by omega, fun _ => by omega, fun _ => by omega, fun _ => e4, ob, by omega, by omega⟩, fun h => nn_pos hs opos fun y => by omega⟩
def rX (b1 c1 c2 : Int) : Int := b1 * 2 ^ (c1 - min c1 c2).toNat
def rY (b2 c1 c2 : Int) : Int := b2 * 2 ^ (c2 - min c1 c2).toNat
def lfF (x y : Int) : Int := x - x / y * y
def phF (x y : Int) : Bool := decide (y < 2 * lfF x y) || (decide (2 * lfF x y = y) && decide (x / y % 2 = 1))
def frS (near : Bool) (a x y : Int) : Int := if (near && phF x y) = true then 1 - a else a
def frM (near : Bool) (x y : Int) : Int := if (near && phF x y) = true then y - lfF x y else lfF x y
def frD (near : Bool) (a1 b1 c1 b2 c2 : Int) : D := odD (frS near a1 (rX b1 c1 c2) (rY b2 c1 c2)) (frM near (rX b1 c1 c2) (rY b2 c1 c2)) (min c1 c2)
theorem lf_b {x y : Int} (y0 : 0 < y) : 0 ≤ lfF x y ∧ lfF x y < y := by
  have e : lfF x y = x % y := by
    have := Int.mul_ediv_add_emod x y
    unfold lfF
    rw [Int.mul_comm]
    omega
  rw [e]
  exact ⟨Int.emod_nonneg _ (by omega), Int.emod_lt_of_pos _ y0⟩
theorem lf_x {x y : Int} (y0 : 0 < y) (x0 : 0 ≤ x) : lfF x y ≤ x := by
  have := Int.mul_nonneg (Int.ediv_nonneg x0 (Int.le_of_lt y0)) (Int.le_of_lt y0)
  unfold lfF
  omega
structure Two (b1 c1 b2 c2 : Int) : Prop where
  x0 : 0 < rX b1 c1 c2
  y0 : 0 < rY b2 c1 c2
  xb : Builtin.Int.intBits (rX b1 c1 c2) ≤ 4602
  yb : Builtin.Int.intBits (rY b2 c1 c2) ≤ 4602
  one : Builtin.Int.intBits (rX b1 c1 c2) ≤ 600 ∨ Builtin.Int.intBits (rY b2 c1 c2) ≤ 600
theorem two_of {a1 b1 c1 a2 b2 c2 : Int} (h1 : Nu a1 b1 c1) (h2 : Nu a2 b2 c2) (p1 : 0 < b1) (p2 : 0 < b2) : Two b1 c1 b2 c2 := by
  have k0 := h1.c0
  have k1 := h1.c1
  have k2 := h2.c0
  have k3 := h2.c1
  refine ⟨Int.mul_pos p1 (by have := pow2 (c1 - min c1 c2).toNat; omega), Int.mul_pos p2 (by have := pow2 (c2 - min c1 c2).toNat; omega), Nat.le_trans (bshl h1.bb) (by omega), Nat.le_trans (bshl h2.bb) (by omega), ?_⟩
  unfold rX rY
  by_cases y : c1 ≤ c2
  · left
    rw [show (c1 - min c1 c2).toNat = 0 by omega, Int.pow_zero, Int.mul_one]
    exact h1.bb
  · right
    rw [show (c2 - min c1 c2).toNat = 0 by omega, Int.pow_zero, Int.mul_one]
    exact h2.bb
theorem bits_mono {a b : Int} {n : Nat} (h0 : 0 ≤ a) (h1 : a ≤ b) (h : Builtin.Int.intBits b ≤ n) : Builtin.Int.intBits a ≤ n := by
  have := PySem.intBits_le_iff.mp h
  exact PySem.intBits_le_iff.mpr (by omega)
theorem fr_m {near : Bool} {x y : Int} (x0 : 0 < x) (y0 : 0 < y) (h : Builtin.Int.intBits x ≤ 600 ∨ Builtin.Int.intBits y ≤ 600) : 0 ≤ frM near x y ∧ Builtin.Int.intBits (frM near x y) ≤ 600 := by
  obtain ⟨l0, l1⟩ := lf_b (x := x) y0
  have lx := lf_x (x := x) y0 (Int.le_of_lt x0)
  unfold frM
  split
  · rename_i e
    have e2 : phF x y = true := by
      simp only [Bool.and_eq_true] at e
      exact e.2
    have : y ≤ 2 * lfF x y := by
      unfold phF at e2
      simp only [Bool.or_eq_true, Bool.and_eq_true, decide_eq_true_eq] at e2
      omega
    refine ⟨by omega, ?_⟩
    rcases h with h | h
    · exact bits_mono (by omega) (show y - lfF x y ≤ x by omega) h
    · exact bits_mono (by omega) (show y - lfF x y ≤ y by omega) h
  · refine ⟨l0, ?_⟩
    rcases h with h | h
    · exact bits_mono l0 lx h
    · exact bits_mono l0 (Int.le_of_lt l1) h
theorem fr_s {near : Bool} {a x y : Int} (h : a = 0 ∨ a = 1) : frS near a x y = 0 ∨ frS near a x y = 1 := by
  unfold frS
  split <;> omega
theorem finite_rest_ok {near : Bool} {a1 b1 c1 a2 b2 c2 : Int} {s : S} (h1 : Nu a1 b1 c1) (h2 : Nu a2 b2 c2) (p1 : 0 < b1) (p2 : 0 < b2) : m_finite_rest [ex a1 b1 c1, ex a2 b2 c2, .bl near] s = .ok (frD near a1 b1 c1 b2 c2) s := by
  have k0 := h1.c0
  have k1 := h1.c1
  have k2 := h2.c0
  have k3 := h2.c1
  have t := two_of h1 h2 p1 p2
  unfold m_finite_rest G_finite_rest
  apply mv_fn
  have x0 := t.x0
  have y0 := t.y0
  have xb := t.xb
  have yb := t.yb
  have ex_ : gI gShlI (.int b1) (.int (c1 - min c1 c2)) = some (.int (rX b1 c1 c2)) := gShl_s (by omega) h1.bb (by omega)
  have ey_ : gI gShlI (.int b2) (.int (c2 - min c1 c2)) = some (.int (rY b2 c1 c2)) := gShl_s (by omega) h2.bb (by omega)
  unfold frD
  generalize rX b1 c1 c2 = x at *
  generalize rY b2 c1 c2 = y at *
  obtain ⟨l0, l1⟩ := lf_b (x := x) y0
  have cb : Builtin.Int.intBits (x / y) ≤ 4602 := bits_div y0 xb
  have lb : Builtin.Int.intBits (lfF x y) ≤ 4602 := bits_mono l0 (Int.le_of_lt l1) yb
  refine mv_seq (s1 := s) (δ1 := [.d (ex a1 b1 c1), .d (ex a2 b2 c2), .d (.bl near), .d (.int (min c1 c2)), .u, .u, .u, .u, .u]) (mv_set (mv_call (mv_cons (i2 rfl) (mv_cons (i2 rfl) mv_nil)) gMin2)) ?_
  refine mv_seq (s1 := s) (δ1 := [.d (ex a1 b1 c1), .d (ex a2 b2 c2), .d (.bl near), .d (.int (min c1 c2)), .d (.int x), .u, .u, .u, .u]) (mv_set (mv_op (i1 rfl) (mv_op (i2 rfl) (mv_var rfl) gSub_int) ex_)) ?_
  refine mv_seq (s1 := s) (δ1 := [.d (ex a1 b1 c1), .d (ex a2 b2 c2), .d (.bl near), .d (.int (min c1 c2)), .d (.int x), .d (.int y), .u, .u, .u]) (mv_set (mv_op (i1 rfl) (mv_op (i2 rfl) (mv_var rfl) gSub_int) ey_)) ?_
  refine mv_seq (s1 := s) (δ1 := [.d (ex a1 b1 c1), .d (ex a2 b2 c2), .d (.bl near), .d (.int (min c1 c2)), .d (.int x), .d (.int y), .d (.int (x / y)), .u, .u]) (mv_set (mv_op (mv_var rfl) (mv_var rfl) (gDiv_mid y0 (Nat.le_trans yb (by decide))))) ?_
  refine mv_seq (s1 := s) (δ1 := [.d (ex a1 b1 c1), .d (ex a2 b2 c2), .d (.bl near), .d (.int (min c1 c2)), .d (.int x), .d (.int y), .d (.int (x / y)), .d (.int (lfF x y)), .u]) (mv_set (mv_op (mv_var rfl) (mv_op (mv_var rfl) (mv_var rfl) (gMul_s (by omega))) gSub_int)) ?_
  have two : ∀ {δ : Ev} {s : S}, δ[7]? = some (.d (.int (lfF x y))) → eOp (gI gMulI) (eC (.int 2)) (eVar 7) δ s = .ok (.int (2 * lfF x y)) s := fun h => mv_op mv_c (mv_var h) (gMul_int (m := 2) (n := 4602) (by decide +kernel) lb (by decide))
  have past : eOr (eOp gGt (eOp (gI gMulI) (eC (.int 2)) (eVar 7)) (eVar 5)) (eAnd (eOp gEq (eOp (gI gMulI) (eC (.int 2)) (eVar 7)) (eVar 5)) (eOp gEq (eOp (gI gModI) (eVar 6) (eC (.int 2))) (eC (.int 1)))) [.d (ex a1 b1 c1), .d (ex a2 b2 c2), .d (.bl near), .d (.int (min c1 c2)), .d (.int x), .d (.int y), .d (.int (x / y)), .d (.int (lfF x y)), .u] s = .ok (.bl (phF x y)) s := by
    have g := mv_op (δ := [.d (ex a1 b1 c1), .d (ex a2 b2 c2), .d (.bl near), .d (.int (min c1 c2)), .d (.int x), .d (.int y), .d (.int (x / y)), .d (.int (lfF x y)), .u]) (s := s) (two rfl) (mv_var (i := 5) rfl) Mi.gGt_int
    have e := q_i (δ := [.d (ex a1 b1 c1), .d (ex a2 b2 c2), .d (.bl near), .d (.int (min c1 c2)), .d (.int x), .d (.int y), .d (.int (x / y)), .d (.int (lfF x y)), .u]) (s := s) (two rfl) (mv_var (i := 5) rfl)
    have m := q_i (δ := [.d (ex a1 b1 c1), .d (ex a2 b2 c2), .d (.bl near), .d (.int (min c1 c2)), .d (.int x), .d (.int y), .d (.int (x / y)), .d (.int (lfF x y)), .u]) (s := s) (mv_op (mv_var (i := 6) rfl) (mv_c (d := .int 2)) (Mi.gMod_int (by decide))) (mv_c (d := .int 1))
    unfold phF
    by_cases q : y < 2 * lfF x y
    · rw [show decide (2 * lfF x y > y) = true from decide_eq_true q] at g
      rw [decide_eq_true q, Bool.true_or]
      exact mv_eor_t g
    rw [show decide (2 * lfF x y > y) = false from decide_eq_false q] at g
    rw [decide_eq_false q, Bool.false_or]
    refine mv_eor_f g ?_
    by_cases z : 2 * lfF x y = y
    · rw [decide_eq_true z] at e
      rw [decide_eq_true z, Bool.true_and]
      exact mv_eand_t e m
    · rw [decide_eq_false z] at e
      rw [decide_eq_false z, Bool.false_and]
      exact mv_eand_f e
  refine mv_seq (s1 := s) (δ1 := [.d (ex a1 b1 c1), .d (ex a2 b2 c2), .d (.bl near), .d (.int (min c1 c2)), .d (.int x), .d (.int y), .d (.int (x / y)), .d (.int (lfF x y)), .d (.bl (phF x y))]) (mv_set past) ?_
  have both : tAnd (tTru (eVar 2)) (tTru (eVar 8)) [.d (ex a1 b1 c1), .d (ex a2 b2 c2), .d (.bl near), .d (.int (min c1 c2)), .d (.int x), .d (.int y), .d (.int (x / y)), .d (.int (lfF x y)), .d (.bl (phF x y))] s = .ok (near && phF x y) s := mv_tand (tru (mv_var rfl)) (tru (mv_var rfl))
  unfold frS frM
  by_cases q : (near && phF x y) = true
  · rw [if_pos q, if_pos q]
    exact mv_seq_rt (mv_if_tb both q (mv_ret (mv_app (mv_cons (mv_op mv_c (i0 rfl) gSub_int) (mv_cons (mv_op (mv_var rfl) (mv_var rfl) gSub_int) (mv_cons (mv_var rfl) mv_nil))) sgd_ok rfl)))
  · rw [if_neg q, if_neg q]
    exact mv_seq (mv_if_fb both (by cases h : (near && phF x y); rfl; exact absurd h q) mv_snil) (mv_ret (mv_app (mv_cons (i0 rfl) (mv_cons (mv_var rfl) (mv_cons (mv_var rfl) mv_nil))) sgd_ok rfl))
def reC (near : Bool) (b1 c1 b2 c2 : Int) : Int := odC (frM near (rX b1 c1 c2) (rY b2 c1 c2)) (min c1 c2)
/-- refused: a power above 2000 -/
def Over (near : Bool) (b1 c1 b2 c2 : Int) : Prop := 0 < b1 ∧ 0 < b2 ∧ 2000 < reC near b1 c1 b2 c2
instance {near : Bool} {b1 c1 b2 c2 : Int} : Decidable (Over near b1 c1 b2 c2) := by unfold Over; infer_instance
def reD (near : Bool) (a1 b1 c1 a2 b2 c2 : Int) : D :=
  if b1 = -2 ∨ b2 = -2 then nanD
  else if b1 = -1 ∨ b2 = 0 then invD
  else if b2 = -1 ∨ b1 = 0 then .tup [ex a1 b1 c1, .tup []]
  else .tup [frD near a1 b1 c1 b2 c2, .tup []]
theorem any2 {a1 b1 c1 a2 b2 c2 : Int} {s : S} : m_any_nan [.tup [ex a1 b1 c1, ex a2 b2 c2]] s = .ok (.bl (decide (b1 = -2) || (decide (b2 = -2) || false))) s := any_nan_ok (fun d hd => by
  simp only [List.mem_cons, List.not_mem_nil, or_false] at hd
  rcases hd with rfl | rfl
  · exact ⟨_, _, _, rfl⟩
  · exact ⟨_, _, _, rfl⟩) (show 2 ≤ 1000 by decide)
theorem rest_answer_ok {near : Bool} {a1 b1 c1 a2 b2 c2 : Int} {s : S} (h1 : Nu a1 b1 c1) (h2 : Nu a2 b2 c2) : m_rest_answer [ex a1 b1 c1, ex a2 b2 c2, .bl near] s = if Over near b1 c1 b2 c2 then .err "BadNumber" .non s else .ok (reD near a1 b1 c1 a2 b2 c2) s := by
  have m1 := h1.m
  have m2 := h2.m
  unfold m_rest_answer G_rest_answer reD
  have no : b1 ≤ 0 ∨ b2 ≤ 0 → ¬ Over near b1 c1 b2 c2 := fun h o => by
    have := o.1
    have := o.2.1
    omega
  have nt : tTru (eApp 1 [] m_any_nan (aCons (eTup (aCons (eVar 0) (aCons (eVar 1) aNil))) aNil)) [.d (ex a1 b1 c1), .d (ex a2 b2 c2), .d (.bl near), .u] s = .ok (decide (b1 = -2) || (decide (b2 = -2) || false)) s := tru (mv_app (mv_cons (t2 (mv_var rfl) (mv_var rfl)) mv_nil) any2 rfl)
  have it : tOr (tTru (eApp 1 [] m_is_infinite (aCons (eVar 0) aNil))) (tTru (eApp 1 [] m_is_zero (aCons (eVar 1) aNil))) [.d (ex a1 b1 c1), .d (ex a2 b2 c2), .d (.bl near), .u] s = .ok (decide (b1 = -1) || decide (b2 = 0)) s := mv_tor (tru (mv_app (mv_cons (mv_var rfl) mv_nil) isinf_ok rfl)) (tru (mv_app (mv_cons (mv_var rfl) mv_nil) isz_ok rfl))
  have zt : tOr (tTru (eApp 1 [] m_is_infinite (aCons (eVar 1) aNil))) (tTru (eApp 1 [] m_is_zero (aCons (eVar 0) aNil))) [.d (ex a1 b1 c1), .d (ex a2 b2 c2), .d (.bl near), .u] s = .ok (decide (b2 = -1) || decide (b1 = 0)) s := mv_tor (tru (mv_app (mv_cons (mv_var rfl) mv_nil) isinf_ok rfl)) (tru (mv_app (mv_cons (mv_var rfl) mv_nil) isz_ok rfl))
  have c1' : sExpr (eApp 1 [] m_check_number (aCons (eVar 0) aNil)) [.d (ex a1 b1 c1), .d (ex a2 b2 c2), .d (.bl near), .u] s = .ok (.nx [.d (ex a1 b1 c1), .d (ex a2 b2 c2), .d (.bl near), .u]) s := mv_expr (mv_app (mv_cons (mv_var rfl) mv_nil) (cn_ok h1) rfl)
  have c2' : sExpr (eApp 1 [] m_check_number (aCons (eVar 1) aNil)) [.d (ex a1 b1 c1), .d (ex a2 b2 c2), .d (.bl near), .u] s = .ok (.nx [.d (ex a1 b1 c1), .d (ex a2 b2 c2), .d (.bl near), .u]) s := mv_expr (mv_app (mv_cons (mv_var rfl) mv_nil) (cn_ok h2) rfl)
  by_cases n : b1 = -2 ∨ b2 = -2
  · rw [if_neg (no (by omega)), if_pos n]
    exact mv_fn (mv_seq c1' (mv_seq c2' (mv_seq_rt (mv_if_tb nt (by simp only [Bool.or_eq_true, Bool.and_eq_true, Bool.or_eq_false_iff, Bool.and_eq_false_iff, Bool.not_eq_true', Bool.not_eq_false', decide_eq_true_eq, decide_eq_false_iff_not]; omega) nan_ret))))
  rw [if_neg n]
  by_cases v : b1 = -1 ∨ b2 = 0
  · rw [if_neg (no (by omega)), if_pos v]
    exact mv_fn (mv_seq c1' (mv_seq c2' (mv_seq (mv_if_fb nt (by rw [decide_eq_false (fun x => n (.inl x)), decide_eq_false (fun x => n (.inr x))]; rfl) mv_snil) (mv_seq_rt (mv_if_tb it (by simp only [Bool.or_eq_true, Bool.and_eq_true, Bool.or_eq_false_iff, Bool.and_eq_false_iff, Bool.not_eq_true', Bool.not_eq_false', decide_eq_true_eq, decide_eq_false_iff_not]; omega) (mv_ret mv_c))))))
  rw [if_neg v]
  by_cases z : b2 = -1 ∨ b1 = 0
  · rw [if_neg (no (by omega)), if_pos z]
    exact mv_fn (mv_seq c1' (mv_seq c2' (mv_seq (mv_if_fb nt (by rw [decide_eq_false (fun x => n (.inl x)), decide_eq_false (fun x => n (.inr x))]; rfl) mv_snil) (mv_seq (mv_if_fb it (by simp only [Bool.or_eq_true, Bool.and_eq_true, Bool.or_eq_false_iff, Bool.and_eq_false_iff, Bool.not_eq_true', Bool.not_eq_false', decide_eq_true_eq, decide_eq_false_iff_not]; omega) mv_snil) (mv_seq_rt (mv_if_tb zt (by simp only [Bool.or_eq_true, Bool.and_eq_true, Bool.or_eq_false_iff, Bool.and_eq_false_iff, Bool.not_eq_true', Bool.not_eq_false', decide_eq_true_eq, decide_eq_false_iff_not]; omega) (mv_ret (t2 (mv_var rfl) nl))))))))
  rw [if_neg z]
  have p1 : 0 < b1 := by omega
  have p2 : 0 < b2 := by omega
  have t := two_of h1 h2 p1 p2
  obtain ⟨f0, fb⟩ := fr_m (near := near) t.x0 t.y0 t.one
  have k0 := h1.c0
  have k1 := h1.c1
  have k2 := h2.c0
  have k3 := h2.c1
  obtain ⟨g1, g2⟩ := od_nu (q := min c1 c2) (fr_s (near := near) (x := rX b1 c1 c2) (y := rY b2 c1 c2) h1.s) f0 fb (by omega) (by omega)
  have fo := finite_rest_ok (near := near) (s := s) h1 h2 p1 p2
  unfold frD at fo ⊢
  have oi : Over near b1 c1 b2 c2 ↔ 2000 < odC (frM near (rX b1 c1 c2) (rY b2 c1 c2)) (min c1 c2) := ⟨fun h => h.2.2, fun h => ⟨p1, p2, h⟩⟩
  rw [od_ex] at fo ⊢
  generalize odC (frM near (rX b1 c1 c2) (rY b2 c1 c2)) (min c1 c2) = c at *
  generalize odB (frM near (rX b1 c1 c2) (rY b2 c1 c2)) = b at *
  generalize frS near a1 (rX b1 c1 c2) (rY b2 c1 c2) = a at *
  have st : ∀ {B : FS} {r : R Fl}, B [.d (ex a1 b1 c1), .d (ex a2 b2 c2), .d (.bl near), .d (ex a b c)] s = r → sSeq (sIf (tTru (eApp 1 [] m_any_nan (aCons (eTup (aCons (eVar 0) (aCons (eVar 1) aNil))) aNil))) (sRet (eTup (aCons (eC d_NAN) (aCons (eTup aNil) aNil)))) sNil) (sSeq (sIf (tOr (tTru (eApp 1 [] m_is_infinite (aCons (eVar 0) aNil))) (tTru (eApp 1 [] m_is_zero (aCons (eVar 1) aNil)))) (sRet (eC d_INVALID)) sNil) (sSeq (sIf (tOr (tTru (eApp 1 [] m_is_infinite (aCons (eVar 1) aNil))) (tTru (eApp 1 [] m_is_zero (aCons (eVar 0) aNil)))) (sRet (eTup (aCons (eVar 0) (aCons (eTup aNil) aNil)))) sNil) (sSeq (sSet 3 (eApp 3 [] m_finite_rest (aCons (eVar 0) (aCons (eVar 1) (aCons (eVar 2) aNil))))) B))) [.d (ex a1 b1 c1), .d (ex a2 b2 c2), .d (.bl near), .u] s = r := fun {B r} h => mv_seq (mv_if_fb nt (by rw [decide_eq_false (fun x => n (.inl x)), decide_eq_false (fun x => n (.inr x))]; rfl) mv_snil) (mv_seq (mv_if_fb it (by simp only [Bool.or_eq_true, Bool.and_eq_true, Bool.or_eq_false_iff, Bool.and_eq_false_iff, Bool.not_eq_true', Bool.not_eq_false', decide_eq_true_eq, decide_eq_false_iff_not]; omega) mv_snil) (mv_seq (mv_if_fb zt (by simp only [Bool.or_eq_true, Bool.and_eq_true, Bool.or_eq_false_iff, Bool.and_eq_false_iff, Bool.not_eq_true', Bool.not_eq_false', decide_eq_true_eq, decide_eq_false_iff_not]; omega) mv_snil) (mv_seq (δ1 := [.d (ex a1 b1 c1), .d (ex a2 b2 c2), .d (.bl near), .d (ex a b c)]) (mv_set (mv_app (mv_cons (mv_var rfl) (mv_cons (mv_var rfl) (mv_cons (mv_var rfl) mv_nil))) fo rfl)) h)))
  by_cases o : 2000 < c
  · rw [if_pos (oi.mpr o)]
    exact mv_fn_err (mv_seq c1' (mv_seq c2' (st (mv_seq_err (mv_if_t (mv_not (b := false) (tru (mv_app (mv_cons (mv_var rfl) mv_nil) ((g2 o).no s) rfl))) rfl)))))
  · rw [if_neg (fun h => o (oi.mp h))]
    exact mv_fn (mv_seq c1' (mv_seq c2' (st (mv_seq (mv_if_f (not_t (mv_app (mv_cons (mv_var rfl) mv_nil) (isnum_ok (g1 (by omega))) rfl)) mv_snil) (mv_ret (t2 (mv_var rfl) nl))))))
def rsdD : D := .tup [.str "raised", .tup [.str "BadNumber"], .non]
def rdD (near : Bool) (a1 b1 c1 a2 b2 c2 : Int) : D := if Over near b1 c1 b2 c2 then rsdD else .tup [.str "returned", reD near a1 b1 c1 a2 b2 c2]
theorem mv_ret_err {F : FE} {δ : Ev} {s s1 : S} {c : PySem.Str} {p : D} (h : F δ s = .err c p s1) : sRet F δ s = .err c p s1 := by
  unfold sRet
  rw [h]
  rfl
theorem rest_ok {a1 b1 c1 a2 b2 c2 : Int} {s : S} (h1 : Nu a1 b1 c1) (h2 : Nu a2 b2 c2) : m_rest [ex a1 b1 c1, ex a2 b2 c2] s = if Over true b1 c1 b2 c2 then .err "BadNumber" .non s else .ok (reD true a1 b1 c1 a2 b2 c2) s := by
  have e := rest_answer_ok (near := true) (s := s) h1 h2
  unfold m_rest G_rest
  by_cases o : Over true b1 c1 b2 c2
  · rw [if_pos o] at e ⊢
    exact mv_fn_err (mv_ret_err (mv_app (mv_cons (mv_var rfl) (mv_cons (mv_var rfl) (mv_cons mv_c mv_nil))) e rfl))
  · rw [if_neg o] at e ⊢
    exact mv_fn (mv_ret (mv_app (mv_cons (mv_var rfl) (mv_cons (mv_var rfl) (mv_cons mv_c mv_nil))) e rfl))
theorem cut_ok {a1 b1 c1 a2 b2 c2 : Int} {s : S} (h1 : Nu a1 b1 c1) (h2 : Nu a2 b2 c2) : m_cut_rest [ex a1 b1 c1, ex a2 b2 c2] s = if Over false b1 c1 b2 c2 then .err "BadNumber" .non s else .ok (reD false a1 b1 c1 a2 b2 c2) s := by
  have e := rest_answer_ok (near := false) (s := s) h1 h2
  unfold m_cut_rest G_cut_rest
  by_cases o : Over false b1 c1 b2 c2
  · rw [if_pos o] at e ⊢
    exact mv_fn_err (mv_ret_err (mv_app (mv_cons (mv_var rfl) (mv_cons (mv_var rfl) (mv_cons mv_c mv_nil))) e rfl))
  · rw [if_neg o] at e ⊢
    exact mv_fn (mv_ret (mv_app (mv_cons (mv_var rfl) (mv_cons (mv_var rfl) (mv_cons mv_c mv_nil))) e rfl))
theorem re_pl {near : Bool} {a1 b1 c1 a2 b2 c2 : Int} : plain 7 (reD near a1 b1 c1 a2 b2 c2) = true ∧ noT (reD near a1 b1 c1 a2 b2 c2) = true := by
  unfold reD
  split
  · exact ⟨by decide, rfl⟩
  split
  · exact ⟨by decide, rfl⟩
  split
  · exact ⟨by simp [plain, plains], rfl⟩
  · unfold frD
    rw [od_ex]
    exact ⟨by simp [plain, plains], rfl⟩
theorem caught_num {s : S} : m__law_caught [.thk (some "BadNumber") .non] s = .ok rsdD s := by kernel_rfl
theorem caught_lam {near : Bool} {Fb : FE} {δ : Ev} {s : S} {a1 b1 c1 a2 b2 c2 : Int} (h : ∀ s, Fb (capt δ) s = if Over near b1 c1 b2 c2 then .err "BadNumber" .non s else .ok (reD near a1 b1 c1 a2 b2 c2) s) : eLam 1 [] m__law_caught Fb aNil δ s = .ok (rdD near a1 b1 c1 a2 b2 c2) s := by
  unfold rdD
  by_cases o : Over near b1 c1 b2 c2
  · rw [if_pos o]
    exact mv_lam (e := some "BadNumber") (p := .non) rfl (fun s => (h s).trans (if_pos o)) mv_nil rfl caught_num rfl
  · rw [if_neg o]
    exact mv_lam (e := none) re_pl.2 (fun s => (h s).trans (if_neg o)) mv_nil rfl caught_val (by show (noT (.str "returned") && (noT (reD near a1 b1 c1 a2 b2 c2) && true)) = true; rw [re_pl.2]; rfl)
theorem rd_same {near : Bool} {a1 b1 c1 a2 b2 c2 : Int} {s : S} : m__law_same [rdD near a1 b1 c1 a2 b2 c2, rdD near a1 b1 c1 a2 b2 c2] s = .ok (.bl true) s := by
  have hp : plain 8 (rdD near a1 b1 c1 a2 b2 c2) = true := by
    unfold rdD
    split
    · decide
    · have := (re_pl (near := near) (a1 := a1) (b1 := b1) (c1 := c1) (a2 := a2) (b2 := b2) (c2 := c2)).1
      unfold plain
      rw [Bool.and_eq_true]
      refine ⟨?_, rfl⟩
      unfold plains plains plains
      rw [Bool.and_eq_true, Bool.and_eq_true]
      exact ⟨by unfold plain; rfl, this, rfl⟩
  obtain ⟨r, s2, e, rfl, rfl⟩ := same_ok (s := s) 8 (rdD near a1 b1 c1 a2 b2 c2) hp
  exact e
def frN (s b : Int) : Int := if s = 1 then -b else b
theorem fr_ab {s b : Int} (hb : 0 ≤ b) : ((frN s b).natAbs : Int) = b := by
  unfold frN
  split <;> omega
theorem fr_sg {s b : Int} (hs : s = 0 ∨ s = 1) (hb : 0 < b) : sgF (frN s b) = s ∧ frN s b ≠ 0 := by
  unfold sgF
  rcases hs with rfl | rfl
  · rw [show frN 0 b = b from if_neg (by decide), decide_eq_false (by omega)]
    exact ⟨rfl, by omega⟩
  · rw [show frN 1 b = -b from if_pos rfl, decide_eq_true (by omega)]
    exact ⟨rfl, by omega⟩
theorem fr_b {s b : Int} {n : Nat} (h : Builtin.Int.intBits b ≤ n) : Builtin.Int.intBits (frN s b) ≤ n := sp_b h
def topF (b q : Int) : Int := b * 2 ^ (max 0 q).toNat
def botF (b q : Int) : Int := b * 2 ^ (max 0 (0 - q)).toNat
theorem tb_pos {b q : Int} (h : 0 < b) : 0 < topF b q ∧ 0 < botF b q := ⟨Int.mul_pos h (by have := pow2 (max 0 q).toNat; omega), Int.mul_pos h (by have := pow2 (max 0 (0 - q)).toNat; omega)⟩
theorem lowest_ok {n d k : Int} {s : S} (hd : 1 ≤ d) : m_lowest [.int n, .int d, .int k] s = .ok (ex (n / (Nat.gcd n.natAbs d.natAbs : Nat)) (d / (Nat.gcd n.natAbs d.natAbs : Nat)) k) s := by
  have g0 : 0 < Nat.gcd n.natAbs d.natAbs := Nat.gcd_pos_of_pos_right _ (by omega)
  unfold m_lowest G_lowest
  refine mv_fn (mv_seq (mv_set (mv_call (mv_cons (mv_var rfl) (mv_cons (mv_var rfl) mv_nil)) rfl)) (mv_ret (mv_tup (mv_cons (mv_op (mv_var rfl) (mv_var rfl) (gDivB_int (by omega))) (mv_cons (mv_op (mv_var rfl) (mv_var rfl) (gDivB_int (by omega))) (mv_cons (mv_var rfl) mv_nil))) (show 3 ≤ 100000 by decide))))
theorem ev_ok {a b c : Int} {s : S} (h : Nu a b c) : m_exact_value [ex a b c] s = .ok (ex (dnF (spN a b) c) (ddF (spN a b) c) 1) s := by
  have k0 := h.c0
  have k1 := h.c1
  unfold m_exact_value G_exact_value
  exact mv_fn (mv_ret (mv_app (mv_cons (mv_app (mv_cons (mv_var rfl) mv_nil) sp_ok rfl) (mv_cons (i2 rfl) mv_nil)) (dyadic_ok (Nat.le_trans (sp_b h.bb) (by decide)) (by omega) (by omega)) rfl))
theorem sp_ab {a b : Int} (hb : 0 ≤ b) : ((spN a b).natAbs : Int) = b := fr_ab hb
theorem sp_sg {a b : Int} (ha : a = 0 ∨ a = 1) (hb : 0 < b) : sgF (spN a b) = a ∧ spN a b ≠ 0 := fr_sg ha hb
theorem val_parts {a b c : Int} (h : Nu a b c) (hb : 0 < b) : Ex (dnF (spN a b) c) (ddF (spN a b) c) 1 ∧ sgF (dnF (spN a b) c) = a ∧ dnF (spN a b) c ≠ 0 ∧ ((dnF (spN a b) c).natAbs : Int) * 2 ^ (-c).toNat = b * 2 ^ c.toNat * ddF (spN a b) c ∧ Builtin.Int.intBits (dnF (spN a b) c) ≤ 2602 ∧ Builtin.Int.intBits (ddF (spN a b) c) ≤ 2602 := by
  have k0 := h.c0
  have k1 := h.c1
  obtain ⟨s1, s2⟩ := sp_sg h.s hb
  have sb := sp_b (a := a) h.bb
  have rel := dn_rel (q := c) s2
  rw [sp_ab (Int.le_of_lt hb)] at rel
  have x := dy_ex (m := spN a b) (q := c) (by omega) (by omega)
  refine ⟨x, dn_sg.1.trans s1, fun z => s2 (dn_sg.2.mp z), rel, ?_, ?_⟩
  · -- the numerator
    obtain ⟨k, o, e1, e2, e3, e4, e5⟩ := parts s2
    have ob : Builtin.Int.intBits o ≤ 600 := by
      rw [← e2]
      exact bits_div (by have := pow2 (tzF (spN a b)).toNat; omega) sb
    unfold dnF
    rw [if_neg s2, e2, e1]
    split
    · by_cases y : 0 ≤ c
      · have e : o * 2 ^ (c + k).toNat = spN a b * 2 ^ c.toNat := by
          conv => rhs; rw [e3]
          rw [Int.mul_assoc, ← Int.pow_add]
          congr 2
          omega
        rw [e]
        exact Nat.le_trans (bshl sb) (by omega)
      · exact Nat.le_trans (bshl ob) (by omega)
    · omega
  · unfold ddF
    obtain ⟨k, o, e1, e2, e3, e4, e5⟩ := parts s2
    rw [if_neg s2, e1]
    split
    · decide +kernel
    · exact Nat.le_trans bits_pow (by omega)
theorem cross4 {n1 d1 n2 d2 b1 b2 : Int} {A1 B1 A2 B2 X Y : Nat} (h1 : n1 * 2 ^ A1 = b1 * 2 ^ B1 * d1) (h2 : n2 * 2 ^ A2 = b2 * 2 ^ B2 * d2) (e : B1 + A2 + Y = X + B2 + A1) : n1 * d2 * (b2 * 2 ^ Y) = b1 * 2 ^ X * (d1 * n2) := by
  have pA := pow2 (A1 + A2)
  refine Int.eq_of_mul_eq_mul_right (a := 2 ^ (A1 + A2)) (by omega) ?_
  have l : n1 * d2 * (b2 * 2 ^ Y) * 2 ^ (A1 + A2) = (n1 * 2 ^ A1) * (d2 * b2 * (2 ^ A2 * 2 ^ Y)) := by rw [Int.pow_add]; ac_rfl
  have r : b1 * 2 ^ X * (d1 * n2) * 2 ^ (A1 + A2) = (n2 * 2 ^ A2) * (b1 * d1 * (2 ^ A1 * 2 ^ X)) := by rw [Int.pow_add]; ac_rfl
  have l2 : b1 * 2 ^ B1 * d1 * (d2 * b2 * (2 ^ A2 * 2 ^ Y)) = b1 * d1 * (b2 * d2) * (2 ^ B1 * 2 ^ A2 * 2 ^ Y) := by ac_rfl
  have r2 : b2 * 2 ^ B2 * d2 * (b1 * d1 * (2 ^ A1 * 2 ^ X)) = b1 * d1 * (b2 * d2) * (2 ^ X * 2 ^ B2 * 2 ^ A1) := by ac_rfl
  rw [l, h1, l2, r, h2, r2, ← Int.pow_add, ← Int.pow_add, ← Int.pow_add, ← Int.pow_add, e]
theorem quotU {a1 b1 c1 a2 b2 c2 : Int} {s : S} (h1 : Nu a1 b1 c1) (h2 : Nu a2 b2 c2) (p1 : 0 < b1) (p2 : 0 < b2) : ∃ N D, m_exact_quotient_of [ex a1 b1 c1, ex a2 b2 c2] s = .ok (ex (N / (Nat.gcd N.natAbs D.natAbs : Nat)) (D / (Nat.gcd N.natAbs D.natAbs : Nat)) 1) s ∧ 1 ≤ D ∧ N ≠ 0 ∧ sgF N = xr a1 a2 ∧ (N.natAbs : Int) * botF b2 (c1 - c2) = topF b1 (c1 - c2) * D := by
  obtain ⟨x1, s1, z1, r1, nb1, db1⟩ := val_parts h1 p1
  obtain ⟨x2, s2, z2, r2, nb2, db2⟩ := val_parts h2 p2
  have e1 := ev_ok (s := s) h1
  have e2 := ev_ok (s := s) h2
  generalize dnF (spN a1 b1) c1 = n1 at *
  generalize ddF (spN a1 b1) c1 = d1 at *
  generalize dnF (spN a2 b2) c2 = n2 at *
  generalize ddF (spN a2 b2) c2 = d2 at *
  have d1p := x1.d1
  have d2p := x2.d1
  have cr : (n1.natAbs : Int) * d2 * botF b2 (c1 - c2) = topF b1 (c1 - c2) * (d1 * n2.natAbs) := cross4 r1 r2 (by omega)
  have Dp : 1 ≤ d1 * (n2.natAbs : Int) := by
    have := Int.mul_le_mul d1p (show (1 : Int) ≤ n2.natAbs by omega) (by decide) (by omega)
    omega
  -- after the turn of the signs
  have key : ∀ e : Int, (e.natAbs : Int) = d2 → sgF (n1 * e) = xr a1 a2 → n1 * e ≠ 0 → Builtin.Int.intBits e ≤ 2602 → ∃ N D, m_lowest [.int (n1 * e), .int (d1 * n2.natAbs), .int 1] s = .ok (ex (N / (Nat.gcd N.natAbs D.natAbs : Nat)) (D / (Nat.gcd N.natAbs D.natAbs : Nat)) 1) s ∧ 1 ≤ D ∧ N ≠ 0 ∧ sgF N = xr a1 a2 ∧ (N.natAbs : Int) * botF b2 (c1 - c2) = topF b1 (c1 - c2) * D := fun e ha hsg hz eb => by
    have na : ((n1 * e).natAbs : Int) = (n1.natAbs : Int) * d2 := by
      rw [Int.natAbs_mul, Int.natCast_mul, ha]
    exact ⟨_, _, lowest_ok Dp, Dp, hz, hsg, by rw [na]; exact cr⟩
  have st : ∀ {m2 e : Int} {r : R D}, m_lowest [.int (n1 * e), .int (d1 * m2), .int 1] s = r → Builtin.Int.intBits e ≤ 2602 → Builtin.Int.intBits m2 ≤ 2602 → (sIf (tCmp gLt (eVar 5) (eC (.int 0))) (sPar 5 6 (aCons (eUn gNeg (eVar 5)) (aCons (eUn gNeg (eVar 6)) aNil))) sNil [.d (ex a1 b1 c1), .d (ex a2 b2 c2), .d (.int n1), .d (.int d1), .d (.int 1), .d (.int n2), .d (.int d2)] s = .ok (.nx [.d (ex a1 b1 c1), .d (ex a2 b2 c2), .d (.int n1), .d (.int d1), .d (.int 1), .d (.int m2), .d (.int e)]) s) → (∀ x s', r = .ok x s' → m_exact_quotient_of [ex a1 b1 c1, ex a2 b2 c2] s = .ok x s') := fun {m2 e r} hl eb mb hif x s' hr => by
    unfold m_exact_quotient_of G_exact_quotient_of
    apply mv_fn
    refine mv_seq (s1 := s) (δ1 := [.d (ex a1 b1 c1), .d (ex a2 b2 c2), .d (.int n1), .d (.int d1), .d (.int 1), .u, .u]) (mv_tgt (mv_app (mv_cons (mv_var rfl) mv_nil) e1 rfl) rfl) ?_
    refine mv_seq (s1 := s) (δ1 := [.d (ex a1 b1 c1), .d (ex a2 b2 c2), .d (.int n1), .d (.int d1), .d (.int 1), .d (.int n2), .d (.int d2)]) (mv_tgt (mv_app (mv_cons (mv_var rfl) mv_nil) e2 rfl) rfl) ?_
    refine mv_seq hif ?_
    exact mv_ret (mv_app (mv_cons (mul_s (mv_var rfl) (mv_var rfl) nb1 eb (by decide)) (mv_cons (mul_s (mv_var rfl) (mv_var rfl) db1 mb (by decide)) (mv_cons mv_c mv_nil))) (hl.trans hr) rfl)
  have sgn : ∀ x : Int, sgF x = 1 ↔ x < 0 := fun x => by
    unfold sgF
    by_cases y : x < 0
    · rw [decide_eq_true y, if_pos rfl]
      omega
    · rw [decide_eq_false y, if_neg (by decide)]
      omega
  have i1' := sgn n1
  have i2' := sgn n2
  have h01 := h1.s
  have h02 := h2.s
  rw [s1] at i1'
  rw [s2] at i2'
  by_cases y : n2 < 0
  · have hsg : sgF (n1 * -d2) = xr a1 a2 := by
      have a2e : a2 = 1 := i2'.mpr y
      unfold xr
      by_cases z : n1 < 0
      · have a1e : a1 = 1 := i1'.mpr z
        have := Int.mul_pos_of_neg_of_neg z (show -d2 < 0 by omega)
        have g := (sgn (n1 * -d2))
        rw [if_pos (by omega)]
        rcases sgF_01 (n1 * -d2) with q | q
        · exact q
        · have := g.mp q
          omega
      · have a1e : a1 ≠ 1 := fun q => z (i1'.mp q)
        have := Int.mul_neg_of_pos_of_neg (show 0 < n1 by omega) (show -d2 < 0 by omega)
        rw [if_neg (by omega)]
        exact (sgn (n1 * -d2)).mpr this
    have hz : n1 * -d2 ≠ 0 := fun q => by
      rcases Int.mul_eq_zero.mp q with q | q <;> omega
    obtain ⟨N, D, l, r⟩ := key (-d2) (by omega) hsg hz (by
      have := PySem.intBits_le_iff.mp db2
      exact PySem.intBits_le_iff.mpr (by omega))
    refine ⟨N, D, st (m2 := n2.natAbs) (e := -d2) l (by
      have := PySem.intBits_le_iff.mp db2
      exact PySem.intBits_le_iff.mpr (by omega)) (babs nb2) ?_ _ _ rfl, r⟩
    rw [show (n2.natAbs : Int) = -n2 by omega]
    exact mv_if_t (cmp_lt (mv_var rfl) mv_c (decide_eq_true y)) (mv_par (mv_cons (mv_un (mv_var rfl) gNeg_int) (mv_cons (mv_un (mv_var rfl) gNeg_int) mv_nil)))
  · have hsg : sgF (n1 * d2) = xr a1 a2 := by
      have a2e : a2 ≠ 1 := fun q => y (i2'.mp q)
      unfold xr
      by_cases z : n1 < 0
      · have a1e : a1 = 1 := i1'.mpr z
        have := Int.mul_neg_of_neg_of_pos z (show 0 < d2 by omega)
        rw [if_neg (by omega)]
        exact (sgn (n1 * d2)).mpr this
      · have a1e : a1 ≠ 1 := fun q => z (i1'.mp q)
        have := Int.mul_pos (show 0 < n1 by omega) (show 0 < d2 by omega)
        have g := (sgn (n1 * d2))
        rw [if_pos (by omega)]
        rcases sgF_01 (n1 * d2) with q | q
        · exact q
        · have := g.mp q
          omega
    have hz : n1 * d2 ≠ 0 := fun q => by
      rcases Int.mul_eq_zero.mp q with q | q <;> omega
    obtain ⟨N, D, l, r⟩ := key d2 (by omega) hsg hz db2
    refine ⟨N, D, st (m2 := n2.natAbs) (e := d2) l db2 (babs nb2) ?_ _ _ rfl, r⟩
    rw [show (n2.natAbs : Int) = n2 by omega]
    exact mv_if_f (cmp_lt (mv_var rfl) mv_c (decide_eq_false y)) mv_snil
theorem quot0 {a1 c1 a2 b2 c2 : Int} {s : S} (h1 : Nu a1 0 c1) (h2 : Nu a2 b2 c2) (p2 : 0 < b2) : m_exact_quotient_of [ex a1 0 c1, ex a2 b2 c2] s = .ok (ex 0 1 1) s := by
  obtain ⟨x2, s2, z2, r2, nb2, db2⟩ := val_parts h2 p2
  have e1 := ev_ok (s := s) h1
  have e2 := ev_ok (s := s) h2
  have sp0 : spN a1 0 = 0 := by
    unfold spN
    split <;> rfl
  rw [sp0, show dnF 0 c1 = 0 from if_pos rfl, show ddF 0 c1 = 1 from if_pos rfl] at e1
  generalize dnF (spN a2 b2) c2 = n2 at *
  generalize ddF (spN a2 b2) c2 = d2 at *
  have lo : ∀ m : Int, 1 ≤ m → ∀ e : Int, m_lowest [.int (0 * e), .int (1 * m), .int 1] s = .ok (ex 0 1 1) s := fun m hm e => by
    rw [Int.zero_mul, Int.one_mul, lowest_ok hm, show (0 : Int).natAbs = 0 from rfl, Nat.gcd_zero_left, Int.zero_ediv, show (m.natAbs : Int) = m by omega, Int.ediv_self (by omega)]
  unfold m_exact_quotient_of G_exact_quotient_of
  apply mv_fn
  refine mv_seq (s1 := s) (δ1 := [.d (ex a1 0 c1), .d (ex a2 b2 c2), .d (.int 0), .d (.int 1), .d (.int 1), .u, .u]) (mv_tgt (mv_app (mv_cons (mv_var rfl) mv_nil) e1 rfl) rfl) ?_
  refine mv_seq (s1 := s) (δ1 := [.d (ex a1 0 c1), .d (ex a2 b2 c2), .d (.int 0), .d (.int 1), .d (.int 1), .d (.int n2), .d (.int d2)]) (mv_tgt (mv_app (mv_cons (mv_var rfl) mv_nil) e2 rfl) rfl) ?_
  have small : ∀ {i : Int}, Builtin.Int.intBits i ≤ 2602 → Builtin.Int.intBits (-i) ≤ 2602 := fun {i} h => by
    have := PySem.intBits_le_iff.mp h
    exact PySem.intBits_le_iff.mpr (by omega)
  by_cases y : n2 < 0
  · refine mv_seq (s1 := s) (δ1 := [.d (ex a1 0 c1), .d (ex a2 b2 c2), .d (.int 0), .d (.int 1), .d (.int 1), .d (.int (-n2)), .d (.int (-d2))]) (mv_if_t (cmp_lt (mv_var rfl) mv_c (decide_eq_true y)) (mv_par (mv_cons (mv_un (mv_var rfl) gNeg_int) (mv_cons (mv_un (mv_var rfl) gNeg_int) mv_nil)))) ?_
    exact mv_ret (mv_app (mv_cons (mul_s (m := 1) (mv_var rfl) (mv_var rfl) (by decide +kernel) (small db2) (by decide)) (mv_cons (mul_s (m := 1) (mv_var rfl) (mv_var rfl) (by decide +kernel) (small nb2) (by decide)) (mv_cons mv_c mv_nil))) (lo (-n2) (by omega) (-d2)) rfl)
  · refine mv_seq (s1 := s) (δ1 := [.d (ex a1 0 c1), .d (ex a2 b2 c2), .d (.int 0), .d (.int 1), .d (.int 1), .d (.int n2), .d (.int d2)]) (mv_if_f (cmp_lt (mv_var rfl) mv_c (decide_eq_false y)) mv_snil) ?_
    exact mv_ret (mv_app (mv_cons (mul_s (m := 1) (mv_var rfl) (mv_var rfl) (by decide +kernel) db2 (by decide)) (mv_cons (mul_s (m := 1) (mv_var rfl) (mv_var rfl) (by decide +kernel) nb2 (by decide)) (mv_cons mv_c mv_nil))) (lo n2 (by omega) d2) rfl)
theorem low_eq {N D n d : Int} (hD : 1 ≤ D) (hd : 1 ≤ d) (h : N * d = n * D) : N / (Nat.gcd N.natAbs D.natAbs : Nat) = n / (Nat.gcd n.natAbs d.natAbs : Nat) ∧ D / (Nat.gcd N.natAbs D.natAbs : Nat) = d / (Nat.gcd n.natAbs d.natAbs : Nat) := by
  obtain ⟨k, rfl⟩ := Int.eq_ofNat_of_zero_le (show 0 ≤ D by omega)
  obtain ⟨l, rfl⟩ := Int.eq_ofNat_of_zero_le (show 0 ≤ d by omega)
  have zk : k ≠ 0 := by omega
  have zl : l ≠ 0 := by omega
  have e := (Rat.normalize_eq_iff zk zl).mpr h
  rw [Rat.normalize_eq, Rat.normalize_eq] at e
  injection e with e1 e2
  rw [Int.natAbs_natCast, Int.natAbs_natCast]
  exact ⟨e1, by rw [← Int.natCast_ediv, ← Int.natCast_ediv, e2]⟩
theorem while_t {T : FT} {G : FS} {n : Nat} {δ δ1 : Ev} {s : S} {r : R Fl} (h1 : T δ s = .ok true s) (h2 : G δ s = .ok (.nx δ1) s) (h : whileF T G n δ1 s = r) : whileF T G (n + 1) δ s = r := by
  rw [← h]
  show rb (T δ s) _ = _
  rw [h1, rb_ok]
  show rb (G δ s) _ = _
  rw [h2, rb_ok]
theorem while_f {T : FT} {G : FS} {n : Nat} {δ : Ev} {s : S} (h1 : T δ s = .ok false s) : whileF T G (n + 1) δ s = .ok (.nx δ) s := by
  show rb (T δ s) _ = _
  rw [h1, rb_ok]
  rfl
theorem mod_half {r m : Nat} (h0 : 0 < m) (h : m ≤ r) : 2 * (r % m) < r := by
  have a := Nat.mod_lt r h0
  have b := Nat.mod_eq_sub_mod h
  have c := Nat.mod_le (r - m) m
  omega
theorem euclid {x0 x1 : SV} {s : S} : ∀ (k l r n : Nat), r < 2 ^ k → 2 * k + 1 ≤ n → whileF (tCmp gGt (eVar 3) (eC (.int 0))) (sPar 2 3 (aCons (eVar 3) (aCons (eOp (gI gModI) (eCall gInt (aCons (eVar 2) aNil)) (eVar 3)) aNil))) n [x0, x1, .d (.int l), .d (.int r)] s = .ok (.nx [x0, x1, .d (.int (Nat.gcd l r : Nat)), .d (.int (0 : Nat))]) s := by
  have step : ∀ {l r n : Nat} {q : R Fl}, 0 < r → whileF (tCmp gGt (eVar 3) (eC (.int 0))) (sPar 2 3 (aCons (eVar 3) (aCons (eOp (gI gModI) (eCall gInt (aCons (eVar 2) aNil)) (eVar 3)) aNil))) n [x0, x1, .d (.int r), .d (.int (l % r : Nat))] s = q → whileF (tCmp gGt (eVar 3) (eC (.int 0))) (sPar 2 3 (aCons (eVar 3) (aCons (eOp (gI gModI) (eCall gInt (aCons (eVar 2) aNil)) (eVar 3)) aNil))) (n + 1) [x0, x1, .d (.int l), .d (.int r)] s = q := fun {l r n q} h0 h => by
    refine while_t (δ1 := [x0, x1, .d (.int r), .d (.int (l % r : Nat))]) (cmp_gt (mv_var rfl) mv_c (decide_eq_true (by omega))) ?_ h
    rw [Int.natCast_emod]
    exact mv_par (mv_cons (mv_var rfl) (mv_cons (mv_op (mv_call (mv_cons (mv_var rfl) mv_nil) gInt_int) (mv_var rfl) (Mi.gMod_int (by omega))) mv_nil))
  have stop : ∀ {l n : Nat}, whileF (tCmp gGt (eVar 3) (eC (.int 0))) (sPar 2 3 (aCons (eVar 3) (aCons (eOp (gI gModI) (eCall gInt (aCons (eVar 2) aNil)) (eVar 3)) aNil))) (n + 1) [x0, x1, .d (.int l), .d (.int (0 : Nat))] s = .ok (.nx [x0, x1, .d (.int l), .d (.int (0 : Nat))]) s := fun {l n} => while_f (cmp_gt (mv_var rfl) mv_c rfl)
  intro k
  induction k with
  | zero =>
    intro l r n hr hn
    obtain ⟨m, rfl⟩ : ∃ m, n = m + 1 := ⟨n - 1, by omega⟩
    obtain rfl : r = 0 := by omega
    rw [Nat.gcd_zero_right]
    exact stop
  | succ k ih =>
    intro l r n hr hn
    obtain ⟨m, rfl⟩ : ∃ m, n = m + 1 + 1 := ⟨n - 2, by omega⟩
    rcases Nat.eq_zero_or_pos r with rfl | r0
    · rw [Nat.gcd_zero_right]
      exact stop
    refine step r0 ?_
    have g1 : Nat.gcd l r = Nat.gcd r (l % r) := by rw [Nat.gcd_comm l r, Nat.gcd_rec r l, Nat.gcd_comm]
    rw [g1]
    have lt := Nat.mod_lt l r0
    generalize l % r = t at *
    rcases Nat.eq_zero_or_pos t with rfl | t0
    · rw [Nat.gcd_zero_right]
      exact stop
    refine step t0 ?_
    rw [show Nat.gcd r t = Nat.gcd t (r % t) by rw [Nat.gcd_comm r t, Nat.gcd_rec t r, Nat.gcd_comm]]
    have := mod_half t0 (Nat.le_of_lt lt)
    rw [Nat.pow_succ] at hr
    exact ih _ _ _ (by omega) (by omega)
theorem lcommon_ok {n d : Int} {s : S} (hd : Builtin.Int.intBits d ≤ 9000) : m__law_common [.int n, .int d] s = .ok (.int (Nat.gcd n.natAbs d.natAbs : Nat)) s := by
  have := PySem.intBits_le_iff.mp hd
  unfold m__law_common G__law_common
  apply mv_fn
  refine mv_seq (s1 := s) (δ1 := [.d (.int n), .d (.int d), .d (.int n.natAbs), .u]) (mv_set (mv_call (mv_cons (mv_var rfl) mv_nil) gAbs_i)) ?_
  refine mv_seq (s1 := s) (δ1 := [.d (.int n), .d (.int d), .d (.int n.natAbs), .d (.int d.natAbs)]) (mv_set (mv_call (mv_cons (mv_var rfl) mv_nil) gAbs_i)) ?_
  exact mv_seq (euclid 9000 _ _ _ this (by decide)) (mv_ret (mv_var rfl))
theorem eq_1 {x y : D} {s : S} (h : m_check_valued [x] s = .err "BadNumber" .non s) : m_exact_quotient [x, y] s = .err "BadNumber" .non s := by
  unfold m_exact_quotient G_exact_quotient
  exact mv_fn_err (mv_seq_err (mv_expr_err (mv_app (mv_cons (mv_var rfl) mv_nil) h rfl)))
theorem eq_2 {x y : D} {s : S} (h1 : m_check_valued [x] s = .ok .non s) (h : m_check_valued [y] s = .err "BadNumber" .non s) : m_exact_quotient [x, y] s = .err "BadNumber" .non s := by
  unfold m_exact_quotient G_exact_quotient
  exact mv_fn_err (mv_seq (mv_expr (mv_app (mv_cons (mv_var rfl) mv_nil) h1 rfl)) (mv_seq_err (mv_expr_err (mv_app (mv_cons (mv_var rfl) mv_nil) h rfl))))
theorem eq_no {a1 b1 c1 a2 b2 c2 : Int} {s : S} (h1 : Nu a1 b1 c1) (h2 : Nu a2 b2 c2) (h : b1 < 0 ∨ b2 < 1) : m_exact_quotient [ex a1 b1 c1, ex a2 b2 c2] s = .err "BadNumber" .non s := by
  by_cases n1 : b1 < 0
  · exact eq_1 (cv_neg h1 n1)
  by_cases n2 : b2 < 0
  · exact eq_2 (cv_ok h1 (by omega)) (cv_neg h2 n2)
  unfold m_exact_quotient G_exact_quotient
  exact mv_fn_err (mv_seq (mv_expr (mv_app (mv_cons (mv_var rfl) mv_nil) (cv_ok h1 (by omega)) rfl)) (mv_seq (mv_expr (mv_app (mv_cons (mv_var rfl) mv_nil) (cv_ok h2 (by omega)) rfl)) (mv_seq_err (mv_if_tb (tru (mv_app (mv_cons (mv_var rfl) mv_nil) isz_ok rfl)) (decide_eq_true (by omega)) rfl))))
theorem eq_ok {a1 b1 c1 a2 b2 c2 : Int} {s : S} (h1 : Nu a1 b1 c1) (h2 : Nu a2 b2 c2) (p1 : 0 ≤ b1) (p2 : 0 < b2) : m_exact_quotient [ex a1 b1 c1, ex a2 b2 c2] s = .ok (ex (topF (spN (xr a1 a2) b1) (c1 - c2) / (Nat.gcd (topF (spN (xr a1 a2) b1) (c1 - c2)).natAbs (botF 1 (c1 - c2) * b2).natAbs : Nat)) (botF 1 (c1 - c2) * b2 / (Nat.gcd (topF (spN (xr a1 a2) b1) (c1 - c2)).natAbs (botF 1 (c1 - c2) * b2).natAbs : Nat)) 1) s := by
  have bp : 0 < botF 1 (c1 - c2) * b2 := Int.mul_pos (tb_pos (b := 1) (by decide)).2 p2
  have of : m_exact_quotient_of [ex a1 b1 c1, ex a2 b2 c2] s = .ok (ex (topF (spN (xr a1 a2) b1) (c1 - c2) / (Nat.gcd (topF (spN (xr a1 a2) b1) (c1 - c2)).natAbs (botF 1 (c1 - c2) * b2).natAbs : Nat)) (botF 1 (c1 - c2) * b2 / (Nat.gcd (topF (spN (xr a1 a2) b1) (c1 - c2)).natAbs (botF 1 (c1 - c2) * b2).natAbs : Nat)) 1) s := by
    rcases (show b1 = 0 ∨ 0 < b1 by omega) with z | z
    · subst z
      have sp0 : spN (xr a1 a2) 0 = 0 := by
        unfold spN
        split <;> rfl
      rw [quot0 h1 h2 p2, sp0, show topF 0 (c1 - c2) = 0 from Int.zero_mul _, show (0 : Int).natAbs = 0 from rfl, Nat.gcd_zero_left, Int.zero_ediv, show ((botF 1 (c1 - c2) * b2).natAbs : Int) = botF 1 (c1 - c2) * b2 by omega, Int.ediv_self (by omega)]
    · obtain ⟨N, D, e, D1, N0, sg, rel⟩ := quotU (s := s) h1 h2 z p2
      obtain ⟨y1, y2⟩ := low_eq (N := N) (D := D) (n := topF (spN (xr a1 a2) b1) (c1 - c2)) (d := botF 1 (c1 - c2) * b2) D1 (by omega) (by
        have eb : botF 1 (c1 - c2) * b2 = botF b2 (c1 - c2) := by
          unfold botF
          rw [Int.one_mul, Int.mul_comm]
        rw [eb]
        have sn : N < 0 ↔ xr a1 a2 = 1 := by
          rw [← sg]
          unfold sgF
          by_cases y : N < 0
          · rw [decide_eq_true y, if_pos rfl]
            omega
          · rw [decide_eq_false y, if_neg (by decide)]
            omega
        by_cases y : N < 0
        · have x1 := sn.mp y
          rw [show spN (xr a1 a2) b1 = -b1 by unfold spN; rw [if_pos x1], show topF (-b1) (c1 - c2) = -topF b1 (c1 - c2) from Int.neg_mul _ _, Int.neg_mul, ← rel, show N = -(N.natAbs : Int) by omega, Int.neg_mul, Int.natAbs_neg, Int.natAbs_natCast]
        · rw [show spN (xr a1 a2) b1 = b1 by unfold spN; rw [if_neg (fun x => y (sn.mpr x))], ← rel, show (N.natAbs : Int) = N by omega])
      rw [e, y1, y2]
  unfold m_exact_quotient G_exact_quotient
  exact mv_fn (mv_seq (mv_expr (mv_app (mv_cons (mv_var rfl) mv_nil) (cv_ok h1 p1) rfl)) (mv_seq (mv_expr (mv_app (mv_cons (mv_var rfl) mv_nil) (cv_ok h2 (by omega)) rfl)) (mv_seq (mv_if_fb (tru (mv_app (mv_cons (mv_var rfl) mv_nil) isz_ok rfl)) (decide_eq_false (by omega)) mv_snil) (mv_ret (mv_app (mv_cons (mv_var rfl) (mv_cons (mv_var rfl) mv_nil)) of rfl)))))
theorem rx_same {way : PySem.Str} {p lo hi n d n' d' k t t' : Int} (h : Ex n d k) (h' : Ex n' d' k) (hn : n ≠ 0) (hn' : n' ≠ 0) (hr : (n.natAbs : Int) * d' = (n'.natAbs : Int) * d) (hs : sgF n = sgF n') : rxD way p lo hi n d k t = rxD way p lo hi n' d' k t' := by
  have d1 := h.d1
  have d1' := h'.d1
  have gp : ∀ P : Int, Gp n.natAbs d P ↔ Gp n'.natAbs d' P := fun P => by
    have e := (same_lt (K := 2 ^ (-P).toNat) (t := 2 ^ P.toNat) (by omega : 0 < d) (by omega : 0 < d') hr).1
    rw [Int.mul_comm (2 ^ (-P).toNat), Int.mul_comm (2 ^ P.toNat), Int.mul_comm (2 ^ (-P).toNat), Int.mul_comm (2 ^ P.toNat)] at e
    exact e
  have q : qF n d k = qF n' d' k := by
    have a := fun P => ((q_iff (P := P) h hn).trans (gp (P * k))).trans (q_iff (P := P) h' hn').symm
    have a1 := a (qF n' d' k + 1)
    have a2 := a (qF n' d' k)
    omega
  have cr : ∀ u, ovF n k u * unF d' k u = ovF n' k u * unF d k u := fun u => by
    unfold ovF unF
    have l : (n.natAbs : Int) * 2 ^ (max (-(shF k u)) 0).toNat * (d' * 2 ^ (max (shF k u) 0).toNat) = ((n.natAbs : Int) * d') * (2 ^ (max (-(shF k u)) 0).toNat * 2 ^ (max (shF k u) 0).toNat) := by ac_rfl
    have r : (n'.natAbs : Int) * 2 ^ (max (-(shF k u)) 0).toNat * (d * 2 ^ (max (shF k u) 0).toNat) = ((n'.natAbs : Int) * d) * (2 ^ (max (-(shF k u)) 0).toNat * 2 ^ (max (shF k u) 0).toNat) := by ac_rfl
    rw [l, r, hr]
  have c : ∀ u, ctF n d k u = ctF n' d' k u := fun u => by
    have u1 := un_pos (u := u) h
    have u2 := un_pos (u := u) h'
    unfold ctF
    rw [same_div (by omega) (by omega) (cr u)]
  have w : ∀ u, wF n d k u = wF n' d' k u := fun u => by
    have u1 := un_pos (u := u) h
    have u2 := un_pos (u := u) h'
    have lt := fun t => same_lt (K := KF k) (t := t) (by omega : 0 < unF d k u) (by omega : 0 < unF d' k u) (cr u)
    rw [w_due h, w_due h', c u]
    simp only [(lt (pwF (2 * ctF n' d' k u + 1) k)).1, (lt (pwF (2 * ctF n' d' k u + 1) k)).2, (lt (pwF (2 * ctF n' d' k u) k)).2]
  have uu : uuF p lo n d k = uuF p lo n' d' k := by
    unfold uuF
    rw [q]
  have cc : ccF way p lo n d k = ccF way p lo n' d' k := by
    unfold ccF
    rw [uu, hs, c, w]
  unfold rxD
  rw [if_neg hn, if_neg hn', cc, uu, hs, q, w]
theorem refuses_num {s : S} : m__law_refused [.thk (some "BadNumber") .non, .str "BadNumber"] s = .ok (.bl true) s := by kernel_rfl
theorem lam_num {Fb : FE} {δ : Ev} {s : S} (hout : ∀ s, Fb (capt δ) s = .err "BadNumber" .non s) : eLam 2 [] m__law_refused Fb (aCons (eC (.str "BadNumber")) aNil) δ s = .ok (.bl true) s :=
  mv_lam (e := some "BadNumber") (p := .non) rfl hout (mv_cons mv_c mv_nil) rfl refuses_num rfl
noncomputable def askFor : FS := (sIf (tNot (tTru (eApp 2 [] m__law_same (aCons (eApp 1 [] m__law_caught (aCons (eVar 0) aNil)) (aCons (eTup (aCons (eC (.str "returned")) (aCons (eVar 1) aNil))) aNil))))) (sRet (eC (.bl false))) sNil)
theorem ask_ok {p : D} {s : S} (hp : plain 7 p = true) : m__law_asked [.thk none p, p] s = .ok (.bl true) s := by
  have hs : ∀ s, m__law_same [.tup [.str "returned", p], .tup [.str "returned", p]] s = .ok (.bl true) s := fun s => by
    obtain ⟨r, s2, e, rfl, rfl⟩ := same_ok (s := s) 8 (.tup [.str "returned", p]) (by
      unfold plain
      rw [Bool.and_eq_true]
      refine ⟨?_, rfl⟩
      unfold plains plains plains
      rw [Bool.and_eq_true, Bool.and_eq_true]
      exact ⟨by unfold plain; rfl, hp, rfl⟩)
    exact e
  have st : ∀ {x : D} {s : S}, askFor [.d (.thk none p), .d p, .d x] s = .ok (.nx [.d (.thk none p), .d p, .d x]) s := fun {x s} => by
    unfold askFor
    exact mv_if_f (not_t (mv_app (mv_cons (mv_app (mv_cons (mv_var rfl) mv_nil) caught_val rfl) (mv_cons (t2 mv_c (mv_var rfl)) mv_nil)) (hs s) rfl)) mv_snil
  unfold m__law_asked G__law_asked
  apply mv_fn
  obtain ⟨δ2, s2, e, rfl, y, rfl⟩ := mv_for (I := iRng1 (aCons (eC (.int 2)) aNil)) (N := nName 2) (G := askFor) (δ := [.d (.thk none p), .d p, .u]) (s := s) (s1 := s) (ds := rgL 0 2)
    (fun j δ s' => s' = s ∧ ∃ y, δ = [.d (.thk none p), .d p, y]) (mv_rng1 (mv_cons mv_c mv_nil) (by decide) (by decide)) ⟨rfl, _, rfl⟩ (fun j x δ s' hd hP => by
      obtain ⟨rfl, y, rfl⟩ := hP
      exact ⟨_, rfl, _, _, st, rfl, _, rfl⟩)
  exact mv_seq e (mv_ret mv_c)
theorem lam_ask {Fb : FE} {FAs : FA} {δ : Ev} {s s1 : S} {p : D} (hp : plain 7 p = true) (hn : noT p = true) (hout : ∀ s, Fb (capt δ) s = .ok p s) (h1 : FAs δ s = .ok [p] s) : eLam 2 [] m__law_asked Fb FAs δ s = .ok (.bl true) s :=
  mv_lam (e := none) hn hout h1 rfl (ask_ok hp) rfl
end A38
namespace A38
open PySem PySem.Spec PyProof.Rows L2 Mi
/-! ### whole division as the law does it -/
structure Two0 (b1 c1 b2 c2 : Int) : Prop where
  x0 : 0 ≤ rX b1 c1 c2
  y0 : 0 < rY b2 c1 c2
  xb : Builtin.Int.intBits (rX b1 c1 c2) ≤ 4602
  yb : Builtin.Int.intBits (rY b2 c1 c2) ≤ 4602
  ex_ : gI gShlI (.int b1) (.int (c1 - min c1 c2)) = some (.int (rX b1 c1 c2))
  ey_ : gI gShlI (.int b2) (.int (c2 - min c1 c2)) = some (.int (rY b2 c1 c2))
theorem two0_of {a1 b1 c1 a2 b2 c2 : Int} (h1 : Nu a1 b1 c1) (h2 : Nu a2 b2 c2) (p1 : 0 ≤ b1) (p2 : 0 < b2) : Two0 b1 c1 b2 c2 := by
  have k0 := h1.c0
  have k1 := h1.c1
  have k2 := h2.c0
  have k3 := h2.c1
  exact ⟨Int.mul_nonneg p1 (by have := pow2 (c1 - min c1 c2).toNat; omega), Int.mul_pos p2 (by have := pow2 (c2 - min c1 c2).toNat; omega), Nat.le_trans (bshl h1.bb) (by omega), Nat.le_trans (bshl h2.bb) (by omega), gShl_s (by omega) h1.bb (by omega), gShl_s (by omega) h2.bb (by omega)⟩
theorem ldiv_ok {a1 b1 c1 a2 b2 c2 : Int} {s : S} (h1 : Nu a1 b1 c1) (h2 : Nu a2 b2 c2) (p1 : 0 ≤ b1) (p2 : 0 < b2) : m__law_division [ex a1 b1 c1, ex a2 b2 c2] s = .ok (.tup [.int (rX b1 c1 c2 / rY b2 c1 c2), .int (lfF (rX b1 c1 c2) (rY b2 c1 c2)), .int (rY b2 c1 c2), .int (min c1 c2)]) s := by
  obtain ⟨x0, y0, xb, yb, ex_, ey_⟩ := two0_of h1 h2 p1 p2
  unfold m__law_division G__law_division
  apply mv_fn
  generalize rX b1 c1 c2 = x at *
  generalize rY b2 c1 c2 = y at *
  have cb : Builtin.Int.intBits (x / y) ≤ 4602 := bits_div y0 xb
  refine mv_seq (s1 := s) (δ1 := [.d (ex a1 b1 c1), .d (ex a2 b2 c2), .d (.int (min c1 c2)), .u, .u, .u]) (mv_set (mv_call (mv_cons (i2 rfl) (mv_cons (i2 rfl) mv_nil)) gMin2)) ?_
  refine mv_seq (s1 := s) (δ1 := [.d (ex a1 b1 c1), .d (ex a2 b2 c2), .d (.int (min c1 c2)), .d (.int x), .u, .u]) (mv_set (mv_op (i1 rfl) (mv_op (i2 rfl) (mv_var rfl) gSub_int) ex_)) ?_
  refine mv_seq (s1 := s) (δ1 := [.d (ex a1 b1 c1), .d (ex a2 b2 c2), .d (.int (min c1 c2)), .d (.int x), .d (.int y), .u]) (mv_set (mv_op (i1 rfl) (mv_op (i2 rfl) (mv_var rfl) gSub_int) ey_)) ?_
  refine mv_seq (s1 := s) (δ1 := [.d (ex a1 b1 c1), .d (ex a2 b2 c2), .d (.int (min c1 c2)), .d (.int x), .d (.int y), .d (.int (x / y))]) (mv_set (mv_op (mv_var rfl) (mv_var rfl) (gDiv_mid y0 (Nat.le_trans yb (by decide))))) ?_
  exact mv_ret (mv_tup (mv_cons (mv_var rfl) (mv_cons (mv_op (mv_var rfl) (mv_op (mv_var rfl) (mv_var rfl) (gMul_s (by omega))) gSub_int) (mv_cons (mv_var rfl) (mv_cons (mv_var rfl) mv_nil)))) (show 4 ≤ 100000 by decide))
/-- what is left, with the sign of the division's last step -/
def lsF (near : Bool) (x y : Int) : Int := if (near && phF x y) = true then lfF x y - y else lfF x y
def rpF (near : Bool) (a x y : Int) : Int := (1 - 2 * a) * lsF near x y
theorem ls_b {near : Bool} {x y : Int} (y0 : 0 < y) (yb : Builtin.Int.intBits y ≤ 4602) : Builtin.Int.intBits (lsF near x y) ≤ 4602 := by
  obtain ⟨l0, l1⟩ := lf_b (x := x) y0
  have := PySem.intBits_le_iff.mp yb
  unfold lsF
  split <;> exact PySem.intBits_le_iff.mpr (by omega)
theorem lrp_ok {near : Bool} {a1 b1 c1 a2 b2 c2 : Int} {s : S} (h1 : Nu a1 b1 c1) (h2 : Nu a2 b2 c2) (p1 : 0 ≤ b1) (p2 : 0 < b2) : m__law_rest_pair [ex a1 b1 c1, ex a2 b2 c2, .bl (!near)] s = .ok (.tup [.int (rpF near a1 (rX b1 c1 c2) (rY b2 c1 c2)), .int (min c1 c2)]) s := by
  have dv := ldiv_ok (s := s) h1 h2 p1 p2
  obtain ⟨x0, y0, xb, yb, _, _⟩ := two0_of h1 h2 p1 p2
  have sa := h1.s
  unfold m__law_rest_pair G__law_rest_pair
  apply mv_fn
  generalize rX b1 c1 c2 = x at *
  generalize rY b2 c1 c2 = y at *
  obtain ⟨l0, l1⟩ := lf_b (x := x) y0
  have lb : Builtin.Int.intBits (lfF x y) ≤ 4602 := bits_mono l0 (Int.le_of_lt l1) yb
  have sb := ls_b (near := near) (x := x) y0 yb
  refine mv_seq (s1 := s) (δ1 := [.d (ex a1 b1 c1), .d (ex a2 b2 c2), .d (.bl (!near)), .d (.int (x / y)), .d (.int (lfF x y)), .d (.int y), .d (.int (min c1 c2))]) (mv_tgt (mv_app (mv_cons (mv_var rfl) (mv_cons (mv_var rfl) mv_nil)) dv rfl) rfl) ?_
  have two : ∀ {δ : Ev} {s : S}, δ[4]? = some (.d (.int (lfF x y))) → eOp (gI gMulI) (eC (.int 2)) (eVar 4) δ s = .ok (.int (2 * lfF x y)) s := fun h => mv_op mv_c (mv_var h) (gMul_int (m := 2) (n := 4602) (by decide +kernel) lb (by decide))
  have both : tAnd (tNot (tTru (eVar 2))) (tOr (tCmp gGt (eOp (gI gMulI) (eC (.int 2)) (eVar 4)) (eVar 5)) (tAnd (tCmp gEq (eOp (gI gMulI) (eC (.int 2)) (eVar 4)) (eVar 5)) (tCmp gEq (eOp (gI gModI) (eCall gInt (aCons (eVar 3) aNil)) (eC (.int 2))) (eC (.int 1))))) [.d (ex a1 b1 c1), .d (ex a2 b2 c2), .d (.bl (!near)), .d (.int (x / y)), .d (.int (lfF x y)), .d (.int y), .d (.int (min c1 c2))] s = .ok (near && phF x y) s := by
    have g : tCmp gGt (eOp (gI gMulI) (eC (.int 2)) (eVar 4)) (eVar 5) [.d (ex a1 b1 c1), .d (ex a2 b2 c2), .d (.bl (!near)), .d (.int (x / y)), .d (.int (lfF x y)), .d (.int y), .d (.int (min c1 c2))] s = .ok (decide (y < 2 * lfF x y)) s := cmp_gt (two rfl) (mv_var rfl) rfl
    have n : tNot (tTru (eVar 2)) [.d (ex a1 b1 c1), .d (ex a2 b2 c2), .d (.bl (!near)), .d (.int (x / y)), .d (.int (lfF x y)), .d (.int y), .d (.int (min c1 c2))] s = .ok near s := by
      have e := mv_not (T := tTru (eVar 2)) (δ := [.d (ex a1 b1 c1), .d (ex a2 b2 c2), .d (.bl (!near)), .d (.int (x / y)), .d (.int (lfF x y)), .d (.int y), .d (.int (min c1 c2))]) (s := s) (s1 := s) (b := !near) (tru (mv_var rfl))
      rw [Bool.not_not] at e
      exact e
    unfold phF
    exact mv_tand n (mv_tor g (mv_tand (cmp_eq (two rfl) (mv_var rfl) rfl) (cmp_eq (mv_op (mv_call (mv_cons (mv_var rfl) mv_nil) gInt_int) mv_c (Mi.gMod_int (by decide))) mv_c rfl)))
  have sg : Builtin.Int.intBits (1 - 2 * a1) ≤ 2 := bits_of (by omega) (by omega)
  refine mv_seq (s1 := s) (δ1 := [.d (ex a1 b1 c1), .d (ex a2 b2 c2), .d (.bl (!near)), .d (.int (x / y)), .d (.int (lsF near x y)), .d (.int y), .d (.int (min c1 c2))]) ?_ (mv_ret (t2 (mv_op (mv_op mv_c (mv_op mv_c (i0 rfl) (gMul_int (m := 2) (n := 2) (by decide +kernel) (bits_of (by omega) (by omega)) (by decide))) gSub_int) (mv_var rfl) (gMul_int (m := 2) (n := 4602) sg sb (by decide))) (mv_var rfl)))
  unfold lsF
  by_cases q : (near && phF x y) = true
  · rw [if_pos q]
    exact mv_if_tb both q (mv_set (mv_op (mv_var rfl) (mv_var rfl) gSub_int))
  · rw [if_neg q]
    exact mv_if_fb both (by cases h : (near && phF x y); rfl; exact absurd h q) mv_snil
theorem rp_odd {near : Bool} {a x y u : Int} (ha : a = 0 ∨ a = 1) (y0 : 0 < y) : (rpF near a x y = 0 → ex a 0 0 = odD (frS near a x y) (frM near x y) u) ∧ (rpF near a x y ≠ 0 → odD (if decide (rpF near a x y < 0) = true then 1 else 0) (rpF near a x y).natAbs u = odD (frS near a x y) (frM near x y) u) := by
  obtain ⟨l0, l1⟩ := lf_b (x := x) y0
  unfold rpF lsF frS frM
  by_cases q : (near && phF x y) = true
  · rw [if_pos q, if_pos q, if_pos q]
    rcases ha with rfl | rfl
    · refine ⟨fun h => by omega, fun h => ?_⟩
      rw [decide_eq_true (by omega), if_pos rfl, show (((1 - 2 * 0) * (lfF x y - y)).natAbs : Int) = y - lfF x y by omega]
      rfl
    · refine ⟨fun h => by omega, fun h => ?_⟩
      rw [decide_eq_false (by omega), if_neg (by decide), show (((1 - 2 * 1) * (lfF x y - y)).natAbs : Int) = y - lfF x y by omega]
      rfl
  · rw [if_neg q, if_neg q, if_neg q]
    rcases ha with rfl | rfl
    · refine ⟨fun h => ?_, fun h => ?_⟩
      · rw [show lfF x y = 0 by omega]
        exact (if_pos rfl).symm
      · rw [decide_eq_false (by omega), if_neg (by decide), show (((1 - 2 * 0) * lfF x y).natAbs : Int) = lfF x y by omega]
    · refine ⟨fun h => ?_, fun h => ?_⟩
      · rw [show lfF x y = 0 by omega]
        exact (if_pos rfl).symm
      · rw [decide_eq_true (by omega), if_pos rfl, show (((1 - 2 * 1) * lfF x y).natAbs : Int) = lfF x y by omega]
theorem rdue_ok {near : Bool} {a1 b1 c1 a2 b2 c2 : Int} {s : S} (h1 : Nu a1 b1 c1) (h2 : Nu a2 b2 c2) : m__law_rest_due [ex a1 b1 c1, ex a2 b2 c2, .bl (!near)] s = .ok (rdD near a1 b1 c1 a2 b2 c2) s := by
  have m1 := h1.m
  have m2 := h2.m
  have no : b1 ≤ 0 ∨ b2 ≤ 0 → ¬ Over near b1 c1 b2 c2 := fun h o => by
    have := o.1
    have := o.2.1
    omega
  unfold m__law_rest_due G__law_rest_due rdD
  apply mv_fn
  have n0 : ∀ {δ : Ev} {s : S}, eTup (aCons (eC (.int 0)) (aCons (eUn gNeg (eC (.int 2))) (aCons (eC (.int 0)) aNil))) δ s = .ok (ex 0 (-2) 0) s := fun {δ s} => t3 mv_c (mv_un mv_c gNeg_int) mv_c
  have nt : tOr (tCmp gEq (eOp gIx (eVar 0) (eC (.int 1))) (eUn gNeg (eC (.int 2)))) (tCmp gEq (eOp gIx (eVar 1) (eC (.int 1))) (eUn gNeg (eC (.int 2)))) [.d (ex a1 b1 c1), .d (ex a2 b2 c2), .d (.bl (!near)), .u, .u, .u] s = .ok (decide (b1 = -2) || decide (b2 = -2)) s := mv_tor (cmp_eq (i1 rfl) (mv_un mv_c gNeg_int) rfl) (cmp_eq (i1 rfl) (mv_un mv_c gNeg_int) rfl)
  have it : tOr (tCmp gEq (eOp gIx (eVar 0) (eC (.int 1))) (eUn gNeg (eC (.int 1)))) (tCmp gEq (eOp gIx (eVar 1) (eC (.int 1))) (eC (.int 0))) [.d (ex a1 b1 c1), .d (ex a2 b2 c2), .d (.bl (!near)), .u, .u, .u] s = .ok (decide (b1 = -1) || decide (b2 = 0)) s := mv_tor (cmp_eq (i1 rfl) (mv_un mv_c gNeg_int) rfl) (cmp_eq (i1 rfl) mv_c rfl)
  have zt : tOr (tCmp gEq (eOp gIx (eVar 1) (eC (.int 1))) (eUn gNeg (eC (.int 1)))) (tCmp gEq (eOp gIx (eVar 0) (eC (.int 1))) (eC (.int 0))) [.d (ex a1 b1 c1), .d (ex a2 b2 c2), .d (.bl (!near)), .u, .u, .u] s = .ok (decide (b2 = -1) || decide (b1 = 0)) s := mv_tor (cmp_eq (i1 rfl) (mv_un mv_c gNeg_int) rfl) (cmp_eq (i1 rfl) mv_c rfl)
  by_cases n : b1 = -2 ∨ b2 = -2
  · rw [if_neg (no (by omega))]
    unfold reD
    rw [if_pos n]
    exact mv_seq_rt (mv_if_tb nt (by simp only [Bool.or_eq_true, Bool.and_eq_true, Bool.or_eq_false_iff, Bool.and_eq_false_iff, Bool.not_eq_true', Bool.not_eq_false', decide_eq_true_eq, decide_eq_false_iff_not]; omega) (mv_ret (t2 mv_c (t2 n0 nl))))
  refine mv_seq (s1 := s) (δ1 := [.d (ex a1 b1 c1), .d (ex a2 b2 c2), .d (.bl (!near)), .u, .u, .u]) (mv_if_fb nt (by simp only [Bool.or_eq_true, Bool.and_eq_true, Bool.or_eq_false_iff, Bool.and_eq_false_iff, Bool.not_eq_true', Bool.not_eq_false', decide_eq_true_eq, decide_eq_false_iff_not]; omega) mv_snil) ?_
  by_cases v : b1 = -1 ∨ b2 = 0
  · rw [if_neg (no (by omega))]
    unfold reD
    rw [if_neg n, if_pos v]
    exact mv_seq_rt (mv_if_tb it (by simp only [Bool.or_eq_true, Bool.and_eq_true, Bool.or_eq_false_iff, Bool.and_eq_false_iff, Bool.not_eq_true', Bool.not_eq_false', decide_eq_true_eq, decide_eq_false_iff_not]; omega) (mv_ret (t2 mv_c (t2 n0 (mv_tup (mv_cons mv_c mv_nil) (by decide))))))
  refine mv_seq (s1 := s) (δ1 := [.d (ex a1 b1 c1), .d (ex a2 b2 c2), .d (.bl (!near)), .u, .u, .u]) (mv_if_fb it (by simp only [Bool.or_eq_true, Bool.and_eq_true, Bool.or_eq_false_iff, Bool.and_eq_false_iff, Bool.not_eq_true', Bool.not_eq_false', decide_eq_true_eq, decide_eq_false_iff_not]; omega) mv_snil) ?_
  by_cases z : b2 = -1 ∨ b1 = 0
  · rw [if_neg (no (by omega))]
    unfold reD
    rw [if_neg n, if_neg v, if_pos z]
    exact mv_seq_rt (mv_if_tb zt (by simp only [Bool.or_eq_true, Bool.and_eq_true, Bool.or_eq_false_iff, Bool.and_eq_false_iff, Bool.not_eq_true', Bool.not_eq_false', decide_eq_true_eq, decide_eq_false_iff_not]; omega) (mv_ret (t2 mv_c (t2 (mv_var rfl) nl))))
  refine mv_seq (s1 := s) (δ1 := [.d (ex a1 b1 c1), .d (ex a2 b2 c2), .d (.bl (!near)), .u, .u, .u]) (mv_if_fb zt (by simp only [Bool.or_eq_true, Bool.and_eq_true, Bool.or_eq_false_iff, Bool.and_eq_false_iff, Bool.not_eq_true', Bool.not_eq_false', decide_eq_true_eq, decide_eq_false_iff_not]; omega) mv_snil) ?_
  have p1 : 0 < b1 := by omega
  have p2 : 0 < b2 := by omega
  have k0 := h1.c0
  have k1 := h1.c1
  have k2 := h2.c0
  have k3 := h2.c1
  have rp := lrp_ok (near := near) (s := s) h1 h2 (Int.le_of_lt p1) p2
  have t := two_of h1 h2 p1 p2
  have y0 := t.y0
  have oi : Over near b1 c1 b2 c2 ↔ 2000 < odC (frM near (rX b1 c1 c2) (rY b2 c1 c2)) (min c1 c2) := ⟨fun h => h.2.2, fun h => ⟨p1, p2, h⟩⟩
  have re : reD near a1 b1 c1 a2 b2 c2 = .tup [odD (frS near a1 (rX b1 c1 c2) (rY b2 c1 c2)) (frM near (rX b1 c1 c2) (rY b2 c1 c2)) (min c1 c2), .tup []] := by
    unfold reD
    rw [if_neg n, if_neg v, if_neg z]
    rfl
  rw [re]
  generalize rX b1 c1 c2 = x at *
  generalize rY b2 c1 c2 = y at *
  obtain ⟨q1, q2⟩ := rp_odd (near := near) (x := x) (u := min c1 c2) h1.s y0
  refine mv_seq (s1 := s) (δ1 := [.d (ex a1 b1 c1), .d (ex a2 b2 c2), .d (.bl (!near)), .u, .d (.int (rpF near a1 x y)), .d (.int (min c1 c2))]) (mv_tgt (mv_app (mv_cons (mv_var rfl) (mv_cons (mv_var rfl) (mv_cons (mv_var rfl) mv_nil))) rp rfl) rfl) ?_
  have zt2 : tCmp gEq (eVar 4) (eC (.int 0)) [.d (ex a1 b1 c1), .d (ex a2 b2 c2), .d (.bl (!near)), .u, .d (.int (rpF near a1 x y)), .d (.int (min c1 c2))] s = .ok (decide (rpF near a1 x y = 0)) s := cmp_eq (mv_var rfl) mv_c rfl
  by_cases r0 : rpF near a1 x y = 0
  · have e := q1 r0
    have noo : ¬ Over near b1 c1 b2 c2 := fun h => by
      have h := oi.mp h
      rw [od_ex] at e
      have c0 : odC (frM near x y) (min c1 c2) = 0 := by
        injection e with e
        injection e with _ e
        injection e with _ e
        injection e with e _
        injection e with e
        exact e.symm
      omega
    rw [if_neg noo, ← e]
    exact mv_seq_rt (mv_if_tb zt2 (decide_eq_true r0) (mv_ret (t2 mv_c (t2 (t3 (i0 rfl) mv_c mv_c) nl))))
  · have e := q2 r0
    refine mv_seq (s1 := s) (δ1 := [.d (ex a1 b1 c1), .d (ex a2 b2 c2), .d (.bl (!near)), .u, .d (.int (rpF near a1 x y)), .d (.int (min c1 c2))]) (mv_if_fb zt2 (decide_eq_false r0) mv_snil) ?_
    refine mv_seq (s1 := s) (δ1 := [.d (ex a1 b1 c1), .d (ex a2 b2 c2), .d (.bl (!near)), .d (odD (frS near a1 x y) (frM near x y) (min c1 c2)), .d (.int (rpF near a1 x y)), .d (.int (min c1 c2))]) (mv_set (mv_app (mv_cons (mv_call (mv_cons (mv_op (mv_var rfl) mv_c Mi.gLt_int) mv_nil) gInt_bl) (mv_cons (mv_call (mv_cons (mv_var rfl) mv_nil) gAbs_i) (mv_cons (mv_var rfl) mv_nil))) (lodd_ok.trans (by rw [e])) rfl)) ?_
    rw [od_ex]
    have gc : tCmp gGt (eOp gIx (eVar 3) (eC (.int 2))) (eC (.int 2000)) [.d (ex a1 b1 c1), .d (ex a2 b2 c2), .d (.bl (!near)), .d (ex (frS near a1 x y) (odB (frM near x y)) (odC (frM near x y) (min c1 c2))), .d (.int (rpF near a1 x y)), .d (.int (min c1 c2))] s = .ok (decide (2000 < odC (frM near x y) (min c1 c2))) s := cmp_gt (i2 rfl) mv_c rfl
    by_cases o : 2000 < odC (frM near x y) (min c1 c2)
    · rw [if_pos (oi.mpr o)]
      exact mv_seq_rt (mv_if_tb gc (decide_eq_true o) (mv_ret (t3 mv_c (mv_tup (mv_cons mv_c mv_nil) (by decide)) mv_c)))
    · rw [if_neg (fun h => o (oi.mp h))]
      exact mv_seq (mv_if_fb gc (decide_eq_false o) mv_snil) (mv_ret (t2 mv_c (t2 (mv_var rfl) nl)))
noncomputable def rrFor : FS := (sSeq (sIf (tNot (tTru (eApp 2 [] m__law_same (aCons (eLam 1 [] m__law_caught (eApp 2 [] m_rest (aCons (eVar 0) (aCons (eVar 1) aNil))) aNil) (aCons (eVar 2) aNil))))) (sRet (eC (.bl false))) sNil) (sIf (tNot (tTru (eApp 2 [] m__law_same (aCons (eLam 1 [] m__law_caught (eApp 2 [] m_cut_rest (aCons (eVar 0) (aCons (eVar 1) aNil))) aNil) (aCons (eVar 3) aNil))))) (sRet (eC (.bl false))) sNil))
theorem rests_right_ok {a1 b1 c1 a2 b2 c2 : Int} {s : S} (h1 : Nu a1 b1 c1) (h2 : Nu a2 b2 c2) : m__law_rests_right [ex a1 b1 c1, ex a2 b2 c2] s = .ok (.bl true) s := by
  have st : ∀ {x4 : D} {s : S}, rrFor [.d (ex a1 b1 c1), .d (ex a2 b2 c2), .d (rdD true a1 b1 c1 a2 b2 c2), .d (rdD false a1 b1 c1 a2 b2 c2), .d x4] s = .ok (.nx [.d (ex a1 b1 c1), .d (ex a2 b2 c2), .d (rdD true a1 b1 c1 a2 b2 c2), .d (rdD false a1 b1 c1 a2 b2 c2), .d x4]) s := fun {x4 s} => by
    unfold rrFor
    refine mv_seq (s1 := s) (δ1 := [.d (ex a1 b1 c1), .d (ex a2 b2 c2), .d (rdD true a1 b1 c1 a2 b2 c2), .d (rdD false a1 b1 c1 a2 b2 c2), .d x4]) (mv_if_f (not_t (mv_app (mv_cons (caught_lam fun s => mv_app (mv_cons (vb rfl rfl) (mv_cons (vb rfl rfl) mv_nil)) (rest_ok h1 h2) rfl) (mv_cons (mv_var rfl) mv_nil)) rd_same rfl)) mv_snil) ?_
    exact mv_if_f (not_t (mv_app (mv_cons (caught_lam fun s => mv_app (mv_cons (vb rfl rfl) (mv_cons (vb rfl rfl) mv_nil)) (cut_ok h1 h2) rfl) (mv_cons (mv_var rfl) mv_nil)) rd_same rfl)) mv_snil
  unfold m__law_rests_right G__law_rests_right
  apply mv_fn
  refine mv_seq (s1 := s) (δ1 := [.d (ex a1 b1 c1), .d (ex a2 b2 c2), .d (rdD true a1 b1 c1 a2 b2 c2), .u, .u]) (mv_set (mv_app (mv_cons (mv_var rfl) (mv_cons (mv_var rfl) (mv_cons mv_c mv_nil))) (rdue_ok (near := true) h1 h2) rfl)) ?_
  refine mv_seq (s1 := s) (δ1 := [.d (ex a1 b1 c1), .d (ex a2 b2 c2), .d (rdD true a1 b1 c1 a2 b2 c2), .d (rdD false a1 b1 c1 a2 b2 c2), .u]) (mv_set (mv_app (mv_cons (mv_var rfl) (mv_cons (mv_var rfl) (mv_cons mv_c mv_nil))) (rdue_ok (near := false) h1 h2) rfl)) ?_
  obtain ⟨δ2, s2, e, rfl, y, rfl⟩ := mv_for (I := iRng1 (aCons (eC (.int 2)) aNil)) (N := nName 4) (G := rrFor) (δ := [.d (ex a1 b1 c1), .d (ex a2 b2 c2), .d (rdD true a1 b1 c1 a2 b2 c2), .d (rdD false a1 b1 c1 a2 b2 c2), .u]) (s := s) (s1 := s) (ds := rgL 0 2)
    (fun j δ s' => s' = s ∧ ∃ y, δ = [.d (ex a1 b1 c1), .d (ex a2 b2 c2), .d (rdD true a1 b1 c1 a2 b2 c2), .d (rdD false a1 b1 c1 a2 b2 c2), y]) (mv_rng1 (mv_cons mv_c mv_nil) (by decide) (by decide)) ⟨rfl, _, rfl⟩ (fun j x δ s' hd hP => by
      obtain ⟨rfl, y, rfl⟩ := hP
      exact ⟨_, rfl, _, _, st, rfl, _, rfl⟩)
  exact mv_seq e (mv_ret mv_c)
/-! ### exact quotients -/
def qN (a1 b1 c1 a2 b2 c2 : Int) : Int := topF (spN (xr a1 a2) b1) (c1 - c2) / (Nat.gcd (topF (spN (xr a1 a2) b1) (c1 - c2)).natAbs (botF 1 (c1 - c2) * b2).natAbs : Nat)
def qD (a1 b1 c1 a2 b2 c2 : Int) : Int := botF 1 (c1 - c2) * b2 / (Nat.gcd (topF (spN (xr a1 a2) b1) (c1 - c2)).natAbs (botF 1 (c1 - c2) * b2).natAbs : Nat)
theorem cop2 {n : Nat} (h : n % 2 = 1) : Nat.Coprime 2 n := by
  show Nat.gcd 2 n = 1
  rw [Nat.gcd_rec, h]
  rfl
theorem odd_div {a g q : Nat} (h : a % 2 = 1) (e : a = g * q) : q % 2 = 1 := by
  rw [e, Nat.mul_mod] at h
  rcases Nat.mod_two_eq_zero_or_one q with y | y
  · rw [y, Nat.mul_zero] at h
    omega
  · exact y
/-- the quotient in lowest terms, explicitly -/
theorem q_low {a1 b1 c1 a2 b2 c2 : Int} (h1 : Nu a1 b1 c1) (h2 : Nu a2 b2 c2) (p1 : 0 < b1) (p2 : 0 < b2) :
    qN a1 b1 c1 a2 b2 c2 = topF (spN (xr a1 a2) (b1 / (Nat.gcd b1.natAbs b2.natAbs : Nat))) (c1 - c2) ∧ qD a1 b1 c1 a2 b2 c2 = botF (b2 / (Nat.gcd b1.natAbs b2.natAbs : Nat)) (c1 - c2) ∧ 0 < b1 / (Nat.gcd b1.natAbs b2.natAbs : Nat) ∧ 0 < b2 / (Nat.gcd b1.natAbs b2.natAbs : Nat) := by
  have g0 : 0 < Nat.gcd b1.natAbs b2.natAbs := Nat.gcd_pos_of_pos_right _ (by omega)
  obtain ⟨m, rfl⟩ := Int.eq_ofNat_of_zero_le (Int.le_of_lt p1)
  obtain ⟨n, rfl⟩ := Int.eq_ofNat_of_zero_le (Int.le_of_lt p2)
  have o1 := h1.odd p1
  have o2 := h2.odd p2
  have cp := Nat.coprime_div_gcd_div_gcd (m := m) (n := n) (by simpa using g0)
  have em : m = Nat.gcd m n * (m / Nat.gcd m n) := (Nat.mul_div_cancel' (Nat.gcd_dvd_left m n)).symm
  have en : n = Nat.gcd m n * (n / Nat.gcd m n) := (Nat.mul_div_cancel' (Nat.gcd_dvd_right m n)).symm
  have oa := odd_div (a := m) (by omega) em
  have ob := odd_div (a := n) (by omega) en
  simp only [Int.natAbs_natCast] at g0 ⊢
  rw [← Int.natCast_ediv, ← Int.natCast_ediv]
  generalize hg : Nat.gcd m n = g at *
  generalize m / g = A at *
  generalize n / g = B at *
  have A0 : 0 < A := by omega
  have B0 : 0 < B := by omega
  have Bp : 0 < botF (B : Int) (c1 - c2) := (tb_pos (by omega)).2
  have bp : 0 < botF 1 (c1 - c2) * (n : Int) := Int.mul_pos (tb_pos (b := 1) (by decide)).2 (by omega)
  have rel : topF (spN (xr a1 a2) (A : Int)) (c1 - c2) * (botF 1 (c1 - c2) * (n : Int)) = topF (spN (xr a1 a2) (m : Int)) (c1 - c2) * botF (B : Int) (c1 - c2) := by
    have e1 : (m : Int) = (g : Int) * A := by rw [← Int.natCast_mul, ← em]
    have e2 : (n : Int) = (g : Int) * B := by rw [← Int.natCast_mul, ← en]
    have e3 : spN (xr a1 a2) (m : Int) = g * spN (xr a1 a2) (A : Int) := by
      unfold spN
      split
      · rw [e1, Int.mul_neg]
      · exact e1
    unfold topF botF
    rw [e3, e2, Int.one_mul]
    ac_rfl
  obtain ⟨y1, y2⟩ := low_eq (N := topF (spN (xr a1 a2) (A : Int)) (c1 - c2)) (D := botF (B : Int) (c1 - c2)) (by omega) (by omega) rel
  have one : Nat.gcd (topF (spN (xr a1 a2) (A : Int)) (c1 - c2)).natAbs (botF (B : Int) (c1 - c2)).natAbs = 1 := by
    have f1 : (topF (spN (xr a1 a2) (A : Int)) (c1 - c2)).natAbs = A * 2 ^ (max 0 (c1 - c2)).toNat := by
      unfold topF spN
      rw [Int.natAbs_mul, Int.natAbs_pow]
      split
      · rw [Int.natAbs_neg, Int.natAbs_natCast]; rfl
      · rw [Int.natAbs_natCast]; rfl
    have f2 : (botF (B : Int) (c1 - c2)).natAbs = B * 2 ^ (max 0 (0 - (c1 - c2))).toNat := by
      unfold botF
      rw [Int.natAbs_mul, Int.natAbs_pow, Int.natAbs_natCast]
      rfl
    rw [f1, f2]
    have ca : Nat.Coprime (A * 2 ^ (max 0 (c1 - c2)).toNat) B := Nat.Coprime.mul_left cp (Nat.Coprime.pow_left _ (cop2 ob))
    have cb : Nat.Coprime (A * 2 ^ (max 0 (c1 - c2)).toNat) (2 ^ (max 0 (0 - (c1 - c2))).toNat) := by
      by_cases q : 0 ≤ c1 - c2
      · rw [show (max 0 (0 - (c1 - c2))).toNat = 0 by omega, Nat.pow_zero]
        exact Nat.gcd_one_right _
      · rw [show (max 0 (c1 - c2)).toNat = 0 by omega, Nat.pow_zero, Nat.mul_one]
        exact Nat.Coprime.pow_right _ (cop2 oa).symm
    exact Nat.Coprime.mul_right ca cb
  rw [one] at y1 y2
  unfold qN qD
  rw [Int.natCast_one, Int.ediv_one] at y1 y2
  exact ⟨y1.symm, y2.symm, by omega, by omega⟩
theorem q_zero {a1 c1 a2 b2 c2 : Int} (p2 : 0 < b2) : qN a1 0 c1 a2 b2 c2 = 0 ∧ qD a1 0 c1 a2 b2 c2 = 1 := by
  have bp : 0 < botF 1 (c1 - c2) * b2 := Int.mul_pos (tb_pos (b := 1) (by decide)).2 p2
  have sp0 : spN (xr a1 a2) 0 = 0 := by
    unfold spN
    split <;> rfl
  unfold qN qD
  rw [sp0, show topF 0 (c1 - c2) = 0 from Int.zero_mul _, show (0 : Int).natAbs = 0 from rfl, Nat.gcd_zero_left, Int.zero_ediv, show ((botF 1 (c1 - c2) * b2).natAbs : Int) = botF 1 (c1 - c2) * b2 by omega, Int.ediv_self (by omega)]
  exact ⟨rfl, rfl⟩
theorem eq_ok' {a1 b1 c1 a2 b2 c2 : Int} {s : S} (h1 : Nu a1 b1 c1) (h2 : Nu a2 b2 c2) (p1 : 0 ≤ b1) (p2 : 0 < b2) : m_exact_quotient [ex a1 b1 c1, ex a2 b2 c2] s = .ok (ex (qN a1 b1 c1 a2 b2 c2) (qD a1 b1 c1 a2 b2 c2) 1) s := eq_ok h1 h2 p1 p2
theorem q_ex {a1 b1 c1 a2 b2 c2 : Int} (h1 : Nu a1 b1 c1) (h2 : Nu a2 b2 c2) (p1 : 0 ≤ b1) (p2 : 0 < b2) : Ex (qN a1 b1 c1 a2 b2 c2) (qD a1 b1 c1 a2 b2 c2) 1 ∧ ((qN a1 b1 c1 a2 b2 c2).natAbs : Int) * rY b2 c1 c2 = rX b1 c1 c2 * qD a1 b1 c1 a2 b2 c2 := by
  have k0 := h1.c0
  have k1 := h1.c1
  have k2 := h2.c0
  have k3 := h2.c1
  rcases (show b1 = 0 ∨ 0 < b1 by omega) with z | z
  · subst z
    obtain ⟨e1, e2⟩ := q_zero (a1 := a1) (c1 := c1) (a2 := a2) (c2 := c2) p2
    rw [e1, e2]
    exact ⟨⟨by decide, .inl rfl, fun e => (by cases e), by decide +kernel, by decide +kernel⟩, by unfold rX; rw [Int.zero_mul, Int.zero_mul]; exact Int.zero_mul _⟩
  · obtain ⟨e1, e2, A0, B0⟩ := q_low h1 h2 z p2
    rw [e1, e2]
    have g0 : 0 < Nat.gcd b1.natAbs b2.natAbs := Nat.gcd_pos_of_pos_right _ (by omega)
    have ab : Builtin.Int.intBits (b1 / (Nat.gcd b1.natAbs b2.natAbs : Nat)) ≤ 600 := bits_div (by omega) h1.bb
    have bb : Builtin.Int.intBits (b2 / (Nat.gcd b1.natAbs b2.natAbs : Nat)) ≤ 600 := bits_div (by omega) h2.bb
    have ea : b1 = (Nat.gcd b1.natAbs b2.natAbs : Nat) * (b1 / (Nat.gcd b1.natAbs b2.natAbs : Nat)) := (Int.mul_ediv_cancel' (Int.gcd_dvd_left (a := b1) (b := b2))).symm
    have eb : b2 = (Nat.gcd b1.natAbs b2.natAbs : Nat) * (b2 / (Nat.gcd b1.natAbs b2.natAbs : Nat)) := (Int.mul_ediv_cancel' (Int.gcd_dvd_right (a := b1) (b := b2))).symm
    generalize b1 / (Nat.gcd b1.natAbs b2.natAbs : Nat) = A at *
    generalize b2 / (Nat.gcd b1.natAbs b2.natAbs : Nat) = B at *
    generalize (Nat.gcd b1.natAbs b2.natAbs : Nat) = g at *
    have Bp := (tb_pos (q := c1 - c2) B0).2
    refine ⟨⟨by omega, .inl rfl, fun e => (by cases e), Nat.le_trans (bshl (sp_b ab)) (by omega), Nat.le_trans (bshl bb) (by omega)⟩, ?_⟩
    have na : ((topF (spN (xr a1 a2) A) (c1 - c2)).natAbs : Int) = A * 2 ^ (max 0 (c1 - c2)).toNat := by
      unfold topF
      rw [Int.natAbs_mul, Int.natCast_mul, sp_ab (Int.le_of_lt A0)]
      have := pow2 (max 0 (c1 - c2)).toNat
      rw [show (((2 : Int) ^ (max 0 (c1 - c2)).toNat).natAbs : Int) = 2 ^ (max 0 (c1 - c2)).toNat by omega]
    rw [na]
    unfold rX rY botF
    have l : A * 2 ^ (max 0 (c1 - c2)).toNat * (b2 * 2 ^ (c2 - min c1 c2).toNat) = A * b2 * 2 ^ ((max 0 (c1 - c2)).toNat + (c2 - min c1 c2).toNat) := by rw [Int.pow_add]; ac_rfl
    have r : b1 * 2 ^ (c1 - min c1 c2).toNat * (B * 2 ^ (max 0 (0 - (c1 - c2))).toNat) = b1 * B * 2 ^ ((max 0 (c1 - c2)).toNat + (c2 - min c1 c2).toNat) := by
      rw [show (max 0 (c1 - c2)).toNat + (c2 - min c1 c2).toNat = (c1 - min c1 c2).toNat + (max 0 (0 - (c1 - c2))).toNat by omega, Int.pow_add]
      ac_rfl
    rw [l, r]
    congr 1
    rw [eb]
    conv => rhs; rw [ea]
    ac_rfl
theorem lquot_ok {a1 b1 c1 a2 b2 c2 : Int} {s : S} (h1 : Nu a1 b1 c1) (h2 : Nu a2 b2 c2) (p1 : 0 ≤ b1) (p2 : 0 < b2) : m__law_quotient [ex a1 b1 c1, ex a2 b2 c2] s = .ok (ex (qN a1 b1 c1 a2 b2 c2) (qD a1 b1 c1 a2 b2 c2) 1) s := by
  have k0 := h1.c0
  have k1 := h1.c1
  have k2 := h2.c0
  have k3 := h2.c1
  unfold m__law_quotient G__law_quotient
  apply mv_fn
  have zt : tCmp gEq (eOp gIx (eVar 0) (eC (.int 1))) (eC (.int 0)) [.d (ex a1 b1 c1), .d (ex a2 b2 c2), .u, .u, .u] s = .ok (decide (b1 = 0)) s := cmp_eq (i1 rfl) mv_c rfl
  by_cases z : b1 = 0
  · subst z
    obtain ⟨e1, e2⟩ := q_zero (a1 := a1) (c1 := c1) (a2 := a2) (c2 := c2) p2
    rw [e1, e2]
    exact mv_seq_rt (mv_if_tb zt rfl (mv_ret (t3 mv_c mv_c mv_c)))
  obtain ⟨e1, e2, A0, B0⟩ := q_low h1 h2 (by omega) p2
  rw [e1, e2]
  have g0 : 0 < Nat.gcd b1.natAbs b2.natAbs := Nat.gcd_pos_of_pos_right _ (by omega)
  have gl : Nat.gcd b1.natAbs b2.natAbs ≤ b2.natAbs := Nat.gcd_le_right _ (by omega)
  have gb : Builtin.Int.intBits ((Nat.gcd b1.natAbs b2.natAbs : Nat) : Int) ≤ 9000 := Nat.le_trans (bits_mono (by omega) (show ((Nat.gcd b1.natAbs b2.natAbs : Nat) : Int) ≤ b2 by omega) h2.bb) (by decide)
  have ab : Builtin.Int.intBits (b1 / (Nat.gcd b1.natAbs b2.natAbs : Nat)) ≤ 600 := bits_div (by omega) h1.bb
  have bb : Builtin.Int.intBits (b2 / (Nat.gcd b1.natAbs b2.natAbs : Nat)) ≤ 600 := bits_div (by omega) h2.bb
  have lc := lcommon_ok (n := b1) (s := s) (Nat.le_trans h2.bb (show 600 ≤ 9000 by decide))
  generalize Nat.gcd b1.natAbs b2.natAbs = g at *
  have gz : (0 : Int) < (g : Nat) := by omega
  refine mv_seq (s1 := s) (δ1 := [.d (ex a1 b1 c1), .d (ex a2 b2 c2), .u, .u, .u]) (mv_if_fb zt (decide_eq_false z) mv_snil) ?_
  refine mv_seq (s1 := s) (δ1 := [.d (ex a1 b1 c1), .d (ex a2 b2 c2), .d (.int g), .u, .u]) (mv_set (mv_app (mv_cons (i1 rfl) (mv_cons (i1 rfl) mv_nil)) lc rfl)) ?_
  refine mv_seq (s1 := s) (δ1 := [.d (ex a1 b1 c1), .d (ex a2 b2 c2), .d (.int g), .d (.int (c1 - c2)), .u]) (mv_set (mv_op (i2 rfl) (i2 rfl) gSub_int)) ?_
  refine mv_seq (s1 := s) (δ1 := [.d (ex a1 b1 c1), .d (ex a2 b2 c2), .d (.int g), .d (.int (c1 - c2)), .d (.int (topF (b1 / (g : Nat)) (c1 - c2)))]) (mv_set (mv_op (mv_op (i1 rfl) (mv_var rfl) (gDiv_mid gz gb)) (mv_call (mv_cons mv_c (mv_cons (mv_var rfl) mv_nil)) gMax2) (gShl_s (by omega) ab (by omega)))) ?_
  have ne : tCmp gNe (eOp gIx (eVar 0) (eC (.int 0))) (eOp gIx (eVar 1) (eC (.int 0))) [.d (ex a1 b1 c1), .d (ex a2 b2 c2), .d (.int g), .d (.int (c1 - c2)), .d (.int (topF (b1 / (g : Nat)) (c1 - c2)))] s = .ok (!decide (a1 = a2)) s := cmp_ne (i0 rfl) (i0 rfl) rfl
  have fin : ∀ {n : Int}, sRet (eTup (aCons (eVar 4) (aCons (eOp (gI gShlI) (eOp (gI gDivI) (eOp gIx (eVar 1) (eC (.int 1))) (eVar 2)) (eCall gMax (aCons (eC (.int 0)) (aCons (eOp (gI gSubI) (eC (.int 0)) (eVar 3)) aNil)))) (aCons (eC (.int 1)) aNil)))) [.d (ex a1 b1 c1), .d (ex a2 b2 c2), .d (.int g), .d (.int (c1 - c2)), .d (.int n)] s = .ok (.rt (ex n (botF (b2 / (g : Nat)) (c1 - c2)) 1)) s := fun {n} => mv_ret (t3 (mv_var rfl) (mv_op (mv_op (i1 rfl) (mv_var rfl) (gDiv_mid gz gb)) (mv_call (mv_cons mv_c (mv_cons (mv_op mv_c (mv_var rfl) gSub_int) mv_nil)) gMax2) (gShl_s (by omega) bb (by omega))) mv_c)
  by_cases x : a1 = a2
  · rw [show spN (xr a1 a2) (b1 / (g : Nat)) = b1 / (g : Nat) by unfold xr; rw [if_pos x]; rfl]
    exact mv_seq (mv_if_fb ne (by rw [decide_eq_true x]; rfl) mv_snil) fin
  · rw [show spN (xr a1 a2) (b1 / (g : Nat)) = -(b1 / (g : Nat)) by unfold xr; rw [if_neg x]; rfl, show topF (-(b1 / (g : Nat))) (c1 - c2) = 0 - topF (b1 / (g : Nat)) (c1 - c2) by unfold topF; rw [Int.neg_mul, Int.zero_sub]]
    exact mv_seq (mv_if_tb ne (by rw [decide_eq_false x]; rfl) (mv_set (mv_op mv_c (mv_var rfl) gSub_int))) fin
end A38
namespace A38
open PySem PySem.Spec PyProof.Rows L2 Mi
/-! ### the law's own rounding -/
def wl (l r : Int) : Int := if 2 * l < r then (if 0 < l then 1 else 0) else if r < 2 * l then 3 else 2
theorem w_l {n d u : Int} (h : Ex n d 1) : wF n d 1 u = wl (lfF (ovF n 1 u) (unF d 1 u)) (unF d 1 u) := by
  have c1 : ctF n d 1 u = ovF n 1 u / unF d 1 u := by
    unfold ctF
    rw [if_pos rfl]
  rw [w_due h, c1]
  unfold KF pwF wl lfF
  rw [if_pos rfl, if_pos rfl, if_pos rfl, Int.add_mul, Int.one_mul, Int.mul_assoc]
  generalize ovF n 1 u / unF d 1 u * unF d 1 u = m
  generalize ovF n 1 u = x
  generalize unF d 1 u = y
  repeat' split
  all_goals first | rfl | (exfalso; omega)
theorem lstep_ok {way : PySem.Str} {sg k l r : Int} {s : S} (hw : way ∈ ways) (hs : sg = 0 ∨ sg = 1) (l0 : 0 ≤ l) (lr : l < r) (lb : Builtin.Int.intBits l ≤ 25001) : m__law_step [.str way, .int sg, .int k, .int l, .int r] s = .ok (.int (if stF way sg (k % 2) (wl l r) then 1 else 0)) s := by
  unfold m__law_step G__law_step
  apply mv_fn
  have t0 : tOr (tCmp gEq (eVar 3) (eC (.int 0))) (tCmp gEq (eVar 0) (eC (.str "zero"))) [.d (.str way), .d (.int sg), .d (.int k), .d (.int l), .d (.int r)] s = .ok (decide (l = 0) || decide (way = "zero")) s := mv_tor (cmp_eq (mv_var rfl) mv_c rfl) (cmp_s (mv_var rfl) mv_c rfl)
  have w0 : wl l r = 0 ↔ l = 0 := by
    unfold wl
    repeat' split
    all_goals omega
  by_cases z : l = 0 ∨ way = "zero"
  · rw [show stF way sg (k % 2) (wl l r) = false from if_pos (z.imp w0.mpr id)]
    refine mv_seq_rt (mv_if_tb t0 ?_ (mv_ret mv_c))
    rcases z with z | z
    · rw [decide_eq_true z]; rfl
    · rw [decide_eq_true z, Bool.or_true]
  have z1 : ¬ (wl l r = 0 ∨ way = "zero") := fun h => z (h.imp w0.mp id)
  refine mv_seq (s1 := s) (δ1 := [.d (.str way), .d (.int sg), .d (.int k), .d (.int l), .d (.int r)]) (mv_if_fb t0 (by rw [decide_eq_false (fun h => z (.inl h)), decide_eq_false (fun h => z (.inr h))]; rfl) mv_snil) ?_
  unfold stF
  rw [if_neg z1]
  by_cases up : way = "up"
  · rw [if_pos up]
    have g := mv_op (δ := [.d (.str way), .d (.int sg), .d (.int k), .d (.int l), .d (.int r)]) (s := s) (mv_c (d := .int 1)) (mv_var (i := 1) rfl) gSub_int
    rw [show (if decide (sg = 0) = true then (1 : Int) else 0) = 1 - sg by rcases hs with rfl | rfl <;> rfl]
    exact mv_seq_rt (mv_if_t (cmp_s (mv_var rfl) mv_c (decide_eq_true up)) (mv_ret g))
  refine mv_seq (s1 := s) (δ1 := [.d (.str way), .d (.int sg), .d (.int k), .d (.int l), .d (.int r)]) (mv_if_f (cmp_s (mv_var rfl) mv_c (decide_eq_false up)) mv_snil) ?_
  rw [if_neg up]
  by_cases dn : way = "down"
  · rw [if_pos dn, show (if decide (sg = 1) = true then (1 : Int) else 0) = sg by rcases hs with rfl | rfl <;> rfl]
    exact mv_seq_rt (mv_if_t (cmp_s (mv_var rfl) mv_c (decide_eq_true dn)) (mv_ret (mv_var rfl)))
  refine mv_seq (s1 := s) (δ1 := [.d (.str way), .d (.int sg), .d (.int k), .d (.int l), .d (.int r)]) (mv_if_f (cmp_s (mv_var rfl) mv_c (decide_eq_false dn)) mv_snil) ?_
  rw [if_neg dn]
  have par : ∀ {δ : Ev} {s : S}, δ[2]? = some (.d (.int k)) → eOp (gI gModI) (eCall gInt (aCons (eVar 2) aNil)) (eC (.int 2)) δ s = .ok (.int (k % 2)) s := fun h => mv_op (mv_call (mv_cons (mv_var h) mv_nil) gInt_int) mv_c (Mi.gMod_int (by decide))
  have p01 : k % 2 = 0 ∨ k % 2 = 1 := by omega
  by_cases od : way = "odd"
  · rw [if_pos od, show (if decide (k % 2 = 0) = true then (1 : Int) else 0) = 1 - k % 2 by rcases p01 with y | y <;> rw [y] <;> rfl]
    exact mv_seq_rt (mv_if_t (cmp_s (mv_var rfl) mv_c (decide_eq_true od)) (mv_ret (mv_op mv_c (par rfl) gSub_int)))
  refine mv_seq (s1 := s) (δ1 := [.d (.str way), .d (.int sg), .d (.int k), .d (.int l), .d (.int r)]) (mv_if_f (cmp_s (mv_var rfl) mv_c (decide_eq_false od)) mv_snil) ?_
  rw [if_neg od]
  have two : ∀ {δ : Ev} {s : S}, δ[3]? = some (.d (.int l)) → eOp (gI gMulI) (eC (.int 2)) (eVar 3) δ s = .ok (.int (2 * l)) s := fun h => mv_op mv_c (mv_var h) (gMul_int (m := 2) (n := 25001) (by decide +kernel) lb (by decide))
  by_cases e : 2 * l = r
  · have w2 : wl l r = 2 := by
      unfold wl
      rw [if_neg (by omega), if_neg (by omega)]
    rw [if_pos w2]
    refine mv_seq (s1 := s) (δ1 := [.d (.str way), .d (.int sg), .d (.int k), .d (.int l), .d (.int r)]) (mv_if_f (cmp_ne (two rfl) (mv_var rfl) (by rw [decide_eq_true e]; rfl)) mv_snil) ?_
    by_cases aw : way = "away"
    · rw [decide_eq_true aw, Bool.true_or, if_pos rfl]
      exact mv_seq_rt (mv_if_t (cmp_s (mv_var rfl) mv_c (decide_eq_true aw)) (mv_ret mv_c))
    · rw [decide_eq_false aw, Bool.false_or, show (if decide (k % 2 = 1) = true then (1 : Int) else 0) = k % 2 by rcases p01 with y | y <;> rw [y] <;> rfl]
      exact mv_seq (mv_if_f (cmp_s (mv_var rfl) mv_c (decide_eq_false aw)) mv_snil) (mv_ret (par rfl))
  · have w2 : wl l r ≠ 2 := by
      unfold wl
      repeat' split
      all_goals omega
    have w3 : decide (wl l r = 3) = decide (2 * l > r) := by
      by_cases y : 2 * l > r
      · rw [decide_eq_true y, show wl l r = 3 by unfold wl; rw [if_neg (by omega), if_pos (by omega)]]
        rfl
      · rw [decide_eq_false y]
        refine decide_eq_false ?_
        unfold wl
        rw [if_pos (by omega)]
        split <;> decide
    rw [if_neg w2, w3]
    exact mv_seq_rt (mv_if_t (cmp_ne (two rfl) (mv_var rfl) (by rw [decide_eq_false e]; rfl)) (mv_ret (mv_call (mv_cons (mv_op (two rfl) (mv_var rfl) Mi.gGt_int) mv_nil) gInt_bl)))
theorem in_ok {way : PySem.Str} {sg : Int} (hw : way ∈ ways) (h : sg = 0 ∨ sg = 1) : gIn (.str way) (.tup [.str "zero", .str "odd", .str (iwS sg)]) = some (.bl (inB way sg)) := by
  simp only [ways, List.mem_cons, List.not_mem_nil, or_false] at hw
  rcases h with rfl | rfl <;> rcases hw with rfl | rfl | rfl | rfl | rfl | rfl <;> kernel_rfl
theorem lround_ok {way : PySem.Str} {p lo hi n d t : Int} {s : S} (hw : way ∈ ways) (hs : Shp p lo hi) (h : Ex n d 1) (hn : n ≠ 0) (nb : Builtin.Int.intBits n ≤ 2700) (db : Builtin.Int.intBits d ≤ 2100) : m__law_round [shp p lo hi, .str way, .int n, .int d] s = .ok (rxD way p lo hi n d 1 t) s := by
  have p2 := hs.p2
  have p140 := hs.p140
  have l6 := hs.l6
  have lh := hs.lh
  have h6 := hs.h6
  obtain ⟨g1, l1, bn, bd⟩ := gp_bits hn h.d1
  have e2 : eF n d = (Builtin.Int.intBits n : Int) - Builtin.Int.intBits d := rfl
  have sg := sgF_01 n
  have sb := uu_sh hs h hn
  have q1 : qF n d 1 = pF n d := Int.ediv_one _
  have qb : -2200 ≤ qF n d 1 ∧ qF n d 1 ≤ 2700 := by
    rw [q1]
    unfold pF
    split <;> omega
  have ub : -2400 ≤ uuF p lo n d 1 ∧ uuF p lo n d 1 ≤ 2700 := by
    unfold uuF
    omega
  unfold m__law_round G__law_round
  apply mv_fn
  refine mv_seq (s1 := s) (δ1 := [.d (shp p lo hi), .d (.str way), .d (.int n), .d (.int d), .u, .u, .u, .u, .u, .u, .u, .d (.int p), .d (.int lo), .d (.int hi)]) (mv_tgt (mv_var rfl) rfl) ?_
  refine mv_seq (s1 := s) (δ1 := [.d (shp p lo hi), .d (.str way), .d (.int n), .d (.int d), .d (.int (sgF n)), .u, .u, .u, .u, .u, .u, .d (.int p), .d (.int lo), .d (.int hi)]) (mv_set (mv_call (mv_cons (mv_op (mv_var rfl) mv_c Mi.gLt_int) mv_nil) gInt_bl)) ?_
  refine mv_seq (s1 := s) (δ1 := [.d (shp p lo hi), .d (.str way), .d (.int n), .d (.int d), .d (.int (sgF n)), .d (.int n.natAbs), .u, .u, .u, .u, .u, .d (.int p), .d (.int lo), .d (.int hi)]) (mv_set (mv_call (mv_cons (mv_var rfl) mv_nil) gAbs_i)) ?_
  refine mv_seq (s1 := s) (δ1 := [.d (shp p lo hi), .d (.str way), .d (.int n), .d (.int d), .d (.int (sgF n)), .d (.int n.natAbs), .d (.int (eF n d)), .u, .u, .u, .u, .d (.int p), .d (.int lo), .d (.int hi)]) (mv_set (mv_op (mv_un (mv_var rfl) gBits_int) (mv_un (mv_var rfl) gBits_int) (by rw [babs_eq]; exact gSub_int))) ?_
  have cmp : tCmp gLt (eOp (gI gShlI) (eVar 5) (eCall gMax (aCons (eC (.int 0)) (aCons (eOp (gI gSubI) (eC (.int 0)) (eVar 6)) aNil)))) (eOp (gI gShlI) (eVar 3) (eCall gMax (aCons (eC (.int 0)) (aCons (eVar 6) aNil)))) [.d (shp p lo hi), .d (.str way), .d (.int n), .d (.int d), .d (.int (sgF n)), .d (.int n.natAbs), .d (.int (eF n d)), .u, .u, .u, .u, .d (.int p), .d (.int lo), .d (.int hi)] s = .ok (decide ((n.natAbs : Int) * 2 ^ (-(eF n d)).toNat < d * 2 ^ (eF n d).toNat)) s := by
    rw [show (-(eF n d)).toNat = (max 0 (0 - eF n d)).toNat by omega, show (eF n d).toNat = (max 0 (eF n d)).toNat by omega]
    exact cmp_lt (mv_op (mv_var rfl) (mv_call (mv_cons mv_c (mv_cons (mv_op mv_c (mv_var rfl) gSub_int) mv_nil)) gMax2) (gShl_s (by omega) (babs nb) (by omega))) (mv_op (mv_var rfl) (mv_call (mv_cons mv_c (mv_cons (mv_var rfl) mv_nil)) gMax2) (gShl_s (by omega) db (by omega))) rfl
  refine mv_seq (s1 := s) (δ1 := [.d (shp p lo hi), .d (.str way), .d (.int n), .d (.int d), .d (.int (sgF n)), .d (.int n.natAbs), .d (.int (qF n d 1)), .u, .u, .u, .u, .d (.int p), .d (.int lo), .d (.int hi)]) ?_ ?_
  · rw [q1]
    unfold pF
    by_cases y : (n.natAbs : Int) * 2 ^ (-(eF n d)).toNat < d * 2 ^ (eF n d).toNat
    · rw [decide_eq_true y] at cmp ⊢
      exact mv_if_t cmp (mv_set (mv_op (mv_var rfl) mv_c gSub_int))
    · rw [decide_eq_false y] at cmp ⊢
      rw [if_neg (by decide), Int.sub_zero]
      exact mv_if_f cmp mv_snil
  refine mv_seq (s1 := s) (δ1 := [.d (shp p lo hi), .d (.str way), .d (.int n), .d (.int d), .d (.int (sgF n)), .d (.int n.natAbs), .d (.int (qF n d 1)), .d (.int (uuF p lo n d 1)), .u, .u, .u, .d (.int p), .d (.int lo), .d (.int hi)]) (mv_set (mv_call (mv_cons (mv_op (mv_op (mv_var rfl) (mv_var rfl) gSub_int) mv_c Mi.gAdd_int) (mv_cons (mv_var rfl) mv_nil)) gMax2)) ?_
  have ct : ctF n d 1 (uuF p lo n d 1) = ovF n 1 (uuF p lo n d 1) / unF d 1 (uuF p lo n d 1) := by
    unfold ctF
    rw [if_pos rfl]
  have wll := w_l (u := uuF p lo n d 1) h
  have up := un_pos (u := uuF p lo n d 1) h
  have oe : ovF n 1 (uuF p lo n d 1) = (n.natAbs : Int) * 2 ^ (max 0 (0 - uuF p lo n d 1)).toNat := by
    unfold ovF shF
    rw [if_pos rfl, show (max (-(uuF p lo n d 1)) 0).toNat = (max 0 (0 - uuF p lo n d 1)).toNat by omega]
  have ue : unF d 1 (uuF p lo n d 1) = d * 2 ^ (max 0 (uuF p lo n d 1)).toNat := by
    unfold unF shF
    rw [if_pos rfl, show (max (uuF p lo n d 1) 0).toNat = (max 0 (uuF p lo n d 1)).toNat by omega]
  have ob : Builtin.Int.intBits (ovF n 1 (uuF p lo n d 1)) ≤ 5200 := by
    rw [oe]
    exact Nat.le_trans (bshl (babs nb)) (by omega)
  have un9 : Builtin.Int.intBits (unF d 1 (uuF p lo n d 1)) ≤ 5000 := by
    rw [ue]
    exact Nat.le_trans (bshl db) (by omega)
  have o0 : 0 ≤ ovF n 1 (uuF p lo n d 1) := by
    unfold ovF
    exact Int.mul_nonneg (by omega) (by have := pow2 (max (-(shF 1 (uuF p lo n d 1))) 0).toNat; omega)
  have so : gI gShlI (.int n.natAbs) (.int (max 0 (0 - uuF p lo n d 1))) = some (.int (ovF n 1 (uuF p lo n d 1))) := by
    rw [oe]
    exact gShl_s (by omega) (babs nb) (by omega)
  have su : gI gShlI (.int d) (.int (max 0 (uuF p lo n d 1))) = some (.int (unF d 1 (uuF p lo n d 1))) := by
    rw [ue]
    exact gShl_s (by omega) db (by omega)
  have ov := ov_iff (way := way) hs h hn
  have cge : ccF way p lo n d 1 ≥ 0 := by
    unfold ccF
    have := ch_ge (way := way) (sg := sgF n) (c := ctF n d 1 (uuF p lo n d 1)) (w := wF n d 1 (uuF p lo n d 1))
    have : 0 ≤ ctF n d 1 (uuF p lo n d 1) := by
      rw [ct]
      exact Int.ediv_nonneg o0 (by omega)
    omega
  unfold rxD
  rw [if_neg hn]
  have ccd : ccF way p lo n d 1 = ctF n d 1 (uuF p lo n d 1) + (if stF way (sgF n) (ctF n d 1 (uuF p lo n d 1) % 2) (wF n d 1 (uuF p lo n d 1)) then 1 else 0) := rfl
  generalize hcc : ccF way p lo n d 1 = cc at *
  generalize uuF p lo n d 1 = u at *
  rw [ct, wll] at ccd
  rw [wll]
  generalize ovF n 1 u = x at *
  generalize unF d 1 u = y at *
  obtain ⟨l0, l1'⟩ := lf_b (x := x) (show 0 < y by omega)
  have lb : Builtin.Int.intBits (lfF x y) ≤ 25001 := Nat.le_trans (bits_mono l0 (Int.le_of_lt l1') un9) (by decide)
  have cb : Builtin.Int.intBits (x / y) ≤ 5200 := bits_div (by omega) ob
  refine mv_seq (s1 := s) (δ1 := [.d (shp p lo hi), .d (.str way), .d (.int n), .d (.int d), .d (.int (sgF n)), .d (.int x), .d (.int (qF n d 1)), .d (.int u), .u, .u, .u, .d (.int p), .d (.int lo), .d (.int hi)]) (mv_set (mv_op (mv_var rfl) (mv_call (mv_cons mv_c (mv_cons (mv_op mv_c (mv_var rfl) gSub_int) mv_nil)) gMax2) so)) ?_
  refine mv_seq (s1 := s) (δ1 := [.d (shp p lo hi), .d (.str way), .d (.int n), .d (.int d), .d (.int (sgF n)), .d (.int x), .d (.int (qF n d 1)), .d (.int u), .d (.int y), .u, .u, .d (.int p), .d (.int lo), .d (.int hi)]) (mv_set (mv_op (mv_var rfl) (mv_call (mv_cons mv_c (mv_cons (mv_var rfl) mv_nil)) gMax2) su)) ?_
  refine mv_seq (s1 := s) (δ1 := [.d (shp p lo hi), .d (.str way), .d (.int n), .d (.int d), .d (.int (sgF n)), .d (.int x), .d (.int (qF n d 1)), .d (.int u), .d (.int y), .d (.int (x / y)), .u, .d (.int p), .d (.int lo), .d (.int hi)]) (mv_set (mv_op (mv_var rfl) (mv_var rfl) (gDiv_mid (by omega) (Nat.le_trans un9 (by decide))))) ?_
  refine mv_seq (s1 := s) (δ1 := [.d (shp p lo hi), .d (.str way), .d (.int n), .d (.int d), .d (.int (sgF n)), .d (.int (lfF x y)), .d (.int (qF n d 1)), .d (.int u), .d (.int y), .d (.int (x / y)), .u, .d (.int p), .d (.int lo), .d (.int hi)]) (mv_set (mv_op (mv_var rfl) (mv_op (mv_var rfl) (mv_var rfl) (gMul_s (by omega))) gSub_int)) ?_
  refine mv_seq (s1 := s) (δ1 := [.d (shp p lo hi), .d (.str way), .d (.int n), .d (.int d), .d (.int (sgF n)), .d (.int (lfF x y)), .d (.int (qF n d 1)), .d (.int u), .d (.int y), .d (.int (x / y)), .d (.int cc), .d (.int p), .d (.int lo), .d (.int hi)]) (mv_set (mv_op (mv_var rfl) (mv_app (mv_cons (mv_var rfl) (mv_cons (mv_var rfl) (mv_cons (mv_var rfl) (mv_cons (mv_var rfl) (mv_cons (mv_var rfl) mv_nil))))) (lstep_ok hw sg l0 l1' lb) rfl) (by rw [ccd]; exact Mi.gAdd_int))) ?_
  have tst : tCmp gGe (eVar 10) (eOp (gI gShlI) (eC (.int 1)) (eCall gMax (aCons (eC (.int 0)) (aCons (eOp (gI gSubI) (eOp gAdd (eVar 13) (eVar 11)) (eVar 7)) aNil)))) [.d (shp p lo hi), .d (.str way), .d (.int n), .d (.int d), .d (.int (sgF n)), .d (.int (lfF x y)), .d (.int (qF n d 1)), .d (.int u), .d (.int y), .d (.int (x / y)), .d (.int cc), .d (.int p), .d (.int lo), .d (.int hi)] s = .ok (decide (hi + p < (Builtin.Int.intBits cc : Int) + u)) s := by
    refine cmp_ge (mv_var rfl) (mv_op mv_c (mv_call (mv_cons mv_c (mv_cons (mv_op (mv_op (mv_var rfl) (mv_var rfl) Mi.gAdd_int) (mv_var rfl) gSub_int) mv_nil)) gMax2) (gShl_s (n := 1) (by omega) (by decide +kernel) (by omega))) ?_
    rw [Int.one_mul]
    have le := PySem.intBits_le_iff (x := cc) (m := (max 0 (hi + p - u)).toNat)
    have pp := pow2 (max 0 (hi + p - u)).toNat
    have pc : ((2 ^ (max 0 (hi + p - u)).toNat : Nat) : Int) = (2 : Int) ^ (max 0 (hi + p - u)).toNat := by push_cast; rfl
    refine decide_eq_decide.mpr ?_
    by_cases m : 0 ≤ hi + p - u
    · constructor
      · intro a
        rcases Nat.lt_or_ge (max 0 (hi + p - u)).toNat (Builtin.Int.intBits cc) with b | b
        · omega
        · have := le.mp b
          omega
      · intro a
        rcases (show cc < 2 ^ (max 0 (hi + p - u)).toNat ∨ 2 ^ (max 0 (hi + p - u)).toNat ≤ cc by omega) with b | b
        · have := le.mpr (by omega)
          omega
        · exact b
    · have r : hi + p < (Builtin.Int.intBits cc : Int) + u := by omega
      rw [decide_eq_true r] at ov
      have := (Bool.and_eq_true _ _ ▸ ov).1
      have := of_decide_eq_true this
      rw [show (max 0 (hi + p - u)).toNat = 0 by omega, Int.pow_zero]
      exact ⟨fun _ => r, fun _ => by omega⟩
  by_cases o : hi + p < (Builtin.Int.intBits cc : Int) + u
  · rw [if_pos o]
    refine mv_seq_rt (mv_if_tb tst (decide_eq_true o) ?_)
    have pick : ∀ {s : S}, eOp gIx (eLst (aCons (eC (.str "down")) (aCons (eC (.str "up")) aNil))) (eVar 4) [.d (shp p lo hi), .d (.str way), .d (.int n), .d (.int d), .d (.int (sgF n)), .d (.int (lfF x y)), .d (.int (qF n d 1)), .d (.int u), .d (.int y), .d (.int (x / y)), .d (.int cc), .d (.int p), .d (.int lo), .d (.int hi)] s = .ok (.str (iwS (sgF n))) s := fun {s} => mv_op (mv_lst (mv_cons mv_c (mv_cons mv_c mv_nil)) (show 2 ≤ 100000 by decide)) (mv_var rfl) (by
      rcases sg with e | e <;> rw [e] <;> rfl)
    have c : tCmp gIn (eVar 1) (eTup (aCons (eC (.str "zero")) (aCons (eC (.str "odd")) (aCons (eOp gIx (eLst (aCons (eC (.str "down")) (aCons (eC (.str "up")) aNil))) (eVar 4)) aNil)))) [.d (shp p lo hi), .d (.str way), .d (.int n), .d (.int d), .d (.int (sgF n)), .d (.int (lfF x y)), .d (.int (qF n d 1)), .d (.int u), .d (.int y), .d (.int (x / y)), .d (.int cc), .d (.int p), .d (.int lo), .d (.int hi)] s = .ok (inB way (sgF n)) s := mv_cmp (mv_var rfl) (t3 mv_c mv_c pick) (in_ok hw sg)
    unfold ovD bigD
    cases e : inB way (sgF n) with
    | true =>
      rw [if_pos rfl]
      have od : odD (sgF n) (1 * 2 ^ p.toNat - 1) hi = ex (sgF n) (1 * 2 ^ p.toNat - 1) hi := by
        have pp := pow2 (p.toNat - 1)
        have pe : (2 : Int) ^ p.toNat = 2 ^ (p.toNat - 1) * 2 := by
          rw [← Int.pow_succ]
          congr 1
          omega
        have tz : tzF (1 * 2 ^ p.toNat - 1) = (0 : Nat) := tz_eq (a := 2 ^ (p.toNat - 1) - 1) (by rw [Int.pow_zero, Int.one_mul, Int.one_mul]; omega)
        unfold odD
        rw [if_neg (by omega), tz]
        show ex _ ((1 * 2 ^ p.toNat - 1) / 2 ^ 0) (hi + 0) = _
        rw [Int.pow_zero, Int.ediv_one, Int.add_zero]
      rw [← od]
      exact mv_seq_rt (mv_if_tb c e (mv_ret (t2 (mv_app (mv_cons (mv_var rfl) (mv_cons (top_e rfl (by omega) p140) (mv_cons (mv_var rfl) mv_nil))) lodd_ok rfl) (t2 mv_c mv_c))))
    | false =>
      rw [if_neg (by decide)]
      exact mv_seq (mv_if_fb c e mv_snil) (mv_ret (t2 (t3 (mv_var rfl) (mv_un mv_c gNeg_int) mv_c) (t2 mv_c mv_c)))
  rw [if_neg o]
  refine mv_seq (s1 := s) (δ1 := [.d (shp p lo hi), .d (.str way), .d (.int n), .d (.int d), .d (.int (sgF n)), .d (.int (lfF x y)), .d (.int (qF n d 1)), .d (.int u), .d (.int y), .d (.int (x / y)), .d (.int cc), .d (.int p), .d (.int lo), .d (.int hi)]) (mv_if_fb tst (decide_eq_false o) mv_snil) ?_
  have oo : ∀ {s : S}, eApp 3 [] m__law_odd (aCons (eVar 4) (aCons (eVar 10) (aCons (eVar 7) aNil))) [.d (shp p lo hi), .d (.str way), .d (.int n), .d (.int d), .d (.int (sgF n)), .d (.int (lfF x y)), .d (.int (qF n d 1)), .d (.int u), .d (.int y), .d (.int (x / y)), .d (.int cc), .d (.int p), .d (.int lo), .d (.int hi)] s = .ok (odD (sgF n) cc u) s := fun {s} => mv_app (mv_cons (mv_var rfl) (mv_cons (mv_var rfl) (mv_cons (mv_var rfl) mv_nil))) lodd_ok rfl
  have w0 : wl (lfF x y) y = 0 ↔ lfF x y = 0 := by
    unfold wl
    repeat' split
    all_goals omega
  unfold toD
  by_cases z : lfF x y = 0
  · rw [if_pos (w0.mpr z)]
    exact mv_seq_rt (mv_if_t (cmp_eq (mv_var rfl) mv_c (decide_eq_true z)) (mv_ret (t2 oo nl)))
  rw [if_neg (fun h => z (w0.mp h))]
  refine mv_seq (s1 := s) (δ1 := [.d (shp p lo hi), .d (.str way), .d (.int n), .d (.int d), .d (.int (sgF n)), .d (.int (lfF x y)), .d (.int (qF n d 1)), .d (.int u), .d (.int y), .d (.int (x / y)), .d (.int cc), .d (.int p), .d (.int lo), .d (.int hi)]) (mv_if_f (cmp_eq (mv_var rfl) mv_c (decide_eq_false z)) mv_snil) ?_
  have tt : tCmp gLt (eVar 6) (eOp (gI gSubI) (eOp gAdd (eVar 12) (eVar 11)) (eC (.int 1))) [.d (shp p lo hi), .d (.str way), .d (.int n), .d (.int d), .d (.int (sgF n)), .d (.int (lfF x y)), .d (.int (qF n d 1)), .d (.int u), .d (.int y), .d (.int (x / y)), .d (.int cc), .d (.int p), .d (.int lo), .d (.int hi)] s = .ok (decide (qF n d 1 < lo + p - 1)) s := cmp_lt (mv_var rfl) (mv_op (mv_op (mv_var rfl) (mv_var rfl) Mi.gAdd_int) mv_c gSub_int) rfl
  by_cases t : qF n d 1 < lo + p - 1
  · rw [decide_eq_true t] at tt ⊢
    exact mv_seq_rt (mv_if_t tt (mv_ret (t2 oo (t2 mv_c mv_c))))
  · rw [decide_eq_false t] at tt ⊢
    exact mv_seq (mv_if_f tt mv_snil) (mv_ret (t2 oo (mv_tup (mv_cons mv_c mv_nil) (by decide))))
end A38
namespace A38
open PySem PySem.Spec PyProof.Rows L2 Mi
theorem isex_int {n d k : Int} {s : S} : m_is_exact [ex n d k] s = .ok (.bl (exB n d k)) s := by
  unfold m_is_exact G_is_exact
  apply mv_fn
  refine mv_seq (mv_if_f (mv_not (b := true) (mv_tru (x := .bl true) (mv_app (mv_cons (mv_var rfl) (mv_cons mv_c mv_nil)) (are_ok (l := [.int n, .int d, .int k]) (m := 3) (by intro d hd; simp only [List.mem_cons, List.not_mem_nil, or_false] at hd; rcases hd with rfl | rfl | rfl <;> rfl) (show 3 ≤ 1000 by decide)) rfl) rfl)) mv_snil) ?_
  apply Wp.eq
  unfold exB
  walk_at "own wgo"
  refine ⟨fun h => ?_, fun h => ?_⟩
  · have h := of_decide_eq_true h
    rw [if_pos (.inl h)]
    refine ⟨fun _ => ?_, fun z => nomatch z⟩
    walk_at "own wgo"
    exact ⟨rfl, rfl⟩
  have h1 := of_decide_eq_false h
  walk_at "own wgo"
  refine ⟨fun h => ?_, fun h => ?_⟩
  · have h := of_decide_eq_true h
    rw [if_pos (.inr (.inl h))]
    refine ⟨fun _ => ?_, fun z => nomatch z⟩
    walk_at "own wgo"
    exact ⟨rfl, rfl⟩
  have h2 := of_decide_eq_false h
  walk_at "own wgo"
  refine ⟨fun h => ?_, fun h => ?_⟩
  · have h := of_decide_eq_true h
    rw [if_pos (.inr (.inr (.inl h)))]
    refine ⟨fun _ => ?_, fun z => nomatch z⟩
    walk_at "own wgo"
    exact ⟨rfl, rfl⟩
  have h3 := of_decide_eq_false h
  have fin : ¬ (k = 2 ∧ n < 0) → Wp (eAnd (eOp gLe (eUn gBits (eVar 1)) (eC d_EXACT_BITS)) (eOp gLe (eUn gBits (eVar 2)) (eC d_EXACT_BITS)) [.d (ex n d k), .d (.int n), .d (.int d), .d (.int k)] s) fun d' s1 => Fl.rt d' = .rt (.bl (if d < 1 ∨ k < 1 ∨ 2 < k ∨ (k = 2 ∧ n < 0) then false else (decide (Builtin.Int.intBits n ≤ 12000) && decide (Builtin.Int.intBits d ≤ 12000)))) ∧ s1 = s := fun h4 => by
    rw [if_neg (by omega)]
    apply wp_eand
    walk_at "own wgo"
    refine ⟨_, rfl, fun h => ?_, fun h => ?_⟩
    · have h := of_decide_eq_false h
      have hn : decide (Builtin.Int.intBits n ≤ 12000) = false := decide_eq_false (by omega)
      rw [hn]
      exact ⟨rfl, rfl⟩
    · have h := of_decide_eq_true h
      have hn : decide (Builtin.Int.intBits n ≤ 12000) = true := decide_eq_true (by omega)
      rw [hn]
      walk_at "own wgo"
      refine ⟨?_, rfl⟩
      rw [Bool.true_and]
      congr 2
      exact decide_eq_decide.mpr (by omega)
  walk_at "own wgo"
  refine ⟨fun h => ?_, fun h => ?_⟩
  · refine ⟨fun z => (nomatch z), fun _ => ?_⟩
    walk_at "own wgo"
    exact fin fun z => of_decide_eq_false h z.1
  have h4 := of_decide_eq_true h
  walk_at "own wgo"
  refine ⟨fun h => ?_, fun h => ?_⟩
  · have h := of_decide_eq_true h
    rw [if_pos (.inr (.inr (.inr ⟨h4, h⟩)))]
    walk_at "own wgo"
    exact ⟨rfl, rfl⟩
  walk_at "own wgo"
  exact fin fun z => of_decide_eq_false h z.2
theorem chk_ok {n d k : Int} {s : S} (h : Ex n d k) : m_check_exact [ex n d k] s = .ok .non s := by
  unfold m_check_exact G_check_exact
  refine mv_fn_nx (mv_if_f (mv_not (b := true) (mv_tru (x := .bl true) (mv_app (mv_cons (mv_var rfl) mv_nil) ?_ rfl) rfl)) mv_snil)
  rw [← h.b]
  exact isex_int
theorem cc_in {v lo hi : Int} {s : S} (h : lo ≤ v) (h2 : v ≤ hi) : m_check_count [.int v, .int lo, .int hi] s = .ok .non s := by
  unfold m_check_count G_check_count
  have a : tCmp gLt (eVar 0) (eVar 1) [.d (.int v), .d (.int lo), .d (.int hi)] s = .ok false s := mv_cmp (mv_var rfl) (mv_var rfl) (by rw [Mi.gLt_int, decide_eq_false (by omega)])
  have b : tCmp gGt (eVar 0) (eVar 2) [.d (.int v), .d (.int lo), .d (.int hi)] s = .ok false s := mv_cmp (mv_var rfl) (mv_var rfl) (by rw [Mi.gGt_int, decide_eq_false (by omega)])
  exact mv_fn_nx (mv_seq (mv_if_f (mv_not (b := true) (mv_tru (x := .bl true) (mv_app (mv_cons (mv_var rfl) mv_nil) (isint_ok rfl) rfl) rfl)) mv_snil) (mv_seq (mv_if_f (mv_and_t (mv_cmp (mv_var rfl) mv_c (b := true) rfl) a) mv_snil) (mv_if_f (mv_and_t (mv_cmp (mv_var rfl) mv_c (b := true) rfl) b) mv_snil)))
/-! ### the place of the quotient -/
theorem wl_same {l r l' r' : Int} (hr : 0 < r) (hr' : 0 < r') (e : l' * r = l * r') : wl l' r' = wl l r := by
  have a : 2 * l' < r' ↔ 2 * l < r := by
    have h1 : 2 * l' < r' ↔ 2 * l' * r < r' * r := (Int.mul_lt_mul_right hr).symm
    have h2 : 2 * l < r ↔ 2 * l * r' < r * r' := (Int.mul_lt_mul_right hr').symm
    rw [h1, h2, Int.mul_assoc, e, ← Int.mul_assoc, Int.mul_comm r' r]
  have b : r' < 2 * l' ↔ r < 2 * l := by
    have h1 : r' < 2 * l' ↔ r' * r < 2 * l' * r := (Int.mul_lt_mul_right hr).symm
    have h2 : r < 2 * l ↔ r * r' < 2 * l * r' := (Int.mul_lt_mul_right hr').symm
    rw [h1, h2, Int.mul_assoc 2 l' r, e, ← Int.mul_assoc, Int.mul_comm r' r]
  have c : 0 < l' ↔ 0 < l := by
    have h1 : 0 < l' ↔ 0 * r < l' * r := (Int.mul_lt_mul_right hr).symm
    have h2 : 0 < l ↔ 0 * r' < l * r' := (Int.mul_lt_mul_right hr').symm
    rw [h1, h2, e, Int.zero_mul, Int.zero_mul]
  unfold wl
  simp only [a, b, c]
theorem sh0 : ShB 1 0 := by unfold ShB; decide
theorem qplace_ok {a1 b1 c1 a2 b2 c2 : Int} {s : S} (h1 : Nu a1 b1 c1) (h2 : Nu a2 b2 c2) (p1 : 0 ≤ b1) (p2 : 0 < b2) : m_place [ex (qN a1 b1 c1 a2 b2 c2) (qD a1 b1 c1 a2 b2 c2) 1, .int 0] s = .ok (.tup [.int (rX b1 c1 c2 / rY b2 c1 c2), .int (wl (lfF (rX b1 c1 c2) (rY b2 c1 c2)) (rY b2 c1 c2))]) s := by
  obtain ⟨x, rel⟩ := q_ex h1 h2 p1 p2
  obtain ⟨_, y0, _, _, _, _⟩ := two0_of h1 h2 p1 p2
  generalize qN a1 b1 c1 a2 b2 c2 = N at *
  generalize qD a1 b1 c1 a2 b2 c2 = D at *
  generalize rX b1 c1 c2 = X at *
  generalize rY b2 c1 c2 = Y at *
  have d1 := x.d1
  have ov : ovF N 1 0 = N.natAbs := by
    unfold ovF shF
    rw [if_pos rfl]
    exact Int.mul_one _
  have un : unF D 1 0 = D := by
    unfold unF shF
    rw [if_pos rfl]
    exact Int.mul_one _
  have dv : (N.natAbs : Int) / D = X / Y := same_div (by omega) y0 rel
  have e1 : ctF N D 1 0 = X / Y := by
    unfold ctF
    rw [if_pos rfl, ov, un, dv]
  have e2 : wF N D 1 0 = wl (lfF X Y) Y := by
    rw [w_l x, ov, un]
    refine wl_same y0 (by omega) ?_
    unfold lfF
    rw [dv, Int.sub_mul, Int.sub_mul, rel]
    congr 1
    ac_rfl
  have pl := place_of_ok (s := s) x sh0
  rw [e1, e2] at pl
  unfold m_place G_place
  exact mv_fn (mv_seq (mv_expr (mv_app (mv_cons (mv_var rfl) mv_nil) (chk_ok x) rfl)) (mv_seq (mv_expr (mv_app (mv_cons (mv_var rfl) (mv_cons (mv_un mv_c gNeg_int) (mv_cons mv_c mv_nil))) (cc_in (by decide) (by decide)) rfl)) (mv_ret (mv_app (mv_cons (mv_var rfl) (mv_cons (mv_var rfl) mv_nil)) pl rfl))))
/-! ### the multiple taken away -/
def tuF (x y : Int) : Int := x / y + (if phF x y = true then 1 else 0)
theorem ls_tu {x y : Int} : lsF true x y = x - tuF x y * y := by
  unfold lsF tuF lfF
  rw [Bool.true_and]
  split
  · rw [Int.add_mul, Int.one_mul]
    omega
  · rw [Int.add_zero]
theorem spN_e {a b : Int} (h : a = 0 ∨ a = 1) : spN a b = (1 - 2 * a) * b := by
  unfold spN
  rcases h with rfl | rfl
  · rw [if_neg (by decide)]
    omega
  · rw [if_pos rfl]
    omega
/-- the exact sum and the rest are the same value -/
theorem sum_rest {a1 b1 c1 a2 b2 c2 h0 tb tc : Int} (s1 : a1 = 0 ∨ a1 = 1) (hx : xr h0 a2 = 1 - a1) (tc0 : 0 ≤ tc) (ht : tb * 2 ^ tc.toNat = tuF (rX b1 c1 c2) (rY b2 c1 c2)) :
    rpF true a1 (rX b1 c1 c2) (rY b2 c1 c2) = smF (xr h0 a2) (tb * b2) (tc + c2) a1 b1 c1 * 2 ^ (min (tc + c2) c1 - min c1 c2).toNat := by
  unfold rpF smF
  rw [ls_tu, ← ht, hx, spN_e (show 1 - a1 = 0 ∨ 1 - a1 = 1 by omega), spN_e s1, Int.add_mul, Int.mul_assoc _ (2 ^ (tc + c2 - min (tc + c2) c1).toNat), ← Int.pow_add, Int.mul_assoc _ (2 ^ (c1 - min (tc + c2) c1).toNat), ← Int.pow_add,
    show (tc + c2 - min (tc + c2) c1).toNat + (min (tc + c2) c1 - min c1 c2).toNat = tc.toNat + (c2 - min c1 c2).toNat by omega, show (c1 - min (tc + c2) c1).toNat + (min (tc + c2) c1 - min c1 c2).toNat = (c1 - min c1 c2).toNat by omega, Int.pow_add]
  unfold rX rY
  rw [show 1 - 2 * (1 - a1) = -(1 - 2 * a1) by omega, Int.mul_sub, show tb * 2 ^ tc.toNat * (b2 * 2 ^ (c2 - min c1 c2).toNat) = tb * b2 * (2 ^ tc.toNat * 2 ^ (c2 - min c1 c2).toNat) by ac_rfl, Int.neg_mul, Int.neg_mul, Int.mul_assoc (1 - 2 * a1) b1, Int.mul_assoc (1 - 2 * a1) (tb * b2)]
  omega
def toldD (way : PySem.Str) (p lo hi n base t : Int) : D := if n = 0 then .tup [ex (if decide (way = "down") = true then 1 else 0) 0 0, .tup []] else rxD way p lo hi (n * 2 ^ (max 0 base).toNat) (1 * 2 ^ (max 0 (0 - base)).toNat) 1 t
theorem rat_ok {way : PySem.Str} {p lo hi n base t : Int} {s : S} (hw : way ∈ ways) (hs : Shp p lo hi) (hn : n ≠ 0) (nb : Builtin.Int.intBits n ≤ 600) (q0 : -2000 ≤ base) (q1 : base ≤ 2000) : Ex (n * 2 ^ (max 0 base).toNat) (1 * 2 ^ (max 0 (0 - base)).toNat) 1 ∧ m__law_rounded_at [shp p lo hi, .str way, .int n, .int base] s = .ok (rxD way p lo hi (n * 2 ^ (max 0 base).toNat) (1 * 2 ^ (max 0 (0 - base)).toNat) 1 t) s := by
  have n1 : Builtin.Int.intBits (n * 2 ^ (max 0 base).toNat) ≤ 2700 := Nat.le_trans (bshl nb) (by omega)
  have d1 : Builtin.Int.intBits (1 * 2 ^ (max 0 (0 - base)).toNat) ≤ 2100 := Nat.le_trans (bshl (m := 1) (by decide +kernel)) (by omega)
  have pd := pow2 (max 0 (0 - base)).toNat
  have pn := pow2 (max 0 base).toNat
  have x : Ex (n * 2 ^ (max 0 base).toNat) (1 * 2 ^ (max 0 (0 - base)).toNat) 1 := ⟨by omega, .inl rfl, fun e => (by cases e), Nat.le_trans n1 (by decide), Nat.le_trans d1 (by decide)⟩
  have nz : n * 2 ^ (max 0 base).toNat ≠ 0 := fun h => by
    rcases Int.mul_eq_zero.mp h with h | h <;> omega
  refine ⟨x, ?_⟩
  unfold m__law_rounded_at G__law_rounded_at
  exact mv_fn (mv_ret (mv_app (mv_cons (mv_var rfl) (mv_cons (mv_var rfl) (mv_cons (mv_op (mv_var rfl) (mv_call (mv_cons mv_c (mv_cons (mv_var rfl) mv_nil)) gMax2) (gShl_s (by omega) nb (by omega))) (mv_cons (mv_op mv_c (mv_call (mv_cons mv_c (mv_cons (mv_op mv_c (mv_var rfl) gSub_int) mv_nil)) gMax2) (gShl_s (n := 1) (by omega) (by decide +kernel) (by omega))) mv_nil)))) (lround_ok hw hs x nz n1 d1) rfl))
theorem ma_told {way : PySem.Str} {p lo hi a1 b1 c1 a2 b2 c2 h0 tb tc t : Int} (hh : Nu h0 tb tc) (h1 : Nu a1 b1 c1) (h2 : Nu a2 b2 c2) (t0 : 0 ≤ tb) (p1 : 0 < b1) (p2 : 0 < b2) (tc0 : 0 ≤ tc) (hx : xr h0 a2 = 1 - a1) (ht : tb * 2 ^ tc.toNat = tuF (rX b1 c1 c2) (rY b2 c1 c2))
    (hex : rpF true a1 (rX b1 c1 c2) (rY b2 c1 c2) ≠ 0 → Ex (rpF true a1 (rX b1 c1 c2) (rY b2 c1 c2) * 2 ^ (max 0 (min c1 c2)).toNat) (1 * 2 ^ (max 0 (0 - min c1 c2)).toNat) 1) :
    maD way p lo hi h0 tb tc a2 b2 c2 a1 b1 c1 = toldD way p lo hi (rpF true a1 (rX b1 c1 c2) (rY b2 c1 c2)) (min c1 c2) t := by
  have sr := sum_rest (a2 := a2) (h0 := h0) h1.s hx tc0 ht
  have sx := sm_ex (pp_pt hh h2) h1.pt
  unfold maD toldD
  rw [if_neg (by omega), if_neg (by omega), if_neg (by omega)]
  unfold rsD
  have pu := pow2 (min (tc + c2) c1 - min c1 c2).toNat
  have ub : min c1 c2 ≤ min (tc + c2) c1 := by omega
  generalize rpF true a1 (rX b1 c1 c2) (rY b2 c1 c2) = n at *
  generalize smF (xr h0 a2) (tb * b2) (tc + c2) a1 b1 c1 = m at *
  generalize min (tc + c2) c1 = u at *
  generalize min c1 c2 = v at *
  by_cases z : n = 0
  · rw [if_pos z]
    have m0 : m = 0 := by
      rw [z] at sr
      rcases Int.mul_eq_zero.mp sr.symm with h | h
      · exact h
      · omega
    unfold rxD
    rw [if_pos (dn_sg.2.mpr m0)]
    unfold zsF
    rw [decide_eq_false (show ¬ b1 = 0 by omega), Bool.and_false, if_neg (by rintro ⟨h, _⟩; cases h)]
    by_cases w : way = "down"
    · rw [if_pos w, decide_eq_true w]
      rfl
    · rw [if_neg w, decide_eq_false w]
      rfl
  · rw [if_neg z]
    have m0 : m ≠ 0 := fun h => z (by rw [sr, h, Int.zero_mul])
    have pv := pow2 (max 0 v).toNat
    have pw := pow2 (max 0 (0 - v)).toNat
    have nz : n * 2 ^ (max 0 v).toNat ≠ 0 := fun h => by
      rcases Int.mul_eq_zero.mp h with h | h <;> omega
    have pos : ∀ {a k : Int}, 1 ≤ k → sgF (a * k) = sgF a := fun {a k} hk => by
      unfold sgF
      by_cases y : a < 0
      · rw [decide_eq_true y, decide_eq_true (Int.mul_neg_of_neg_of_pos y (by omega))]
      · rw [decide_eq_false y, decide_eq_false (by have := Int.mul_nonneg (show 0 ≤ a by omega) (show 0 ≤ k by omega); omega)]
    refine rx_same sx (hex z) (fun h => m0 (dn_sg.2.mp h)) nz ?_ ?_
    · have rel := dn_rel (q := u) m0
      have na : ((n * 2 ^ (max 0 v).toNat).natAbs : Int) = (m.natAbs : Int) * 2 ^ ((u - v).toNat + (max 0 v).toNat) := by
        rw [sr, Int.mul_assoc, ← Int.pow_add, Int.natAbs_mul, Int.natCast_mul]
        have := pow2 ((u - v).toNat + (max 0 v).toNat)
        rw [show (((2 : Int) ^ ((u - v).toNat + (max 0 v).toNat)).natAbs : Int) = 2 ^ ((u - v).toNat + (max 0 v).toNat) by omega]
      rw [na]
      have pq := pow2 (-u).toNat
      refine Int.eq_of_mul_eq_mul_right (a := 2 ^ (-u).toNat) (by omega) ?_
      have l : ((dnF m u).natAbs : Int) * (1 * 2 ^ (max 0 (0 - v)).toNat) * 2 ^ (-u).toNat = ((dnF m u).natAbs : Int) * 2 ^ (-u).toNat * 2 ^ (max 0 (0 - v)).toNat := by rw [Int.one_mul]; ac_rfl
      rw [l, rel]
      have e1 : (m.natAbs : Int) * 2 ^ u.toNat * ddF m u * 2 ^ (max 0 (0 - v)).toNat = (m.natAbs : Int) * ddF m u * 2 ^ (u.toNat + (max 0 (0 - v)).toNat) := by rw [Int.pow_add]; ac_rfl
      have e2 : (m.natAbs : Int) * 2 ^ ((u - v).toNat + (max 0 v).toNat) * ddF m u * 2 ^ (-u).toNat = (m.natAbs : Int) * ddF m u * 2 ^ ((u - v).toNat + (max 0 v).toNat + (-u).toNat) := by rw [Int.pow_add _ ((u - v).toNat + (max 0 v).toNat) (-u).toNat]; ac_rfl
      rw [e1, e2]
      congr 2
      omega
    · rw [pos pv, dn_sg.1, sr, pos pu]
/-! ### the road -/
noncomputable def roadTail : FS := (sSeq (sSet 8 (eApp 3 [] m__law_odd (aCons (eOp (gI gSubI) (eC (.int 1)) (eCall gInt (aCons (eOp gNe (eOp gIx (eVar 1) (eC (.int 0))) (eOp gIx (eVar 2) (eC (.int 0)))) aNil))) (aCons (eVar 7) (aCons (eC (.int 0)) aNil))))) (sSeq (sTgt (eApp 3 [] m__law_rest_pair (aCons (eVar 1) (aCons (eVar 2) (aCons (eC (.bl false)) aNil)))) (nTup 2 (nCons (nName 14) (nCons (nName 13) nNil)))) (sSeq (sSet 9 (eTup (aCons (eTup (aCons (eCall gInt (aCons (eOp gEq (eVar 4) (eC (.str "down"))) aNil)) (aCons (eC (.int 0)) (aCons (eC (.int 0)) aNil)))) (aCons (eTup aNil) aNil)))) (sSeq (sIf (tCmp gNe (eVar 14) (eC (.int 0))) (sSet 9 (eApp 4 [] m__law_rounded_at (aCons (eVar 3) (aCons (eVar 4) (aCons (eVar 14) (aCons (eVar 13) aNil)))))) sNil) (sRet (eLam 2 [] m__law_asked (eAppN 5 4 1 [] [] m_muladd (aCons (eVar 3) (aCons (eVar 8) (aCons (eVar 2) (aCons (eVar 1) aNil)))) (aCons (eVar 4) aNil)) (aCons (eVar 9) aNil)))))))
noncomputable def roadRest : FS := (sSeq (sIf (tOr (tCmp gLt (eOp gIx (eVar 1) (eC (.int 1))) (eC (.int 0))) (tCmp gLt (eOp gIx (eVar 2) (eC (.int 1))) (eC (.int 1)))) (sRet (eLam 2 [] m__law_refused (eApp 2 [] m_exact_quotient (aCons (eVar 1) (aCons (eVar 2) aNil))) (aCons (eC (.str "BadNumber")) aNil))) sNil) (sSeq (sSet 5 (eApp 2 [] m__law_quotient (aCons (eVar 1) (aCons (eVar 2) aNil)))) (sSeq (sIf (tNot (tTru (eLam 2 [] m__law_asked (eApp 2 [] m_exact_quotient (aCons (eVar 1) (aCons (eVar 2) aNil))) (aCons (eVar 5) aNil)))) (sRet (eC (.bl false))) sNil) (sSeq (sTgt (eApp 2 [] m__law_division (aCons (eVar 1) (aCons (eVar 2) aNil))) (nTup 4 (nCons (nName 10) (nCons (nName 11) (nCons (nName 12) (nCons (nName 13) nNil)))))) (sSeq (sSet 6 (eOp gAdd (eOp gAdd (eCall gInt (aCons (eOp gGt (eVar 11) (eC (.int 0))) aNil)) (eCall gInt (aCons (eOp gGe (eOp (gI gMulI) (eC (.int 2)) (eVar 11)) (eVar 12)) aNil))) (eCall gInt (aCons (eOp gGt (eOp (gI gMulI) (eC (.int 2)) (eVar 11)) (eVar 12)) aNil)))) (sSeq (sIf (tNot (tTru (eLam 2 [] m__law_asked (eApp 2 [] m_place (aCons (eVar 5) (aCons (eC (.int 0)) aNil))) (aCons (eTup (aCons (eVar 10) (aCons (eVar 6) aNil))) aNil)))) (sRet (eC (.bl false))) sNil) (sSeq (sSet 7 (eOp gAdd (eVar 10) (eCall gInt (aCons (eOr (eOp gEq (eVar 6) (eC (.int 3))) (eAnd (eOp gEq (eVar 6) (eC (.int 2))) (eOp gEq (eOp (gI gModI) (eCall gInt (aCons (eVar 10) aNil)) (eC (.int 2))) (eC (.int 1))))) aNil)))) (sSeq (sIf (tOr (tCmp gEq (eOp gIx (eVar 1) (eC (.int 1))) (eC (.int 0))) (tCmp gGe (eVar 7) (eOp (gI gShlI) (eC (.int 1)) (eC (.int 600))))) (sRet (eC (.bl true))) sNil) roadTail))))))))
theorem told_pl' {way : PySem.Str} {p lo hi n base t : Int} : plain 7 (toldD way p lo hi n base t) = true ∧ noT (toldD way p lo hi n base t) = true := by
  unfold toldD
  split
  · exact ⟨by simp [plain, plains], rfl⟩
  · exact told_pl (rx_cases _ _ _ _ _ _ _ _)
theorem roadTail_ok {p lo hi a1 b1 c1 a2 b2 c2 : Int} {way : PySem.Str} {x5 x6 x11 x12 : SV} {s : S} (hw : way ∈ ways) (hs : Shp p lo hi) (h1 : Nu a1 b1 c1) (h2 : Nu a2 b2 c2) (p1 : 0 < b1) (p2 : 0 < b2) (tb : Builtin.Int.intBits (tuF (rX b1 c1 c2) (rY b2 c1 c2)) ≤ 600) {x0 x10 : SV} :
    roadTail [x0, .d (ex a1 b1 c1), .d (ex a2 b2 c2), .d (shp p lo hi), .d (.str way), x5, x6, .d (.int (tuF (rX b1 c1 c2) (rY b2 c1 c2))), .u, .u, x10, x11, x12, .d (.int (min c1 c2)), .u] s = .ok (.rt (.bl true)) s := by
  have k0 := h1.c0
  have k1 := h1.c1
  have k2 := h2.c0
  have k3 := h2.c1
  have s1 := h1.s
  have s2 := h2.s
  have rp := fun s => lrp_ok (near := true) (s := s) h1 h2 (Int.le_of_lt p1) p2
  have t := two_of h1 h2 p1 p2
  have y0 := t.y0
  have x0' := t.x0
  obtain ⟨f0, fb⟩ := fr_m (near := true) t.x0 t.y0 t.one
  have tu0 : 0 ≤ tuF (rX b1 c1 c2) (rY b2 c1 c2) := by
    have := Int.ediv_nonneg (Int.le_of_lt x0') (Int.le_of_lt y0)
    unfold tuF
    split <;> omega
  have h0s : (1 - (if decide (a1 ≠ a2) = true then (1 : Int) else 0)) = 0 ∨ (1 - (if decide (a1 ≠ a2) = true then (1 : Int) else 0)) = 1 := by split <;> omega
  have hx : xr (1 - (if decide (a1 ≠ a2) = true then (1 : Int) else 0)) a2 = 1 - a1 := by
    unfold xr
    by_cases e : a1 = a2
    · rw [decide_eq_false (fun h => h e)]
      rw [if_neg (show ¬ false = true by decide)]
      split <;> omega
    · rw [decide_eq_true e, if_pos rfl]
      split <;> omega
  obtain ⟨n1, _⟩ := od_nu (q := 0) h0s tu0 tb (by decide) (by decide)
  have oc : 0 ≤ odC (tuF (rX b1 c1 c2) (rY b2 c1 c2)) 0 ∧ odC (tuF (rX b1 c1 c2) (rY b2 c1 c2)) 0 ≤ 2000 ∧ 0 ≤ odB (tuF (rX b1 c1 c2) (rY b2 c1 c2)) ∧ odB (tuF (rX b1 c1 c2) (rY b2 c1 c2)) * 2 ^ (odC (tuF (rX b1 c1 c2) (rY b2 c1 c2)) 0).toNat = tuF (rX b1 c1 c2) (rY b2 c1 c2) := by
    generalize tuF (rX b1 c1 c2) (rY b2 c1 c2) = T at *
    unfold odC odB
    by_cases z : T = 0
    · rw [if_pos z, if_pos z, z]
      exact ⟨by decide, by decide, by decide, rfl⟩
    · rw [if_neg z, if_neg z]
      obtain ⟨k, o, e1, e2, e3, e4, e5⟩ := parts z
      rw [e2, e1]
      refine ⟨by omega, by omega, ?_, ?_⟩
      · rw [← e2]
        exact Int.ediv_nonneg tu0 (by have := pow2 (tzF T).toNat; omega)
      · rw [show ((0 : Int) + (k : Int)).toNat = k by omega]
        exact e3.symm
  obtain ⟨oc0, oc1, ob0, oe⟩ := oc
  have hh := n1 oc1
  have nat_ : ((rpF true a1 (rX b1 c1 c2) (rY b2 c1 c2)).natAbs : Int) = frM true (rX b1 c1 c2) (rY b2 c1 c2) := by
    obtain ⟨l0, l1⟩ := lf_b (x := rX b1 c1 c2) y0
    unfold rpF lsF frM
    by_cases q : (true && phF (rX b1 c1 c2) (rY b2 c1 c2)) = true
    · rw [if_pos q, if_pos q]
      rcases s1 with rfl | rfl <;> omega
    · rw [if_neg q, if_neg q]
      rcases s1 with rfl | rfl <;> omega
  have rb : Builtin.Int.intBits (rpF true a1 (rX b1 c1 c2) (rY b2 c1 c2)) ≤ 600 := by
    rw [← nat_, babs_eq] at fb
    exact fb
  have mt := ma_told (way := way) (p := p) (lo := lo) (hi := hi) (t := 0) hh h1 h2 ob0 p1 p2 oc0 hx oe (fun hn => (rat_ok (s := s) (way := way) (t := 0) hw hs hn rb (by omega) (by omega)).1)
  have ml := fun s => muladd_ok (s := s) hw hs hh h2 h1
  have ra := fun hn => (rat_ok (s := s) (way := way) (p := p) (lo := lo) (hi := hi) (n := rpF true a1 (rX b1 c1 c2) (rY b2 c1 c2)) (base := min c1 c2) (t := 0) hw hs hn rb (by omega) (by omega)).2
  unfold roadTail
  have ho := lodd_ok (sg := 1 - (if decide (a1 ≠ a2) = true then (1 : Int) else 0)) (m := tuF (rX b1 c1 c2) (rY b2 c1 c2)) (q := 0) (s := s)
  rw [od_ex] at ho
  generalize odB (tuF (rX b1 c1 c2) (rY b2 c1 c2)) = hb at *
  generalize odC (tuF (rX b1 c1 c2) (rY b2 c1 c2)) 0 = hc at *
  generalize tuF (rX b1 c1 c2) (rY b2 c1 c2) = T at *
  generalize rpF true a1 (rX b1 c1 c2) (rY b2 c1 c2) = n at *
  have ne : ∀ {δ : Ev} {s : S}, δ[1]? = some (.d (ex a1 b1 c1)) → δ[2]? = some (.d (ex a2 b2 c2)) → eOp gNe (eOp gIx (eVar 1) (eC (.int 0))) (eOp gIx (eVar 2) (eC (.int 0))) δ s = .ok (.bl (decide (a1 ≠ a2))) s := fun h h' => mv_op (i0 h) (i0 h') (by rw [gNe_int, decide_not])
  refine mv_seq (s1 := s) (δ1 := [x0, .d (ex a1 b1 c1), .d (ex a2 b2 c2), .d (shp p lo hi), .d (.str way), x5, x6, .d (.int T), .d (ex (1 - (if decide (a1 ≠ a2) = true then (1 : Int) else 0)) hb hc), .u, x10, x11, x12, .d (.int (min c1 c2)), .u]) (mv_set (mv_app (mv_cons (mv_op mv_c (mv_call (mv_cons (ne rfl rfl) mv_nil) gInt_bl) gSub_int) (mv_cons (mv_var rfl) (mv_cons mv_c mv_nil))) ho rfl)) ?_
  generalize 1 - (if decide (a1 ≠ a2) = true then (1 : Int) else 0) = hz at *
  refine mv_seq (s1 := s) (δ1 := [x0, .d (ex a1 b1 c1), .d (ex a2 b2 c2), .d (shp p lo hi), .d (.str way), x5, x6, .d (.int T), .d (ex hz hb hc), .u, x10, x11, x12, .d (.int (min c1 c2)), .d (.int n)]) (mv_tgt (mv_app (mv_cons (mv_var rfl) (mv_cons (mv_var rfl) (mv_cons mv_c mv_nil))) (rp s) rfl) rfl) ?_
  refine mv_seq (s1 := s) (δ1 := [x0, .d (ex a1 b1 c1), .d (ex a2 b2 c2), .d (shp p lo hi), .d (.str way), x5, x6, .d (.int T), .d (ex hz hb hc), .d (.tup [ex (if decide (way = "down") = true then 1 else 0) 0 0, .tup []]), x10, x11, x12, .d (.int (min c1 c2)), .d (.int n)]) (mv_set (t2 (t3 (mv_call (mv_cons (mv_op (mv_var rfl) mv_c (by rw [gEq_str2])) mv_nil) gInt_bl) mv_c mv_c) nl)) ?_
  refine mv_seq (s1 := s) (δ1 := [x0, .d (ex a1 b1 c1), .d (ex a2 b2 c2), .d (shp p lo hi), .d (.str way), x5, x6, .d (.int T), .d (ex hz hb hc), .d (toldD way p lo hi n (min c1 c2) 0), x10, x11, x12, .d (.int (min c1 c2)), .d (.int n)]) ?_ ?_
  · unfold toldD
    by_cases z : n = 0
    · rw [if_pos z]
      exact mv_if_f (cmp_ne (mv_var rfl) mv_c (by rw [decide_eq_true z]; rfl)) mv_snil
    · rw [if_neg z]
      exact mv_if_t (cmp_ne (mv_var rfl) mv_c (by rw [decide_eq_false z]; rfl)) (mv_set (mv_app (mv_cons (mv_var rfl) (mv_cons (mv_var rfl) (mv_cons (mv_var rfl) (mv_cons (mv_var rfl) mv_nil)))) (ra z) rfl))
  exact mv_ret (lam_ask (s1 := s) told_pl'.1 told_pl'.2 (fun s => mv_appN (mv_cons (vb rfl rfl) (mv_cons (vb rfl rfl) (mv_cons (vb rfl rfl) (mv_cons (vb rfl rfl) mv_nil)))) (mv_cons (vb rfl rfl) mv_nil) ((ml s).trans (by rw [mt])) ⟨rfl, rfl, rfl⟩) (mv_cons (mv_var rfl) mv_nil))
end A38
namespace A38
open PySem PySem.Spec PyProof.Rows L2 Mi
theorem pick3 {x y z : Int} {t : Int} (t0 : 0 ≤ t) (t1 : t < 3) : ∃ m, gIx (.lst [.int x, .int y, .int z]) (.int t) = some (.int m) ∧ (m = x ∨ m = y ∨ m = z) := by
  have : t = 0 ∨ t = 1 ∨ t = 2 := by omega
  rcases this with rfl | rfl | rfl
  · exact ⟨_, rfl, .inl rfl⟩
  · exact ⟨_, rfl, .inr (.inl rfl)⟩
  · exact ⟨_, rfl, .inr (.inr rfl)⟩
theorem bits_lin {x : Int} {n : Nat} (h : Builtin.Int.intBits x ≤ n) : Builtin.Int.intBits (x + 1) ≤ n + 1 ∧ Builtin.Int.intBits (x - 1) ≤ n + 1 ∧ Builtin.Int.intBits (2 * x + 1) ≤ n + 1 := by
  have a := PySem.intBits_le_iff.mp h
  have p := Nat.pow_succ 2 n
  refine ⟨PySem.intBits_le_iff.mpr ?_, PySem.intBits_le_iff.mpr ?_, PySem.intBits_le_iff.mpr ?_⟩ <;> omega
theorem ra_1 {x y : D} {near : Bool} {s : S} (h : NotNu x) : m_rest_answer [x, y, .bl near] s = .err "BadNumber" .non s := by
  unfold m_rest_answer G_rest_answer
  exact mv_fn_err (mv_seq_err (mv_expr_err (mv_app (mv_cons (mv_var rfl) mv_nil) (cn_bad h) rfl)))
theorem ra_2 {a b c : Int} {y : D} {near : Bool} {s : S} (h1 : Nu a b c) (h : NotNu y) : m_rest_answer [ex a b c, y, .bl near] s = .err "BadNumber" .non s := by
  unfold m_rest_answer G_rest_answer
  exact mv_fn_err (mv_seq (mv_expr (mv_app (mv_cons (mv_var rfl) mv_nil) (cn_ok h1) rfl)) (mv_seq_err (mv_expr_err (mv_app (mv_cons (mv_var rfl) mv_nil) (cn_bad h) rfl))))
theorem re_err {x y : D} {s : S} (h : m_rest_answer [x, y, .bl true] s = .err "BadNumber" .non s) : m_rest [x, y] s = .err "BadNumber" .non s := by
  unfold m_rest G_rest
  exact mv_fn_err (mv_ret_err (mv_app (mv_cons (mv_var rfl) (mv_cons (mv_var rfl) (mv_cons mv_c mv_nil))) h rfl))
theorem cu_err {x y : D} {s : S} (h : m_rest_answer [x, y, .bl false] s = .err "BadNumber" .non s) : m_cut_rest [x, y] s = .err "BadNumber" .non s := by
  unfold m_cut_rest G_cut_rest
  exact mv_fn_err (mv_ret_err (mv_app (mv_cons (mv_var rfl) (mv_cons (mv_var rfl) (mv_cons mv_c mv_nil))) h rfl))

theorem whr {l r : Int} (l0 : 0 ≤ l) (l1 : l < r) : (if decide (l > 0) = true then (1 : Int) else 0) + (if decide (2 * l ≥ r) = true then 1 else 0) + (if decide (2 * l > r) = true then 1 else 0) = wl l r := by
  unfold wl
  simp only [decide_eq_true_eq]
  repeat' split
  all_goals omega
theorem ph_w {x y : Int} (y0 : 0 < y) : (decide (wl (lfF x y) y = 3) || (decide (wl (lfF x y) y = 2) && decide (x / y % 2 = 1))) = phF x y := by
  unfold phF wl
  by_cases a : y < 2 * lfF x y
  · rw [if_neg (by omega), if_pos a, decide_eq_true a]
    rfl
  rw [decide_eq_false a, Bool.false_or]
  by_cases b : 2 * lfF x y = y
  · rw [if_neg (by omega), if_neg a, decide_eq_true b]
    rfl
  rw [if_pos (by omega), decide_eq_false b]
  split <;> rfl
theorem roadRest_ok {p lo hi a1 b1 c1 a2 b2 c2 : Int} {way : PySem.Str} {s : S} (hw : way ∈ ways) (hs : Shp p lo hi) (h1 : Nu a1 b1 c1) (h2 : Nu a2 b2 c2) :
    roadRest [.d .sto, .d (ex a1 b1 c1), .d (ex a2 b2 c2), .d (shp p lo hi), .d (.str way), .u, .u, .u, .u, .u, .u, .u, .u, .u, .u] s = .ok (.rt (.bl true)) s := by
  have tst : tOr (tCmp gLt (eOp gIx (eVar 1) (eC (.int 1))) (eC (.int 0))) (tCmp gLt (eOp gIx (eVar 2) (eC (.int 1))) (eC (.int 1))) [.d .sto, .d (ex a1 b1 c1), .d (ex a2 b2 c2), .d (shp p lo hi), .d (.str way), .u, .u, .u, .u, .u, .u, .u, .u, .u, .u] s = .ok (decide (b1 < 0) || decide (b2 < 1)) s := mv_tor (cmp_lt (i1 rfl) mv_c rfl) (cmp_lt (i1 rfl) mv_c rfl)
  unfold roadRest
  by_cases n : b1 < 0 ∨ b2 < 1
  · exact mv_seq_rt (mv_if_tb tst (by simp only [Bool.or_eq_true, Bool.and_eq_true, Bool.or_eq_false_iff, Bool.and_eq_false_iff, Bool.not_eq_true', Bool.not_eq_false', decide_eq_true_eq, decide_eq_false_iff_not]; omega) (mv_ret (lam_num fun s => mv_app (mv_cons (vb rfl rfl) (mv_cons (vb rfl rfl) mv_nil)) (eq_no h1 h2 n) rfl)))
  have p1 : 0 ≤ b1 := by omega
  have p2 : 0 < b2 := by omega
  have lq := lquot_ok (s := s) h1 h2 p1 p2
  have eo := fun s => eq_ok' (s := s) h1 h2 p1 p2
  have qp := fun s => qplace_ok (s := s) h1 h2 p1 p2
  have dv := ldiv_ok (s := s) h1 h2 p1 p2
  obtain ⟨x0, y0, xb, yb, _, _⟩ := two0_of h1 h2 p1 p2
  have rt := fun (p1 : 0 < b1) (tb : Builtin.Int.intBits (tuF (rX b1 c1 c2) (rY b2 c1 c2)) ≤ 600) => roadTail_ok (s := s) (x0 := .d .sto) (x5 := .d (ex (qN a1 b1 c1 a2 b2 c2) (qD a1 b1 c1 a2 b2 c2) 1)) (x6 := .d (.int (wl (lfF (rX b1 c1 c2) (rY b2 c1 c2)) (rY b2 c1 c2)))) (x10 := .d (.int (rX b1 c1 c2 / rY b2 c1 c2))) (x11 := .d (.int (lfF (rX b1 c1 c2) (rY b2 c1 c2)))) (x12 := .d (.int (rY b2 c1 c2))) hw hs h1 h2 p1 p2 tb
  generalize qN a1 b1 c1 a2 b2 c2 = N at *
  generalize qD a1 b1 c1 a2 b2 c2 = D at *
  generalize rX b1 c1 c2 = x at *
  generalize rY b2 c1 c2 = y at *
  obtain ⟨l0, l1⟩ := lf_b (x := x) y0
  have lb : Builtin.Int.intBits (lfF x y) ≤ 4602 := bits_mono l0 (Int.le_of_lt l1) yb
  refine mv_seq (s1 := s) (δ1 := [.d .sto, .d (ex a1 b1 c1), .d (ex a2 b2 c2), .d (shp p lo hi), .d (.str way), .u, .u, .u, .u, .u, .u, .u, .u, .u, .u]) (mv_if_fb tst (by simp only [Bool.or_eq_true, Bool.and_eq_true, Bool.or_eq_false_iff, Bool.and_eq_false_iff, Bool.not_eq_true', Bool.not_eq_false', decide_eq_true_eq, decide_eq_false_iff_not]; omega) mv_snil) ?_
  refine mv_seq (s1 := s) (δ1 := [.d .sto, .d (ex a1 b1 c1), .d (ex a2 b2 c2), .d (shp p lo hi), .d (.str way), .d (ex N D 1), .u, .u, .u, .u, .u, .u, .u, .u, .u]) (mv_set (mv_app (mv_cons (mv_var rfl) (mv_cons (mv_var rfl) mv_nil)) lq rfl)) ?_
  refine mv_seq (s1 := s) (δ1 := [.d .sto, .d (ex a1 b1 c1), .d (ex a2 b2 c2), .d (shp p lo hi), .d (.str way), .d (ex N D 1), .u, .u, .u, .u, .u, .u, .u, .u, .u]) (mv_if_f (not_t (lam_ask (s1 := s) (p := ex N D 1) (by simp [plain, plains]) rfl (fun s => mv_app (mv_cons (vb rfl rfl) (mv_cons (vb rfl rfl) mv_nil)) (eo s) rfl) (mv_cons (mv_var rfl) mv_nil))) mv_snil) ?_
  refine mv_seq (s1 := s) (δ1 := [.d .sto, .d (ex a1 b1 c1), .d (ex a2 b2 c2), .d (shp p lo hi), .d (.str way), .d (ex N D 1), .u, .u, .u, .u, .d (.int (x / y)), .d (.int (lfF x y)), .d (.int y), .d (.int (min c1 c2)), .u]) (mv_tgt (mv_app (mv_cons (mv_var rfl) (mv_cons (mv_var rfl) mv_nil)) dv rfl) rfl) ?_
  have two : ∀ {δ : Ev} {s : S}, δ[11]? = some (.d (.int (lfF x y))) → eOp (gI gMulI) (eC (.int 2)) (eVar 11) δ s = .ok (.int (2 * lfF x y)) s := fun h => mv_op mv_c (mv_var h) (gMul_int (m := 2) (n := 4602) (by decide +kernel) lb (by decide))
  have wv : eOp gAdd (eOp gAdd (eCall gInt (aCons (eOp gGt (eVar 11) (eC (.int 0))) aNil)) (eCall gInt (aCons (eOp gGe (eOp (gI gMulI) (eC (.int 2)) (eVar 11)) (eVar 12)) aNil))) (eCall gInt (aCons (eOp gGt (eOp (gI gMulI) (eC (.int 2)) (eVar 11)) (eVar 12)) aNil)) [.d .sto, .d (ex a1 b1 c1), .d (ex a2 b2 c2), .d (shp p lo hi), .d (.str way), .d (ex N D 1), .u, .u, .u, .u, .d (.int (x / y)), .d (.int (lfF x y)), .d (.int y), .d (.int (min c1 c2)), .u] s = .ok (.int (wl (lfF x y) y)) s := by
    rw [← whr l0 l1]
    exact mv_op (mv_op (mv_call (mv_cons (mv_op (mv_var rfl) mv_c Mi.gGt_int) mv_nil) gInt_bl) (mv_call (mv_cons (mv_op (two rfl) (mv_var rfl) Mi.gGe_int) mv_nil) gInt_bl) Mi.gAdd_int) (mv_call (mv_cons (mv_op (two rfl) (mv_var rfl) Mi.gGt_int) mv_nil) gInt_bl) Mi.gAdd_int
  refine mv_seq (s1 := s) (δ1 := [.d .sto, .d (ex a1 b1 c1), .d (ex a2 b2 c2), .d (shp p lo hi), .d (.str way), .d (ex N D 1), .d (.int (wl (lfF x y) y)), .u, .u, .u, .d (.int (x / y)), .d (.int (lfF x y)), .d (.int y), .d (.int (min c1 c2)), .u]) (mv_set wv) ?_
  refine mv_seq (s1 := s) (δ1 := [.d .sto, .d (ex a1 b1 c1), .d (ex a2 b2 c2), .d (shp p lo hi), .d (.str way), .d (ex N D 1), .d (.int (wl (lfF x y) y)), .u, .u, .u, .d (.int (x / y)), .d (.int (lfF x y)), .d (.int y), .d (.int (min c1 c2)), .u]) (mv_if_f (not_t (lam_ask (s1 := s) (p := .tup [.int (x / y), .int (wl (lfF x y) y)]) (by simp [plain, plains]) rfl (fun s => mv_app (mv_cons (vb rfl rfl) (mv_cons mv_c mv_nil)) (qp s) rfl) (mv_cons (t2 (mv_var rfl) (mv_var rfl)) mv_nil))) mv_snil) ?_
  have tv : eOp gAdd (eVar 10) (eCall gInt (aCons (eOr (eOp gEq (eVar 6) (eC (.int 3))) (eAnd (eOp gEq (eVar 6) (eC (.int 2))) (eOp gEq (eOp (gI gModI) (eCall gInt (aCons (eVar 10) aNil)) (eC (.int 2))) (eC (.int 1))))) aNil)) [.d .sto, .d (ex a1 b1 c1), .d (ex a2 b2 c2), .d (shp p lo hi), .d (.str way), .d (ex N D 1), .d (.int (wl (lfF x y) y)), .u, .u, .u, .d (.int (x / y)), .d (.int (lfF x y)), .d (.int y), .d (.int (min c1 c2)), .u] s = .ok (.int (tuF x y)) s := by
    have g := q_i (δ := [.d .sto, .d (ex a1 b1 c1), .d (ex a2 b2 c2), .d (shp p lo hi), .d (.str way), .d (ex N D 1), .d (.int (wl (lfF x y) y)), .u, .u, .u, .d (.int (x / y)), .d (.int (lfF x y)), .d (.int y), .d (.int (min c1 c2)), .u]) (s := s) (mv_var (i := 6) rfl) (mv_c (d := .int 3))
    have e := q_i (δ := [.d .sto, .d (ex a1 b1 c1), .d (ex a2 b2 c2), .d (shp p lo hi), .d (.str way), .d (ex N D 1), .d (.int (wl (lfF x y) y)), .u, .u, .u, .d (.int (x / y)), .d (.int (lfF x y)), .d (.int y), .d (.int (min c1 c2)), .u]) (s := s) (mv_var (i := 6) rfl) (mv_c (d := .int 2))
    have m := q_i (δ := [.d .sto, .d (ex a1 b1 c1), .d (ex a2 b2 c2), .d (shp p lo hi), .d (.str way), .d (ex N D 1), .d (.int (wl (lfF x y) y)), .u, .u, .u, .d (.int (x / y)), .d (.int (lfF x y)), .d (.int y), .d (.int (min c1 c2)), .u]) (s := s) (mv_op (mv_call (mv_cons (mv_var (i := 10) rfl) mv_nil) gInt_int) (mv_c (d := .int 2)) (Mi.gMod_int (by decide))) (mv_c (d := .int 1))
    have b : eOr (eOp gEq (eVar 6) (eC (.int 3))) (eAnd (eOp gEq (eVar 6) (eC (.int 2))) (eOp gEq (eOp (gI gModI) (eCall gInt (aCons (eVar 10) aNil)) (eC (.int 2))) (eC (.int 1)))) [.d .sto, .d (ex a1 b1 c1), .d (ex a2 b2 c2), .d (shp p lo hi), .d (.str way), .d (ex N D 1), .d (.int (wl (lfF x y) y)), .u, .u, .u, .d (.int (x / y)), .d (.int (lfF x y)), .d (.int y), .d (.int (min c1 c2)), .u] s = .ok (.bl (phF x y)) s := by
      rw [← ph_w y0]
      by_cases q : wl (lfF x y) y = 3
      · rw [decide_eq_true q] at g ⊢
        exact mv_eor_t g
      rw [decide_eq_false q] at g ⊢
      rw [Bool.false_or]
      refine mv_eor_f g ?_
      by_cases z : wl (lfF x y) y = 2
      · rw [decide_eq_true z] at e ⊢
        rw [Bool.true_and]
        exact mv_eand_t e m
      · rw [decide_eq_false z] at e ⊢
        rw [Bool.false_and]
        exact mv_eand_f e
    exact mv_op (mv_var rfl) (mv_call (mv_cons b mv_nil) gInt_bl) Mi.gAdd_int
  refine mv_seq (s1 := s) (δ1 := [.d .sto, .d (ex a1 b1 c1), .d (ex a2 b2 c2), .d (shp p lo hi), .d (.str way), .d (ex N D 1), .d (.int (wl (lfF x y) y)), .d (.int (tuF x y)), .u, .u, .d (.int (x / y)), .d (.int (lfF x y)), .d (.int y), .d (.int (min c1 c2)), .u]) (mv_set tv) ?_
  have et : tOr (tCmp gEq (eOp gIx (eVar 1) (eC (.int 1))) (eC (.int 0))) (tCmp gGe (eVar 7) (eOp (gI gShlI) (eC (.int 1)) (eC (.int 600)))) [.d .sto, .d (ex a1 b1 c1), .d (ex a2 b2 c2), .d (shp p lo hi), .d (.str way), .d (ex N D 1), .d (.int (wl (lfF x y) y)), .d (.int (tuF x y)), .u, .u, .d (.int (x / y)), .d (.int (lfF x y)), .d (.int y), .d (.int (min c1 c2)), .u] s = .ok (decide (b1 = 0) || decide (1 * 2 ^ (600 : Int).toNat ≤ tuF x y)) s := mv_tor (cmp_eq (i1 rfl) mv_c rfl) (cmp_ge (mv_var rfl) (mv_op mv_c mv_c p600) rfl)
  by_cases z : b1 = 0 ∨ 1 * 2 ^ (600 : Int).toNat ≤ tuF x y
  · refine mv_seq_rt (mv_if_tb et ?_ (mv_ret mv_c))
    rcases z with z | z
    · rw [decide_eq_true z]; rfl
    · rw [decide_eq_true z, Bool.or_true]
  refine mv_seq (s1 := s) (δ1 := [.d .sto, .d (ex a1 b1 c1), .d (ex a2 b2 c2), .d (shp p lo hi), .d (.str way), .d (ex N D 1), .d (.int (wl (lfF x y) y)), .d (.int (tuF x y)), .u, .u, .d (.int (x / y)), .d (.int (lfF x y)), .d (.int y), .d (.int (min c1 c2)), .u]) (mv_if_fb et (by rw [decide_eq_false (fun h => z (.inl h)), decide_eq_false (fun h => z (.inr h))]; rfl) mv_snil) ?_
  have t0 : 0 ≤ tuF x y := by
    have := Int.ediv_nonneg x0 (Int.le_of_lt y0)
    unfold tuF
    split <;> omega
  have tl : tuF x y < 2 ^ 600 := by
    have h : ¬ 1 * 2 ^ (600 : Int).toNat ≤ tuF x y := fun h => z (.inr h)
    rw [Int.one_mul] at h
    exact Int.lt_of_not_ge h
  exact rt (by omega) (bits_of (by omega) tl)
/-! ### the draws -/
theorem tiny_form_ok {s : S} {n : Nat} {Q : D → S → Prop} (h : SOk n s) (hn : n + 10 < 2 ^ 60) (q : ∀ (p lo hi : Int) s', Shp p lo hi → SOk (n + 3) s' → Q (shp p lo hi) s') : Wp (m__law_tiny_form [.sto] s) Q := by
  unfold m__law_tiny_form G__law_tiny_form
  apply wp_fn
  walk_at "own wgo"
  refine takeQ h (by omega) (by decide) (by decide) fun t s1 ok1 t0 t1 => ?_
  walk_at "own wgo"
  refine takeQ ok1 (by omega) (by decide) (by decide) fun u s2 ok2 u0 u1 => ?_
  walk_at "own wgo"
  refine takeQ ok2 (by omega) (by decide) (by decide) fun v s3 ok3 v0 v1 => ?_
  walk_at "own wgo"
  exact q _ _ _ s3 ⟨by omega, by omega, by omega, by omega, by omega⟩ ok3
theorem mode_ok {s : S} {n : Nat} (h : SOk n s) (hn : n + 10 < 2 ^ 60) : ∃ w s', m__law_mode [.sto] s = .ok (.str w) s' ∧ w ∈ ways ∧ SOk (n + 1) s' := by
  obtain ⟨_, s1, e1, t, rfl, t0, t1, ok1⟩ := takeQ (Q := fun x s' => ∃ t, x = .int t ∧ 0 ≤ t ∧ t < 6 ∧ SOk (n + 1) s') h (by omega) (show (2 : Int) ≤ 6 by decide) (by decide) fun v s' o a b => ⟨v, rfl, a, b, o⟩
  have g : ∃ w, gIx (.tup (ways.map D.str)) (.int t) = some (.str w) ∧ w ∈ ways := by
    have : t = 0 ∨ t = 1 ∨ t = 2 ∨ t = 3 ∨ t = 4 ∨ t = 5 := by omega
    rcases this with rfl | rfl | rfl | rfl | rfl | rfl
    all_goals exact ⟨_, rfl, by decide⟩
  obtain ⟨w, g, hw⟩ := g
  refine ⟨w, s1, ?_, hw, ok1⟩
  unfold m__law_mode G__law_mode
  exact mv_fn (mv_ret (mv_op (mv_tup (mv_cons mv_c (mv_cons mv_c (mv_cons mv_c (mv_cons mv_c (mv_cons mv_c (mv_cons mv_c mv_nil)))))) (show 6 ≤ 100000 by decide)) (mv_app (mv_cons (mv_var rfl) (mv_cons mv_c mv_nil)) e1 rfl) g))
theorem cmp_eqS {δ : Ev} {s s1 : S} {b k t : Int} {r : Bool} (h : m__law_take [.sto, .int k] s = .ok (.int t) s1) (e : decide (t = b) = r) : tCmp gEq (eApp 2 [] m__law_take (aCons (eVar 0) (aCons (eC (.int k)) aNil))) (eC (.int b)) (.d .sto :: δ) s = .ok r s1 := mv_cmp (mv_app (mv_cons (mv_var rfl) (mv_cons mv_c mv_nil)) h rfl) mv_c (by rw [gEq_int, e])
theorem road_ok {a1 b1 c1 a2 b2 c2 : Int} {s : S} {n : Nat} (h1 : Nu a1 b1 c1) (h2 : Nu a2 b2 c2) (h : SOk n s) (hn : n + 100 < 2 ^ 60) : ∃ s', m__law_road_right [.sto, ex a1 b1 c1, ex a2 b2 c2] s = .ok (.bl true) s' ∧ SOk (n + 30) s' := by
  obtain ⟨_, s1, e1, t, rfl, t0, t1, ok1⟩ := takeQ (Q := fun x s' => ∃ t, x = .int t ∧ 0 ≤ t ∧ t < 4 ∧ SOk (n + 1) s') h (by omega) (show (2 : Int) ≤ 4 by decide) (by decide) fun v s' o a b => ⟨v, rfl, a, b, o⟩
  have main : ∀ {p lo hi : Int} {s2 : S}, Shp p lo hi → SOk (n + 20) s2 → ∃ s', (sSeq (sSet 4 (eApp 1 [] m__law_mode (aCons (eVar 0) aNil))) roadRest) [.d .sto, .d (ex a1 b1 c1), .d (ex a2 b2 c2), .d (shp p lo hi), .u, .u, .u, .u, .u, .u, .u, .u, .u, .u, .u] s2 = .ok (.rt (.bl true)) s' ∧ SOk (n + 30) s' := fun {p lo hi s2} hs ok => by
    obtain ⟨w, s3, e3, hw, ok3⟩ := mode_ok ok (by omega)
    refine ⟨s3, ?_, ok3.mono (by omega)⟩
    exact mv_seq (δ1 := [.d .sto, .d (ex a1 b1 c1), .d (ex a2 b2 c2), .d (shp p lo hi), .d (.str w), .u, .u, .u, .u, .u, .u, .u, .u, .u, .u]) (mv_set (mv_app (mv_cons (mv_var rfl) mv_nil) e3 rfl)) (roadRest_ok hw hs h1 h2)
  have s0 : ∀ {B : FS} {s : S} {r : R Fl}, B [.d .sto, .d (ex a1 b1 c1), .d (ex a2 b2 c2), .d (shp 140 (-600) 600), .u, .u, .u, .u, .u, .u, .u, .u, .u, .u, .u] s = r → sSeq (sSet 3 (eTup (aCons (eC (.int 140)) (aCons (eUn gNeg (eC (.int 600))) (aCons (eC (.int 600)) aNil))))) B (ev0 15 [.sto, ex a1 b1 c1, ex a2 b2 c2]) s = r := fun {B s r} k => mv_seq (s1 := s) (δ1 := [.d .sto, .d (ex a1 b1 c1), .d (ex a2 b2 c2), .d (shp 140 (-600) 600), .u, .u, .u, .u, .u, .u, .u, .u, .u, .u, .u]) (mv_set (t3 mv_c (mv_un mv_c gNeg_int) mv_c)) k
  by_cases z : t = 0
  · obtain ⟨_, s2, e2, p, lo, hi, rfl, hs, ok2⟩ := tiny_form_ok (Q := fun x s' => ∃ p lo hi, x = shp p lo hi ∧ Shp p lo hi ∧ SOk (n + 1 + 3) s') ok1 (by omega) fun p lo hi s' hs o => ⟨p, lo, hi, rfl, hs, o⟩
    obtain ⟨_, s3, e3, p', lo', hi', rfl, hs', ok3⟩ := wide_form_ok (Q := fun x s' => ∃ p lo hi, x = shp p lo hi ∧ Shp p lo hi ∧ SOk (n + 1 + 3 + 6) s') ok2 (by omega) fun p lo hi s' a b c d e o => ⟨p, lo, hi, rfl, ⟨a, b, c, d, e⟩, o⟩
    obtain ⟨_, s4, e4, u, rfl, u0, u1, ok4⟩ := takeQ (Q := fun x s' => ∃ t, x = .int t ∧ 0 ≤ t ∧ t < 2 ∧ SOk (n + 1 + 3 + 6 + 1) s') ok3 (by omega) (show (2 : Int) ≤ 2 by decide) (by decide) fun v s' o a b => ⟨v, rfl, a, b, o⟩
    have pk : ∃ p2 lo2 hi2, gIx (.lst [shp p lo hi, shp p' lo' hi']) (.int u) = some (shp p2 lo2 hi2) ∧ Shp p2 lo2 hi2 := by
      have : u = 0 ∨ u = 1 := by omega
      rcases this with rfl | rfl
      · exact ⟨_, _, _, rfl, hs⟩
      · exact ⟨_, _, _, rfl, hs'⟩
    obtain ⟨p2, lo2, hi2, g, hs2⟩ := pk
    obtain ⟨s5, e5, ok5⟩ := main hs2 (ok4.mono (by omega))
    refine ⟨s5, ?_, ok5⟩
    unfold m__law_road_right G__law_road_right
    apply mv_fn
    refine s0 ?_
    refine mv_seq (s1 := s4) (δ1 := [.d .sto, .d (ex a1 b1 c1), .d (ex a2 b2 c2), .d (shp p2 lo2 hi2), .u, .u, .u, .u, .u, .u, .u, .u, .u, .u, .u]) (mv_if_t (cmp_eqS e1 (decide_eq_true z)) (mv_set (mv_op (mv_lst (mv_cons (mv_app (mv_cons (mv_var rfl) mv_nil) e2 rfl) (mv_cons (mv_app (mv_cons (mv_var rfl) mv_nil) e3 rfl) mv_nil)) (show 2 ≤ 100000 by decide)) (mv_app (mv_cons (mv_var rfl) (mv_cons mv_c mv_nil)) e4 rfl) g))) e5
  · obtain ⟨s5, e5, ok5⟩ := main (p := 140) (lo := -600) (hi := 600) ⟨by decide, by decide, by decide, by decide, by decide⟩ (ok1.mono (show n + 1 ≤ n + 20 by omega))
    refine ⟨s5, ?_, ok5⟩
    unfold m__law_road_right G__law_road_right
    apply mv_fn
    refine s0 ?_
    exact mv_seq (s1 := s1) (δ1 := [.d .sto, .d (ex a1 b1 c1), .d (ex a2 b2 c2), .d (shp 140 (-600) 600), .u, .u, .u, .u, .u, .u, .u, .u, .u, .u, .u]) (mv_if_f (cmp_eqS e1 (decide_eq_false z)) mv_snil) e5
theorem loose53 {s : S} {n : Nat} {Q : D → S → Prop} (h : SOk n s) (hn : n + 100 < 2 ^ 60) (q : ∀ (a b c : Int) s', Nu a b c → 0 < b → Builtin.Int.intBits b ≤ 53 → -60 ≤ c → c ≤ 60 → SOk (n + 6) s' → Q (ex a b c) s') : Wp (m__law_loose [.sto, .int 53, .int 60] s) Q := by
  unfold m__law_loose G__law_loose
  apply wp_fn
  walk_at "own wgo"
  refine takeQ h (by omega) (by decide) (by decide) fun t s1 ok1 t0 t1 => ?_
  walk_at "own wgo"
  refine scaled_ok ok1 (by omega) (by omega) (by omega) fun v s2 _ v0 v1 ok2 => ?_
  have v1 : v < 2 ^ 52 := v1
  have vb : Builtin.Int.intBits v ≤ 52 := bits_of (by omega) v1
  refine ⟨_, gMul_int (m := 2) (n := 52) (by decide +kernel) vb (by decide), ?_⟩
  walk_at "own wgo"
  refine edge_ok ok2 (by omega) (by omega) (by decide) (by decide) fun e s3 e0 e1 ok3 => ?_
  walk_at "own wgo"
  have bb := (bits_lin vb).2.2
  exact q _ _ _ s3 ⟨by omega, by omega, fun _ => by omega, fun _ => by omega, fun _ => by omega, Nat.le_trans bb (by decide), by omega, by omega⟩ (by omega) bb (by omega) (by omega) (ok3.mono (by omega))
theorem op_ok {s : S} {n : Nat} {Q : D → S → Prop} (h : SOk n s) (hn : n + 400 < 2 ^ 60) (q : ∀ (a1 b1 c1 a2 b2 c2 : Int) s', Nu a1 b1 c1 → Nu a2 b2 c2 → SOk (n + 40) s' → Q (.tup [ex a1 b1 c1, ex a2 b2 c2]) s') : Wp (m__law_operand_pair [.sto] s) Q := by
  have mk : ∀ {a v c : Int}, 0 ≤ a → a < 2 → 0 ≤ v → v < 16 → 0 ≤ c → c < 5 → Nu a (1 + 2 * v) (2000 - c) := fun {a v c} a0 a1 v0 v1 c0 c1 =>
    ⟨by omega, by omega, fun _ => by omega, fun _ => by omega, fun _ => by omega, Nat.le_trans (bits_of (k := 6) (by omega) (by omega)) (by decide), by omega, by omega⟩
  unfold m__law_operand_pair G__law_operand_pair
  apply wp_fn
  walk_at "own wgo"
  refine takeQ h (by omega) (by decide) (by decide) fun kind s1 ok1 k0 k1 => ?_
  walk_at "own wgo"
  refine ⟨fun _ => ?_, fun _ => ?_⟩
  · walk_at "own wgo"
    refine number_ok ok1 (by omega) fun a b c s2 hu ok2 => ?_
    walk_at "own wgo"
    refine number_ok ok2 (by omega) fun a' b' c' s3 hv ok3 => ?_
    walk_at "own wgo"
    exact q _ _ _ _ _ _ s3 hu hv (ok3.mono (by omega))
  rename_i n0
  have n0 := of_decide_eq_false n0
  walk_at "own wgo"
  refine ⟨fun y => ?_, fun _ => ?_⟩
  · have y := of_decide_eq_true y
    have pk : ∃ m r : Int, gIx (.lst [.tup [.int 6, .int 6], .tup [.int 53, .int 60], .tup [.int 600, .int 2000]]) (.int (kind - 1)) = some (.tup [.int m, .int r]) ∧ 1 ≤ m ∧ m ≤ 600 ∧ 0 ≤ r ∧ r ≤ 2000 := by
      have : kind = 1 ∨ kind = 2 ∨ kind = 3 := by omega
      rcases this with rfl | rfl | rfl
      all_goals exact ⟨_, _, rfl, by decide, by decide, by decide, by decide⟩
    obtain ⟨m, r, e, m0, m1, r0, r1⟩ := pk
    walk_at "own wgo"
    refine ⟨_, e, ?_⟩
    walk_at "own wgo"
    refine ⟨_, rfl, ?_⟩
    walk_at "own wgo"
    refine ⟨_, rfl, ?_⟩
    walk_at "own wgo"
    refine loose_ok ok1 (by omega) m0 m1 r0 r1 fun a b c s2 hu _ ok2 => ?_
    walk_at "own wgo"
    refine ⟨_, rfl, ?_⟩
    walk_at "own wgo"
    refine ⟨_, rfl, ?_⟩
    walk_at "own wgo"
    refine loose_ok ok2 (by omega) m0 m1 r0 r1 fun a' b' c' s3 hv _ ok3 => ?_
    walk_at "own wgo"
    exact q _ _ _ _ _ _ s3 hu hv (ok3.mono (by omega))
  walk_at "own wgo"
  refine ⟨fun _ => ?_, fun _ => ?_⟩
  · walk_at "own wgo"
    refine takeQ ok1 (by omega) (by decide) (by decide) fun t s2 ok2 t0 t1 => ?_
    walk_at "own wgo"
    refine takeQ ok2 (by omega) (by decide) (by decide) fun v s3 ok3 v0 v1 => ?_
    refine ⟨_, gMul_int (m := 2) (n := 5) (by decide +kernel) (bits_of (by omega) (by omega)) (by decide), ?_⟩
    walk_at "own wgo"
    refine takeQ ok3 (by omega) (by decide) (by decide) fun c s4 ok4 c0 c1 => ?_
    walk_at "own wgo"
    refine takeQ ok4 (by omega) (by decide) (by decide) fun t' s5 ok5 t0' t1' => ?_
    walk_at "own wgo"
    refine takeQ ok5 (by omega) (by decide) (by decide) fun v' s6 ok6 v0' v1' => ?_
    refine ⟨_, gMul_int (m := 2) (n := 5) (by decide +kernel) (bits_of (by omega) (by omega)) (by decide), ?_⟩
    walk_at "own wgo"
    refine takeQ ok6 (by omega) (by decide) (by decide) fun c' s7 ok7 c0' c1' => ?_
    walk_at "own wgo"
    exact q _ _ _ _ _ _ s7 (mk t0 t1 v0 v1 c0 c1) (mk t0' t1' v0' v1' c0' c1') (ok7.mono (by omega))
  walk_at "own wgo"
  refine ⟨fun _ => ?_, fun _ => ?_⟩
  · walk_at "own wgo"
    refine loose_ok ok1 (by omega) (by decide) (by decide) (by decide) (by decide) fun a b c s2 hu _ ok2 => ?_
    walk_at "own wgo"
    refine loose_ok ok2 (by omega) (by decide) (by decide) (by decide) (by decide) fun a' b' c' s3 hv _ ok3 => ?_
    walk_at "own wgo"
    exact q _ _ _ _ _ _ s3 hu hv (ok3.mono (by omega))
  walk_at "own wgo"
  refine loose53 ok1 (by omega) fun a b c s2 hu hp hb c0 c1 ok2 => ?_
  walk_at "own wgo"
  refine takeQ ok2 (by omega) (by decide) (by decide) fun t s3 ok3 t0 t1 => ?_
  obtain ⟨m, em, hm⟩ := pick3 (x := 4) (y := 40) (z := 500) t0 t1
  refine ⟨_, em, ?_⟩
  walk_at "own wgo"
  refine scaled_ok ok3 (by omega) (by omega) (by omega) fun v s4 _ v0 v1 ok4 => ?_
  have pw := pow_le (show m.toNat ≤ 500 by omega)
  have vb : Builtin.Int.intBits v ≤ 500 := bits_of (by omega) (by omega)
  refine ⟨_, gMul_int (m := 2) (n := 500) (by decide +kernel) vb (by decide), ?_⟩
  walk_at "own wgo"
  refine takeQ ok4 (by omega) (by decide) (by decide) fun u s5 ok5 u0 u1 => ?_
  walk_at "own wgo"
  refine takeQ ok5 (by omega) (by decide) (by decide) fun f s6 ok6 f0 f1 => ?_
  walk_at "own wgo"
  have tb : Builtin.Int.intBits (2 * v + u) ≤ 502 := by
    have x := PySem.intBits_le_iff.mp vb
    have p2 := Nat.pow_succ 2 500
    have p3 := Nat.pow_succ 2 501
    exact PySem.intBits_le_iff.mpr (by omega)
  refine ⟨_, rfl, ?_⟩
  refine wp_var rfl ?_
  refine ⟨_, gMul_int (m := 53) (n := 502) hb tb (by decide), ?_⟩
  refine wp_var rfl ?_
  have pb : Builtin.Int.intBits (b * (2 * v + u)) ≤ 555 := bmul hb tb
  refine ⟨_, gShl_s (n := 555) f0 pb (by omega), ?_⟩
  have sb : Builtin.Int.intBits (b * (2 * v + u) * 2 ^ f.toNat) ≤ 585 := Nat.le_trans (bshl pb) (by omega)
  generalize b * (2 * v + u) * 2 ^ f.toNat = g at *
  walk_at "own wgo"
  refine takeQ ok6 (by omega) (by decide) (by decide) fun w s7 ok7 w0 w1 => ?_
  walk_at "own wgo"
  refine takeQ ok7 (by omega) (by decide) (by decide) fun sg s8 ok8 g0 g1 => ?_
  walk_at "own wgo"
  refine ⟨_, rfl, ?_⟩
  walk_at "own wgo"
  have hb2 : Builtin.Int.intBits ((g + w - 1).natAbs : Int) ≤ 600 := by
    have x := PySem.intBits_le_iff.mp sb
    have p2 := Nat.pow_succ 2 585
    have y : Builtin.Int.intBits (g + w - 1) ≤ 586 := PySem.intBits_le_iff.mpr (by omega)
    exact Nat.le_trans (babs y) (by decide)
  have od := od_nu (sg := sg) (m := ((g + w - 1).natAbs : Int)) (q := c - 1 - f) (by omega) (by omega) hb2 (by omega) (by omega)
  have oc : odC ((g + w - 1).natAbs : Int) (c - 1 - f) ≤ 2000 := by
    unfold odC
    split
    · decide
    · rename_i z
      obtain ⟨k, o, e1, e2, e3, e4, e5⟩ := parts z
      rw [e1]
      omega
  refine ⟨_, s8, lodd_ok.trans (by rw [od_ex]), ?_⟩
  walk_at "own wgo"
  exact q _ _ _ _ _ _ s8 (od.1 oc) hu (ok8.mono (by omega))
/-! ### refused -/
structure Bad2 (d e : D) : Prop where
  nd : noT d = true
  ne : noT e = true
  r : ∀ s, m_rest [d, e] s = .err "BadNumber" .non s
  c : ∀ s, m_cut_rest [d, e] s = .err "BadNumber" .non s
  x : ∀ s, m_exact_quotient [d, e] s = .err "BadNumber" .non s
theorem bad_first {d e : D} (h : NotNu d) (ne : noT e = true) : Bad2 d e := ⟨h.nt, ne, fun s => re_err (ra_1 h), fun s => cu_err (ra_1 h), fun s => eq_1 (cv_bad h)⟩
theorem bad_second {a b c : Int} {e : D} (h1 : Nu a b c) (h : NotNu e) : Bad2 (ex a b c) e := ⟨rfl, h.nt, fun s => re_err (ra_2 h1 h), fun s => cu_err (ra_2 h1 h), fun s => by
  by_cases n : b < 0
  · exact eq_1 (cv_neg h1 n)
  · exact eq_2 (cv_ok h1 (by omega)) (cv_bad h)⟩
noncomputable def f3For : FS := (sSeq (sIf (tNot (tTru (eLam 2 [] m__law_refused (eApp 2 [] m_rest (aCons (eVar 6) (aCons (eVar 7) aNil))) (aCons (eC (.str "BadNumber")) aNil)))) (sRet (eC (.bl false))) sNil) (sSeq (sIf (tNot (tTru (eLam 2 [] m__law_refused (eApp 2 [] m_cut_rest (aCons (eVar 6) (aCons (eVar 7) aNil))) (aCons (eC (.str "BadNumber")) aNil)))) (sRet (eC (.bl false))) sNil) (sIf (tNot (tTru (eLam 2 [] m__law_refused (eApp 2 [] m_exact_quotient (aCons (eVar 6) (aCons (eVar 7) aNil))) (aCons (eC (.str "BadNumber")) aNil)))) (sRet (eC (.bl false))) sNil)))
noncomputable def lwFor : FS := (sSeq (sTgt (eApp 1 [] m__law_operand_pair (aCons (eVar 1) aNil)) (nTup 2 (nCons (nName 4) (nCons (nName 5) nNil)))) (sSeq (sIf (tOr (tNot (tTru (eApp 2 [] m__law_rests_right (aCons (eVar 4) (aCons (eVar 5) aNil))))) (tNot (tTru (eApp 3 [] m__law_road_right (aCons (eVar 1) (aCons (eVar 4) (aCons (eVar 5) aNil))))))) (sRet (eC (.bl false))) sNil) (sSeq (sSet 3 (eApp 2 [] m__law_bad_number (aCons (eVar 1) (aCons (eVar 4) aNil)))) (sSeq (sFor (iLst (eLst (aCons (eTup (aCons (eVar 3) (aCons (eVar 5) aNil))) (aCons (eTup (aCons (eVar 4) (aCons (eVar 3) aNil))) (aCons (eTup (aCons (eTup (aCons (eOp gEq (eOp gIx (eVar 4) (eC (.int 0))) (eC (.int 1))) (aCons (eOp gIx (eVar 4) (eC (.int 1))) (aCons (eOp gIx (eVar 4) (eC (.int 2))) aNil)))) (aCons (eVar 5) aNil))) aNil))))) (nTup 2 (nCons (nName 6) (nCons (nName 7) nNil))) f3For) (sIf (tNot (tTru (eApp 2 [] m__law_rests_right (aCons (eVar 4) (aCons (eVar 5) aNil))))) (sRet (eC (.bl false))) sNil)))))
noncomputable def lawTail : FS := (sSeq (sFor (iRng1 (aCons (eC (.int 2)) aNil)) (nName 2) lwFor) (sRet (eC (.bl true))))
theorem f3_ok {x0 x1 x2 x3 x4 x5 : SV} {d e : D} {s : S} (h : Bad2 d e) : f3For [x0, x1, x2, x3, x4, x5, .d d, .d e] s = .ok (.nx [x0, x1, x2, x3, x4, x5, .d d, .d e]) s := by
  unfold f3For
  refine mv_seq (s1 := s) (δ1 := [x0, x1, x2, x3, x4, x5, .d d, .d e]) (mv_if_f (not_t (lam_num fun s => mv_app (mv_cons (vb h.nd rfl) (mv_cons (vb h.ne rfl) mv_nil)) (h.r s) rfl)) mv_snil) ?_
  refine mv_seq (s1 := s) (δ1 := [x0, x1, x2, x3, x4, x5, .d d, .d e]) (mv_if_f (not_t (lam_num fun s => mv_app (mv_cons (vb h.nd rfl) (mv_cons (vb h.ne rfl) mv_nil)) (h.c s) rfl)) mv_snil) ?_
  exact mv_if_f (not_t (lam_num fun s => mv_app (mv_cons (vb h.nd rfl) (mv_cons (vb h.ne rfl) mv_nil)) (h.x s) rfl)) mv_snil
theorem lwFor_ok {x0 x2 x3 x4 x5 x6 x7 : SV} {s : S} {c : Nat} (h : SOk c s) (hn : c + 10000 < 2 ^ 60) : ∃ y3 y4 y5 y6 y7 s', lwFor [x0, .d .sto, x2, x3, x4, x5, x6, x7] s = .ok (.nx [x0, .d .sto, x2, y3, y4, y5, y6, y7]) s' ∧ SOk (c + 120) s' := by
  obtain ⟨_, s1, e1, a1, b1, c1, a2, b2, c2, rfl, h1, h2, ok1⟩ := op_ok (Q := fun x s' => ∃ a1 b1 c1 a2 b2 c2, x = .tup [ex a1 b1 c1, ex a2 b2 c2] ∧ Nu a1 b1 c1 ∧ Nu a2 b2 c2 ∧ SOk (c + 40) s') h (by omega) fun a1 b1 c1 a2 b2 c2 s' h1 h2 o => ⟨_, _, _, _, _, _, rfl, h1, h2, o⟩
  obtain ⟨s2, e2, ok2⟩ := road_ok h1 h2 ok1 (by omega)
  obtain ⟨bad, s3, e3, hbad, ok3⟩ := bad_number_ok (Q := fun x s' => NotNu x ∧ SOk (c + 40 + 30 + 10) s') h1 ok2 (by omega) fun x s' a b => ⟨a, b⟩
  have nb : NotNu (.tup [.bl (decide (a1 = 1)), .int b1, .int c1]) := nn_tup (fun d hd => by
    simp only [List.mem_cons, List.not_mem_nil, or_false] at hd
    rcases hd with rfl | rfl | rfl <;> rfl) (show 3 ≤ 1000 by decide) rfl rfl
  have hrow : ∀ d ∈ [D.tup [bad, ex a2 b2 c2], .tup [ex a1 b1 c1, bad], .tup [.tup [.bl (decide (a1 = 1)), .int b1, .int c1], ex a2 b2 c2]], ∃ x y, d = .tup [x, y] ∧ Bad2 x y := fun d hd => by
    simp only [List.mem_cons, List.not_mem_nil, or_false] at hd
    rcases hd with rfl | rfl | rfl
    · exact ⟨_, _, rfl, bad_first hbad rfl⟩
    · exact ⟨_, _, rfl, bad_second h1 hbad⟩
    · exact ⟨_, _, rfl, bad_first nb rfl⟩
  obtain ⟨δ4, s4, e4, rfl, y6, y7, rfl⟩ := mv_for (I := iLst (eLst (aCons (eTup (aCons (eVar 3) (aCons (eVar 5) aNil))) (aCons (eTup (aCons (eVar 4) (aCons (eVar 3) aNil))) (aCons (eTup (aCons (eTup (aCons (eOp gEq (eOp gIx (eVar 4) (eC (.int 0))) (eC (.int 1))) (aCons (eOp gIx (eVar 4) (eC (.int 1))) (aCons (eOp gIx (eVar 4) (eC (.int 2))) aNil)))) (aCons (eVar 5) aNil))) aNil))))) (N := nTup 2 (nCons (nName 6) (nCons (nName 7) nNil))) (G := f3For) (δ := [x0, .d .sto, x2, .d bad, .d (ex a1 b1 c1), .d (ex a2 b2 c2), x6, x7]) (s := s3) (s1 := s3) (ds := [D.tup [bad, ex a2 b2 c2], .tup [ex a1 b1 c1, bad], .tup [.tup [.bl (decide (a1 = 1)), .int b1, .int c1], ex a2 b2 c2]])
    (fun j δ s' => s' = s3 ∧ ∃ y6 y7, δ = [x0, .d .sto, x2, .d bad, .d (ex a1 b1 c1), .d (ex a2 b2 c2), y6, y7]) (mv_iLst (mv_lst (mv_cons (t2 (mv_var rfl) (mv_var rfl)) (mv_cons (t2 (mv_var rfl) (mv_var rfl)) (mv_cons (t2 (t3 (q_i (i0 rfl) mv_c) (i1 rfl) (i2 rfl)) (mv_var rfl)) mv_nil))) (show 3 ≤ 100000 by decide))) ⟨rfl, _, _, rfl⟩ (fun j x δ s' hd hP => by
      obtain ⟨rfl, y6, y7, rfl⟩ := hP
      obtain ⟨d, e, rfl, hb⟩ := hrow x (List.mem_of_getElem? hd)
      exact ⟨_, rfl, _, _, f3_ok hb, rfl, _, _, rfl⟩)
  refine ⟨.d bad, .d (ex a1 b1 c1), .d (ex a2 b2 c2), y6, y7, s4, ?_, ok3.mono (by omega)⟩
  unfold lwFor
  refine mv_seq (δ1 := [x0, .d .sto, x2, x3, .d (ex a1 b1 c1), .d (ex a2 b2 c2), x6, x7]) (mv_tgt (mv_app (mv_cons (mv_var rfl) mv_nil) e1 rfl) rfl) ?_
  refine mv_seq (s1 := s2) (δ1 := [x0, .d .sto, x2, x3, .d (ex a1 b1 c1), .d (ex a2 b2 c2), x6, x7]) (mv_if_f (mv_or_f (not_t (mv_app (mv_cons (mv_var rfl) (mv_cons (mv_var rfl) mv_nil)) (rests_right_ok h1 h2) rfl)) (not_t (mv_app (mv_cons (mv_var rfl) (mv_cons (mv_var rfl) (mv_cons (mv_var rfl) mv_nil))) e2 rfl))) mv_snil) ?_
  refine mv_seq (δ1 := [x0, .d .sto, x2, .d bad, .d (ex a1 b1 c1), .d (ex a2 b2 c2), x6, x7]) (mv_set (mv_app (mv_cons (mv_var rfl) (mv_cons (mv_var rfl) mv_nil)) e3 rfl)) ?_
  refine mv_seq e4 ?_
  exact mv_if_f (not_t (mv_app (mv_cons (mv_var rfl) (mv_cons (mv_var rfl) mv_nil)) (rests_right_ok h1 h2) rfl)) mv_snil
theorem lawTail_ok {x0 : SV} {s : S} (h : SOk 0 s) : ∃ s', lawTail [x0, .d .sto, .u, .u, .u, .u, .u, .u] s = .ok (.rt (.bl true)) s' := by
  obtain ⟨δ2, s2, e, x2, x3, x4, x5, x6, x7, rfl, ok2⟩ := mv_for (I := iRng1 (aCons (eC (.int 2)) aNil)) (N := nName 2) (G := lwFor) (δ := [x0, .d .sto, .u, .u, .u, .u, .u, .u]) (s := s) (s1 := s) (ds := rgL 0 2)
    (fun j δ s' => ∃ x2 x3 x4 x5 x6 x7, δ = [x0, .d .sto, x2, x3, x4, x5, x6, x7] ∧ SOk (120 * j) s') (mv_rng1 (mv_cons mv_c mv_nil) (by decide) (by decide)) ⟨_, _, _, _, _, _, rfl, h⟩ (fun j x δ s' hd hP => by
      obtain ⟨x2, x3, x4, x5, x6, x7, rfl, ok⟩ := hP
      obtain ⟨hj, rfl⟩ := rgL_get hd
      obtain ⟨y3, y4, y5, y6, y7, s3, e3, ok3⟩ := lwFor_ok (x0 := x0) (x2 := .d (.int (0 + (j : Int)))) (x3 := x3) (x4 := x4) (x5 := x5) (x6 := x6) (x7 := x7) ok (by omega)
      exact ⟨_, rfl, _, _, e3, _, _, _, _, _, _, rfl, ok3.mono (by omega)⟩)
  refine ⟨s2, ?_⟩
  unfold lawTail
  exact mv_seq e (mv_ret mv_c)
end A38
namespace A38
open PySem PySem.Spec PyProof.Rows L2 LamX Mi
noncomputable section
/-- what the store's def gives: two new lists -/
def spStore (K : PySem.W.Frag) : Sp := fun vs H Q _ => ∃ (a0 : Addr) (ns : List Int), vs = [.ref a0] ∧ SqL K H a0 (ns.map V.int) ∧ ns.length ≤ 1000 ∧
  ∀ H' p c, (∀ b o, H b = some o → H' b = some o) → (∀ b, H' b ≠ none → K.lookup b = none) → H p = none → H c = none → c ≠ p → H' p = some (.lst [.ref c, .int 0, .int 0, .int 90001, .int 0]) → H' c = some (.lst (ns.map V.int)) → Q (.ref p) H'
theorem ifT {p q : Prop} (h : p) : if true = true then p else q := h
theorem sql_keep {K : PySem.W.Frag} {H H' : Hp} {a : Addr} {xs : List V} (k : ∀ b o, H b = some o → H' b = some o) (h : SqL K H a xs) : SqL K H' a xs := by
  rcases h with (h | ⟨o, h⟩) | h
  · exact .inl (.inl (k _ _ h))
  · exact .inl (.inr ⟨o, k _ _ h⟩)
  · exact .inr h
theorem ok_store {P : Program} {w : World} {K : PySem.W.Frag} {mg : Str → Option Value} {base : Heap} {f : Addr} {fd : FuncData} (F : Fun K "_law_store" "_law_store" s__law_store f fd) (z_int : mg "int" = none) : FnOk P w K mg base (L2N.CX P w) 1 f fd ["cells"] (spStore K) := by
  obtain ⟨oc, od, kV, doc, pm, an, cdv, ct, osl, rfl, lk, hcd⟩ := F.ex
  refine fn_of lk hcd sc__law_store (fun vs H Q E h => ?_) (fun A outer s H vs Q E hr h => ?_)
  · obtain ⟨a0, ns, rfl, _⟩ := h
    rfl
  · obtain ⟨a0, ns, rfl, hS, hn, q⟩ := h
    refine ⟨_, pss_one (ps_ret (pe_plus (pe_lst (pa_cons (pe_lc (own := [("given", 1)]) (g := gName 1) (tt := tYes) (te := tCB _ (tCons (tVar 1) tNil)) rfl sc__law_store.nd (pi_list (pe_var (i := 0) rfl (.inl rfl))) (blkOk_by (N := N__law_store) (sc := defScope s__law_store) (own := [("given", 1)]) (by decide +kernel)) (fun _ _ _ _ _ => pg_name (i := 1) sc__law_store.nd rfl (by first | exact Or.inl rfl | exact Or.inr rfl)) (fun _ _ _ _ _ => pts_nil)
      (fun _ _ _ _ _ => pe_callTy call_int1 (by rfl) z_int (by decide +kernel) (pa_cons (pe_var (i := 1) rfl (by first | exact Or.inl rfl | exact Or.inr (Or.inl rfl) | exact Or.inr (Or.inr rfl))) pa_nil)))
      (pa_cons pe_int (pa_cons pe_int (pa_cons pe_int (pa_cons pe_int pa_nil)))))))), ?_⟩
    refine ⟨.ref a0, rfl, a0, rfl, ⟨_, hS⟩, fun D nD => ?_⟩
    have hl : (ns.map V.int).length = ns.length := List.length_map _
    refine ⟨fun i m H' => m = ns.length - i ∧ i ≤ ns.length ∧ (∀ b o, H b = some o → H' b = some o) ∧ H' D = some (.lst ((ns.take i).map V.int)), ⟨ns.length, by simp, Nat.zero_le _, fun b o e => by rw [upd_ne (ne_of_none e nD)]; exact e, by rw [upd_same]; rfl⟩, ?_⟩
    rintro i m H' ⟨rfl, hi, hk, hD⟩
    have hS' := sql_keep hk hS
    by_cases hlt : i < ns.length
    · have hx : (ns.map V.int)[i]? = some (.int ns[i]) := by rw [List.getElem?_map, List.getElem?_eq_getElem hlt]; rfl
      refine .inr ⟨⟨_, _, hS', hx⟩, fun H2 => (∀ b o, H b = some o → H2 b = some o) ∧ H2 D = some (.lst ((ns.take (i + 1)).map V.int)), fun H2 q2 => ⟨ns.length - (i + 1), by omega, rfl, hlt, q2⟩, fun x H2 y => ?_⟩
      obtain ⟨rfl, hy⟩ := y
      have hx2 := hy _ hS'
      rw [hx] at hx2
      obtain rfl := Option.some.inj hx2
      refine ⟨rfl, ?_⟩
      unfold tYes
      dsimp only
      rw [if_pos rfl]
      refine ⟨.int ns[i], rfl, .inl ⟨ns[i], rfl, ?_⟩⟩
      refine ⟨_, hD, ?_, fun b o e => ?_, ?_⟩
      · rw [List.length_map, List.length_take]
        exact size5' (by omega)
      · rw [upd_ne (ne_of_none e nD)]
        exact hk b o e
      · rw [upd_same, List.take_succ, List.getElem?_eq_getElem hlt, List.map_append]
        rfl
    · have e : i = ns.length := by omega
      subst e
      rw [List.take_length] at hD
      refine .inl ⟨⟨_, hS', by rw [hl]; exact Nat.le_refl _⟩, size5 (show 5 ≤ 100000 by decide), fun p np kf => ?_⟩
      have ncp : D ≠ p := ne_of_none hD np
      exact q _ p D (fun b o e => by rw [upd_ne (ne_of_none (hk b o e) np)]; exact hk b o e) kf (by
        cases e : H p with
        | none => rfl
        | some o => rw [hk p o e] at np; cases np) nD ncp upd_same (by rw [upd_ne ncp]; exact hD)
end
end A38
namespace A38
open PySem PySem.Spec PyProof.Rows L2 LamX Mi
noncomputable section
/-- statements behind the making of the store -/
def tCanR (X : Cx) (E : XK) (Tb : List (Addr × PySem.Str)) (G : FS) : TS := fun Dn σ H => (∀ b, H b ≠ none → X.K.lookup b = none) → ∃ (st : Sto) (δ : Ev) (H0 : Hp) (B : Bad) (s : S) (po : Nat → Addr), st.T = Tb ∧ HS (cf X st) H s ∧ SR (cf X st) H0 B H σ δ po ∧ PostS (cf X st) H0 B (Bo B δ po) H (G δ s) Dn E
theorem can_rest {X : Cx} {E : XK} {Tb : List (Addr × PySem.Str)} {G : FS} {ts : List Stmt} (h : ∀ st : Sto, st.T = Tb → SD X st E ts G) : PSs X ts (tCanR X E Tb G) := ⟨fun pins s σ H D I hw => by
  obtain ⟨st, δ, H0, B, S0, po, hT, hs, hr, hp⟩ := hw (inv_kf I)
  obtain ⟨t, p, r⟩ := h st hT
  exact p.run pins s σ H D I (r D σ δ H0 B H S0 po hs hr hp)⟩
def spLaw (K : PySem.W.Frag) (Tb : List (Addr × PySem.Str)) : Sp := fun vs H Q _ => ∃ (a0 : Addr) (ns : List Int), vs = [.ref a0] ∧ SqL K H a0 (ns.map V.int) ∧ ns.length ≤ 63 ∧ (∀ z ∈ ns, Builtin.Int.intBits z ≤ 1048576) ∧ Tabs Tb H ∧ ∀ H', Q (.bl true) H'
theorem ok_law2 {P : Program} {w : World} {K : PySem.W.Frag} {mg : PySem.Str → Option Value} {base : Heap} {Tb : List (Addr × PySem.Str)} {f fs : Addr} {fd fds : FuncData} (F : Fun K "law" "law" s_law f fd)
    (FS0 : FnOk P w K mg base (L2N.CX P w) 1 fs fds ["cells"] (spStore K)) (m0 : mg "_law_store" = some (.ref fs)) (kp0 : PySem.W.keepIn K (.ref fs) = true) (b0 : Binds K fds ["cells"] [])
    (z_range : mg "range" = none) (k__law_bad_number : DefOk P w K mg base Tb "_law_bad_number" 36 2 [] m__law_bad_number) (k__law_operand_pair : DefOk P w K mg base Tb "_law_operand_pair" 38 1 [] m__law_operand_pair) (k__law_refused : DefOk P w K mg base Tb "_law_refused" 62 2 [] m__law_refused) (k__law_rests_right : DefOk P w K mg base Tb "_law_rests_right" 62 2 [] m__law_rests_right) (k__law_road_right : DefOk P w K mg base Tb "_law_road_right" 63 3 [] m__law_road_right) (k_cut_rest : DefOk P w K mg base Tb "cut_rest" 6 2 [] m_cut_rest) (k_exact_quotient : DefOk P w K mg base Tb "exact_quotient" 36 2 [] m_exact_quotient) (k_rest : DefOk P w K mg base Tb "rest" 6 2 [] m_rest) (lam : LamK base mg Tb fd "law.<locals>.") : FnOk P w K mg base (L2N.CX P w) 64 f fd ["script"] (spLaw K Tb) := by
  obtain ⟨oc, od, kV, doc, pm, an, cdv, ct, osl, rfl, lk, hcd⟩ := F.ex
  refine fn_of lk hcd sc_law (fun vs H Q E h => ?_) (fun A outer s H vs Q E hr h => ?_)
  · obtain ⟨a0, ns, rfl, _⟩ := h
    rfl
  · obtain ⟨a0, ns, rfl, hS, hn, hb, hT, q⟩ := h
    have px := cx_passes (P := P) (w := w) (K := K) (mg := mg) (base := base) (N := N_law) (qual := "law") (stm := s_law) (f := f) (cdv := cdv) (A := A) (outer := outer) (s := s) (H := H) (E := E)
    refine ⟨_, pss_cons (ps_set (i := 1) sc_law.nd rfl (by first | exact .inl rfl | exact .inr rfl) (pe_call FS0 (hr.mono (by omega)) (by rfl) m0 kp0 b0 .nil px (pa_cons (pe_var (i := 0) rfl (.inl rfl)) pa_nil))) (can_rest (E := E) (Tb := Tb) (G := lawTail) fun st hst => ?_), ?_⟩
    · subst hst
      have lk : LamOk (cx P w K mg base N_law "law" s_law f cdv A outer s H E) st := lam_ok lam (by intro _; rfl) rfl
      exact (sd_cons (s_for (passes_of rfl) rfl (id_range1 (ad_cons ed_int ad_nil) z_range) (gd_name 2 sc_law.nd) (sd_cons (s_tgt (ed_call k__law_operand_pair (hr.mono (by omega)) px (ad_cons (ed_var 1) ad_nil)) (gd_tup rfl (gd_cons (gd_name 4 sc_law.nd) (gd_cons (gd_name 5 sc_law.nd) gd_nil)))) (sd_cons (s_if (WD.td (wd_or (td_not (td_tru (ed_call k__law_rests_right (hr.mono (by omega)) px (ad_cons (ed_var 4) (ad_cons (ed_var 5) ad_nil))))) (wd_or1 (td_not (td_tru (ed_call k__law_road_right (hr.mono (by omega)) px (ad_cons (ed_var 1) (ad_cons (ed_var 4) (ad_cons (ed_var 5) ad_nil))))))))) (sd_one (s_ret ed_bl)) sd_nil) (sd_cons (s_set 3 sc_law.nd (ed_call k__law_bad_number (hr.mono (by omega)) px (ad_cons (ed_var 1) (ad_cons (ed_var 4) ad_nil)))) (sd_cons (s_for (passes_of rfl) rfl (id_lst (ed_lst (ad_cons (ed_tup (ad_cons (ed_var 3) (ad_cons (ed_var 5) ad_nil))) (ad_cons (ed_tup (ad_cons (ed_var 4) (ad_cons (ed_var 3) ad_nil))) (ad_cons (ed_tup (ad_cons (ed_tup (ad_cons (ed_cmp (opd_eq (hu64 hr)) (ed_ix (ed_var 4) ed_int) ed_int (nomark _)) (ad_cons (ed_ix (ed_var 4) ed_int) (ad_cons (ed_ix (ed_var 4) ed_int) ad_nil)))) (ad_cons (ed_var 5) ad_nil))) ad_nil))))) (gd_tup rfl (gd_cons (gd_name 6 sc_law.nd) (gd_cons (gd_name 7 sc_law.nd) gd_nil))) (sd_cons (s_if (td_not (td_tru (ed_lam k__law_refused (hr.mono (by omega)) lk (fun _ => rfl) (lamS_by (sc := defScope s_law) (by decide +kernel)) rfl (fun _ _ _ _ _ => rfl) (fun A outer sh H E f c2 hr px => (ed_call k_rest (hr.mono (by omega)) px (ad_cons (ed_var 6) (ad_cons (ed_var 7) ad_nil)))) (ad_cons ed_str ad_nil)))) (sd_one (s_ret ed_bl)) sd_nil) (sd_cons (s_if (td_not (td_tru (ed_lam k__law_refused (hr.mono (by omega)) lk (fun _ => rfl) (lamS_by (sc := defScope s_law) (by decide +kernel)) rfl (fun _ _ _ _ _ => rfl) (fun A outer sh H E f c2 hr px => (ed_call k_cut_rest (hr.mono (by omega)) px (ad_cons (ed_var 6) (ad_cons (ed_var 7) ad_nil)))) (ad_cons ed_str ad_nil)))) (sd_one (s_ret ed_bl)) sd_nil) (sd_one (s_if (td_not (td_tru (ed_lam k__law_refused (hr.mono (by omega)) lk (fun _ => rfl) (lamS_by (sc := defScope s_law) (by decide +kernel)) rfl (fun _ _ _ _ _ => rfl) (fun A outer sh H E f c2 hr px => (ed_call k_exact_quotient (hr.mono (by omega)) px (ad_cons (ed_var 6) (ad_cons (ed_var 7) ad_nil)))) (ad_cons ed_str ad_nil)))) (sd_one (s_ret ed_bl)) sd_nil))))) (sd_one (s_if (td_not (td_tru (ed_call k__law_rests_right (hr.mono (by omega)) px (ad_cons (ed_var 4) (ad_cons (ed_var 5) ad_nil))))) (sd_one (s_ret ed_bl)) sd_nil))))))) (sd_one (s_ret ed_bl)))
    · refine ⟨.ref a0, rfl, a0, ns, rfl, hS, by omega, fun H' p c keep kf np nc ncp hp hc => ?_⟩
      intro kf2
      have hT' : Tabs Tb H' := hT.ext keep
      let st : Sto := ⟨some p, c, Tb, none⟩
      let X : Cx := cx P w K mg base N_law "law" s_law f cdv A outer s H E
      have hs : HS (cf X st) H' ⟨ns, 0, 0, 90001, 0⟩ := ⟨fun a e => by
        obtain rfl : p = a := Option.some.inj e
        exact ⟨hp, hc, ncp⟩, hT'⟩
      have bk : BOk (cf X st) H' (fun b => (cf X st).Mut b ∨ b = c) := ⟨fun a z => by
        rcases z with z | rfl
        · exact hs.mutK z
        · exact .inl ⟨_, hc⟩, fun a z => .inl z, fun a z => .inr rfl, kf⟩
      obtain ⟨s', e'⟩ := lawTail_ok (x0 := .u) (s := ⟨ns, 0, 0, 90001, 0⟩) ⟨hb, hn, Int.le_refl _, by show (0 : Int) ≤ 100; decide, Int.le_refl _, by show Builtin.Int.intBits 90001 ≤ 31; decide +kernel, Int.le_refl _, Int.le_refl _⟩
      refine ⟨st, [.u, .d .sto, .u, .u, .u, .u, .u, .u], H', _, ⟨ns, 0, 0, 90001, 0⟩, fun _ => 0, rfl, hs, ⟨rfl, Keeps.refl _ H', bk, kf, fun i ds e => ?_, fun i j ds ds' e => ?_, fun i x e => ?_⟩, ?_⟩
      · match i, e with
        | 0, e => cases e
        | 1, e => cases e
        | 2, e => cases e
        | 3, e => cases e
        | 4, e => cases e
        | 5, e => cases e
        | 6, e => cases e
        | 7, e => cases e
        | i + 8, e => simp at e
      · match i, e with
        | 0, e => cases e
        | 1, e => cases e
        | 2, e => cases e
        | 3, e => cases e
        | 4, e => cases e
        | 5, e => cases e
        | 6, e => cases e
        | 7, e => cases e
        | i + 8, e => simp at e
      · match i, e with
        | 0, e => cases e
        | 1, e =>
          cases e
          exact ⟨.ref p, rfl, p, rfl, rfl⟩
        | 2, e => cases e
        | 3, e => cases e
        | 4, e => cases e
        | 5, e => cases e
        | 6, e => cases e
        | 7, e => cases e
        | i + 8, e => simp at e
      · rw [e']
        intro v H2 _ _ _ dv
        rw [show v = .bl true from dv]
        exact q H2
end
end A38
section
set_option maxHeartbeats 0
namespace A38
open PySem PySem.Spec PyProof.Rows L2 LamX Mi
theorem facts {w : World} {K : PySem.W.Frag} {h : Heap} {mg : PySem.Str → Option Value} {fl0 : Addr} (X : K.In h) (G : h.Ns mainGlobals mg) (hfl : mg ("law" : PySem.Str) = some (.ref fl0)) (c : He.SaysX hfa hfn [] htf hex w h K) : Keeping PySem.Challenge.rw_everyrounding_k38_rest_is_muladd w K 64 63 "script" mg fl0 h := by
  have cd := c.t.d
  have cm : (isTabB K && (tcB K 4 "INVALID" (.tup [(.tup [(.int 0), (.int (-2)), (.int 0)]), (.tup [(.str "invalid")])]) && (He.tupB K "MODES" ((["even", "away", "zero", "up", "down", "odd"] : List PySem.Str).map He.Dv.str) && (tcB K 4 "NAN" (.tup [(.int 0), (.int (-2)), (.int 0)]) && (bfB K "gcd" "math.gcd" && (bfB K "isqrt" "math.isqrt" && (disB K hlm))))))) = true := c.more
  simp only [Bool.and_eq_true] at cm
  obtain ⟨x0, x1, x2, x3, x4, x5, x6⟩ := cm
  have q_is_integer := He.glo_ok X G (cd.fact 0 (f := .glo "is_integer") rfl)
  obtain ⟨fd_is_integer, D_is_integer⟩ := cd.def_ 0 (d := dd_is_integer) rfl
  have F_is_integer : Fun K "is_integer" "is_integer" s_is_integer (He.ga K "is_integer") fd_is_integer := fun_of D_is_integer
  have b_is_integer : Binds K fd_is_integer ["value"] [] := FunD.bindsN D_is_integer fun _ _ _ _ _ _ us hl => match us, hl with | [_], _ => rfl
  have q_are_integers := He.glo_ok X G (cd.fact 1 (f := .glo "are_integers") rfl)
  obtain ⟨fd_are_integers, D_are_integers⟩ := cd.def_ 1 (d := dd_are_integers) rfl
  have F_are_integers : Fun K "are_integers" "are_integers" s_are_integers (He.ga K "are_integers") fd_are_integers := fun_of D_are_integers
  have b_are_integers : Binds K fd_are_integers ["value", "many"] [] := FunD.bindsN D_are_integers fun _ _ _ _ _ _ us hl => match us, hl with | [_, _], _ => rfl
  have q_check_count := He.glo_ok X G (cd.fact 2 (f := .glo "check_count") rfl)
  obtain ⟨fd_check_count, D_check_count⟩ := cd.def_ 2 (d := dd_check_count) rfl
  have F_check_count : Fun K "check_count" "check_count" s_check_count (He.ga K "check_count") fd_check_count := fun_of D_check_count
  have b_check_count : Binds K fd_check_count ["value", "low", "high"] [] := FunD.bindsN D_check_count fun _ _ _ _ _ _ us hl => match us, hl with | [_, _, _], _ => rfl
  have q_is_format := He.glo_ok X G (cd.fact 3 (f := .glo "is_format") rfl)
  obtain ⟨fd_is_format, D_is_format⟩ := cd.def_ 3 (d := dd_is_format) rfl
  have F_is_format : Fun K "is_format" "is_format" s_is_format (He.ga K "is_format") fd_is_format := fun_of D_is_format
  have b_is_format : Binds K fd_is_format ["form"] [] := FunD.bindsN D_is_format fun _ _ _ _ _ _ us hl => match us, hl with | [_], _ => rfl
  have q_check_format := He.glo_ok X G (cd.fact 4 (f := .glo "check_format") rfl)
  obtain ⟨fd_check_format, D_check_format⟩ := cd.def_ 4 (d := dd_check_format) rfl
  have F_check_format : Fun K "check_format" "check_format" s_check_format (He.ga K "check_format") fd_check_format := fun_of D_check_format
  have b_check_format : Binds K fd_check_format ["form"] [] := FunD.bindsN D_check_format fun _ _ _ _ _ _ us hl => match us, hl with | [_], _ => rfl
  have q_unit_at := He.glo_ok X G (cd.fact 5 (f := .glo "unit_at") rfl)
  obtain ⟨fd_unit_at, D_unit_at⟩ := cd.def_ 5 (d := dd_unit_at) rfl
  have F_unit_at : Fun K "unit_at" "unit_at" s_unit_at (He.ga K "unit_at") fd_unit_at := fun_of D_unit_at
  have b_unit_at : Binds K fd_unit_at ["form", "power"] [] := FunD.bindsN D_unit_at fun _ _ _ _ _ _ us hl => match us, hl with | [_, _], _ => rfl
  have q_in_bounds := He.glo_ok X G (cd.fact 6 (f := .glo "in_bounds") rfl)
  obtain ⟨fd_in_bounds, D_in_bounds⟩ := cd.def_ 6 (d := dd_in_bounds) rfl
  have F_in_bounds : Fun K "in_bounds" "in_bounds" s_in_bounds (He.ga K "in_bounds") fd_in_bounds := fun_of D_in_bounds
  have b_in_bounds : Binds K fd_in_bounds ["m", "q"] [] := FunD.bindsN D_in_bounds fun _ _ _ _ _ _ us hl => match us, hl with | [_, _], _ => rfl
  have q_is_number := He.glo_ok X G (cd.fact 7 (f := .glo "is_number") rfl)
  obtain ⟨fd_is_number, D_is_number⟩ := cd.def_ 7 (d := dd_is_number) rfl
  have F_is_number : Fun K "is_number" "is_number" s_is_number (He.ga K "is_number") fd_is_number := fun_of D_is_number
  have b_is_number : Binds K fd_is_number ["value"] [] := FunD.bindsN D_is_number fun _ _ _ _ _ _ us hl => match us, hl with | [_], _ => rfl
  have q_check_number := He.glo_ok X G (cd.fact 8 (f := .glo "check_number") rfl)
  obtain ⟨fd_check_number, D_check_number⟩ := cd.def_ 8 (d := dd_check_number) rfl
  have F_check_number : Fun K "check_number" "check_number" s_check_number (He.ga K "check_number") fd_check_number := fun_of D_check_number
  have b_check_number : Binds K fd_check_number ["x"] [] := FunD.bindsN D_check_number fun _ _ _ _ _ _ us hl => match us, hl with | [_], _ => rfl
  have q_is_zero := He.glo_ok X G (cd.fact 9 (f := .glo "is_zero") rfl)
  obtain ⟨fd_is_zero, D_is_zero⟩ := cd.def_ 9 (d := dd_is_zero) rfl
  have F_is_zero : Fun K "is_zero" "is_zero" s_is_zero (He.ga K "is_zero") fd_is_zero := fun_of D_is_zero
  have b_is_zero : Binds K fd_is_zero ["x"] [] := FunD.bindsN D_is_zero fun _ _ _ _ _ _ us hl => match us, hl with | [_], _ => rfl
  have q_is_infinite := He.glo_ok X G (cd.fact 10 (f := .glo "is_infinite") rfl)
  obtain ⟨fd_is_infinite, D_is_infinite⟩ := cd.def_ 10 (d := dd_is_infinite) rfl
  have F_is_infinite : Fun K "is_infinite" "is_infinite" s_is_infinite (He.ga K "is_infinite") fd_is_infinite := fun_of D_is_infinite
  have b_is_infinite : Binds K fd_is_infinite ["x"] [] := FunD.bindsN D_is_infinite fun _ _ _ _ _ _ us hl => match us, hl with | [_], _ => rfl
  have q_is_nan := He.glo_ok X G (cd.fact 11 (f := .glo "is_nan") rfl)
  obtain ⟨fd_is_nan, D_is_nan⟩ := cd.def_ 11 (d := dd_is_nan) rfl
  have F_is_nan : Fun K "is_nan" "is_nan" s_is_nan (He.ga K "is_nan") fd_is_nan := fun_of D_is_nan
  have b_is_nan : Binds K fd_is_nan ["x"] [] := FunD.bindsN D_is_nan fun _ _ _ _ _ _ us hl => match us, hl with | [_], _ => rfl
  have q_check_valued := He.glo_ok X G (cd.fact 12 (f := .glo "check_valued") rfl)
  obtain ⟨fd_check_valued, D_check_valued⟩ := cd.def_ 12 (d := dd_check_valued) rfl
  have F_check_valued : Fun K "check_valued" "check_valued" s_check_valued (He.ga K "check_valued") fd_check_valued := fun_of D_check_valued
  have b_check_valued : Binds K fd_check_valued ["x"] [] := FunD.bindsN D_check_valued fun _ _ _ _ _ _ us hl => match us, hl with | [_], _ => rfl
  have q_odd_parts := He.glo_ok X G (cd.fact 13 (f := .glo "odd_parts") rfl)
  obtain ⟨fd_odd_parts, D_odd_parts⟩ := cd.def_ 13 (d := dd_odd_parts) rfl
  have F_odd_parts : Fun K "odd_parts" "odd_parts" s_odd_parts (He.ga K "odd_parts") fd_odd_parts := fun_of D_odd_parts
  have b_odd_parts : Binds K fd_odd_parts ["m", "q"] [] := FunD.bindsN D_odd_parts fun _ _ _ _ _ _ us hl => match us, hl with | [_, _], _ => rfl
  have q_signed := He.glo_ok X G (cd.fact 14 (f := .glo "signed") rfl)
  obtain ⟨fd_signed, D_signed⟩ := cd.def_ 14 (d := dd_signed) rfl
  have F_signed : Fun K "signed" "signed" s_signed (He.ga K "signed") fd_signed := fun_of D_signed
  have b_signed : Binds K fd_signed ["s", "m", "q"] [] := FunD.bindsN D_signed fun _ _ _ _ _ _ us hl => match us, hl with | [_, _, _], _ => rfl
  have q_signed_part := He.glo_ok X G (cd.fact 15 (f := .glo "signed_part") rfl)
  obtain ⟨fd_signed_part, D_signed_part⟩ := cd.def_ 15 (d := dd_signed_part) rfl
  have F_signed_part : Fun K "signed_part" "signed_part" s_signed_part (He.ga K "signed_part") fd_signed_part := fun_of D_signed_part
  have b_signed_part : Binds K fd_signed_part ["x"] [] := FunD.bindsN D_signed_part fun _ _ _ _ _ _ us hl => match us, hl with | [_], _ => rfl
  have q_dyadic := He.glo_ok X G (cd.fact 16 (f := .glo "dyadic") rfl)
  obtain ⟨fd_dyadic, D_dyadic⟩ := cd.def_ 16 (d := dd_dyadic) rfl
  have F_dyadic : Fun K "dyadic" "dyadic" s_dyadic (He.ga K "dyadic") fd_dyadic := fun_of D_dyadic
  have b_dyadic : Binds K fd_dyadic ["m", "q"] [] := FunD.bindsN D_dyadic fun _ _ _ _ _ _ us hl => match us, hl with | [_, _], _ => rfl
  have q_compare_integers := He.glo_ok X G (cd.fact 17 (f := .glo "compare_integers") rfl)
  obtain ⟨fd_compare_integers, D_compare_integers⟩ := cd.def_ 17 (d := dd_compare_integers) rfl
  have F_compare_integers : Fun K "compare_integers" "compare_integers" s_compare_integers (He.ga K "compare_integers") fd_compare_integers := fun_of D_compare_integers
  have b_compare_integers : Binds K fd_compare_integers ["a", "b"] [] := FunD.bindsN D_compare_integers fun _ _ _ _ _ _ us hl => match us, hl with | [_, _], _ => rfl
  have q_exact_value := He.glo_ok X G (cd.fact 18 (f := .glo "exact_value") rfl)
  obtain ⟨fd_exact_value, D_exact_value⟩ := cd.def_ 18 (d := dd_exact_value) rfl
  have F_exact_value : Fun K "exact_value" "exact_value" s_exact_value (He.ga K "exact_value") fd_exact_value := fun_of D_exact_value
  have b_exact_value : Binds K fd_exact_value ["x"] [] := FunD.bindsN D_exact_value fun _ _ _ _ _ _ us hl => match us, hl with | [_], _ => rfl
  have q_is_exact := He.glo_ok X G (cd.fact 19 (f := .glo "is_exact") rfl)
  obtain ⟨fd_is_exact, D_is_exact⟩ := cd.def_ 19 (d := dd_is_exact) rfl
  have F_is_exact : Fun K "is_exact" "is_exact" s_is_exact (He.ga K "is_exact") fd_is_exact := fun_of D_is_exact
  have b_is_exact : Binds K fd_is_exact ["value"] [] := FunD.bindsN D_is_exact fun _ _ _ _ _ _ us hl => match us, hl with | [_], _ => rfl
  have q_check_exact := He.glo_ok X G (cd.fact 20 (f := .glo "check_exact") rfl)
  obtain ⟨fd_check_exact, D_check_exact⟩ := cd.def_ 20 (d := dd_check_exact) rfl
  have F_check_exact : Fun K "check_exact" "check_exact" s_check_exact (He.ga K "check_exact") fd_check_exact := fun_of D_check_exact
  have b_check_exact : Binds K fd_check_exact ["exact"] [] := FunD.bindsN D_check_exact fun _ _ _ _ _ _ us hl => match us, hl with | [_], _ => rfl
  have q_lowest := He.glo_ok X G (cd.fact 21 (f := .glo "lowest") rfl)
  obtain ⟨fd_lowest, D_lowest⟩ := cd.def_ 21 (d := dd_lowest) rfl
  have F_lowest : Fun K "lowest" "lowest" s_lowest (He.ga K "lowest") fd_lowest := fun_of D_lowest
  have b_lowest : Binds K fd_lowest ["n", "d", "k"] [] := FunD.bindsN D_lowest fun _ _ _ _ _ _ us hl => match us, hl with | [_, _, _], _ => rfl
  have q_powered := He.glo_ok X G (cd.fact 22 (f := .glo "powered") rfl)
  obtain ⟨fd_powered, D_powered⟩ := cd.def_ 22 (d := dd_powered) rfl
  have F_powered : Fun K "powered" "powered" s_powered (He.ga K "powered") fd_powered := fun_of D_powered
  have b_powered : Binds K fd_powered ["base", "k"] [] := FunD.bindsN D_powered fun _ _ _ _ _ _ us hl => match us, hl with | [_, _], _ => rfl
  have q_power_of := He.glo_ok X G (cd.fact 23 (f := .glo "power_of") rfl)
  obtain ⟨fd_power_of, D_power_of⟩ := cd.def_ 23 (d := dd_power_of) rfl
  have F_power_of : Fun K "power_of" "power_of" s_power_of (He.ga K "power_of") fd_power_of := fun_of D_power_of
  have b_power_of : Binds K fd_power_of ["exact"] [] := FunD.bindsN D_power_of fun _ _ _ _ _ _ us hl => match us, hl with | [_], _ => rfl
  have q_place_of := He.glo_ok X G (cd.fact 24 (f := .glo "place_of") rfl)
  obtain ⟨fd_place_of, D_place_of⟩ := cd.def_ 24 (d := dd_place_of) rfl
  have F_place_of : Fun K "place_of" "place_of" s_place_of (He.ga K "place_of") fd_place_of := fun_of D_place_of
  have b_place_of : Binds K fd_place_of ["exact", "unit"] [] := FunD.bindsN D_place_of fun _ _ _ _ _ _ us hl => match us, hl with | [_, _], _ => rfl
  have q_place := He.glo_ok X G (cd.fact 25 (f := .glo "place") rfl)
  obtain ⟨fd_place, D_place⟩ := cd.def_ 25 (d := dd_place) rfl
  have F_place : Fun K "place" "place" s_place (He.ga K "place") fd_place := fun_of D_place
  have b_place : Binds K fd_place ["exact", "u"] [] := FunD.bindsN D_place fun _ _ _ _ _ _ us hl => match us, hl with | [_, _], _ => rfl
  have q_is_mode := He.glo_ok X G (cd.fact 26 (f := .glo "is_mode") rfl)
  obtain ⟨fd_is_mode, D_is_mode⟩ := cd.def_ 26 (d := dd_is_mode) rfl
  have F_is_mode : Fun K "is_mode" "is_mode" s_is_mode (He.ga K "is_mode") fd_is_mode := fun_of D_is_mode
  have b_is_mode : Binds K fd_is_mode ["value"] [] := FunD.bindsN D_is_mode fun _ _ _ _ _ _ us hl => match us, hl with | [_], _ => rfl
  have q_check_mode := He.glo_ok X G (cd.fact 27 (f := .glo "check_mode") rfl)
  obtain ⟨fd_check_mode, D_check_mode⟩ := cd.def_ 27 (d := dd_check_mode) rfl
  have F_check_mode : Fun K "check_mode" "check_mode" s_check_mode (He.ga K "check_mode") fd_check_mode := fun_of D_check_mode
  have b_check_mode : Binds K fd_check_mode ["mode"] [] := FunD.bindsN D_check_mode fun _ _ _ _ _ _ us hl => match us, hl with | [_], _ => rfl
  have q_steps_up := He.glo_ok X G (cd.fact 28 (f := .glo "steps_up") rfl)
  obtain ⟨fd_steps_up, D_steps_up⟩ := cd.def_ 28 (d := dd_steps_up) rfl
  have F_steps_up : Fun K "steps_up" "steps_up" s_steps_up (He.ga K "steps_up") fd_steps_up := fun_of D_steps_up
  have b_steps_up : Binds K fd_steps_up ["mode", "s", "k", "where"] [] := FunD.bindsN D_steps_up fun _ _ _ _ _ _ us hl => match us, hl with | [_, _, _, _], _ => rfl
  have q_choice := He.glo_ok X G (cd.fact 29 (f := .glo "choice") rfl)
  obtain ⟨fd_choice, D_choice⟩ := cd.def_ 29 (d := dd_choice) rfl
  have F_choice : Fun K "choice" "choice" s_choice (He.ga K "choice") fd_choice := fun_of D_choice
  have b_choice : Binds K fd_choice ["mode", "s", "k", "where"] [] := FunD.bindsN D_choice fun _ _ _ _ _ _ us hl => match us, hl with | [_, _, _, _], _ => rfl
  have q_exact_sign := He.glo_ok X G (cd.fact 30 (f := .glo "exact_sign") rfl)
  obtain ⟨fd_exact_sign, D_exact_sign⟩ := cd.def_ 30 (d := dd_exact_sign) rfl
  have F_exact_sign : Fun K "exact_sign" "exact_sign" s_exact_sign (He.ga K "exact_sign") fd_exact_sign := fun_of D_exact_sign
  have b_exact_sign : Binds K fd_exact_sign ["exact"] [] := FunD.bindsN D_exact_sign fun _ _ _ _ _ _ us hl => match us, hl with | [_], _ => rfl
  have q_overflowed := He.glo_ok X G (cd.fact 31 (f := .glo "overflowed") rfl)
  obtain ⟨fd_overflowed, D_overflowed⟩ := cd.def_ 31 (d := dd_overflowed) rfl
  have F_overflowed : Fun K "overflowed" "overflowed" s_overflowed (He.ga K "overflowed") fd_overflowed := fun_of D_overflowed
  have b_overflowed : Binds K fd_overflowed ["form", "mode", "s"] [] := FunD.bindsN D_overflowed fun _ _ _ _ _ _ us hl => match us, hl with | [_, _, _], _ => rfl
  have q_is_tiny := He.glo_ok X G (cd.fact 32 (f := .glo "is_tiny") rfl)
  obtain ⟨fd_is_tiny, D_is_tiny⟩ := cd.def_ 32 (d := dd_is_tiny) rfl
  have F_is_tiny : Fun K "is_tiny" "is_tiny" s_is_tiny (He.ga K "is_tiny") fd_is_tiny := fun_of D_is_tiny
  have b_is_tiny : Binds K fd_is_tiny ["form", "power"] [] := FunD.bindsN D_is_tiny fun _ _ _ _ _ _ us hl => match us, hl with | [_, _], _ => rfl
  have q_round_exact := He.glo_ok X G (cd.fact 33 (f := .glo "round_exact") rfl)
  obtain ⟨fd_round_exact, D_round_exact⟩ := cd.def_ 33 (d := dd_round_exact) rfl
  have F_round_exact : Fun K "round_exact" "round_exact" s_round_exact (He.ga K "round_exact") fd_round_exact := fun_of D_round_exact
  have b_round_exact : Binds K fd_round_exact ["form", "exact", "mode", "s"] [] := FunD.bindsN D_round_exact fun _ _ _ _ _ _ us hl => match us, hl with | [_, _, _, _], _ => rfl
  have q_check_step := He.glo_ok X G (cd.fact 34 (f := .glo "check_step") rfl)
  obtain ⟨fd_check_step, D_check_step⟩ := cd.def_ 34 (d := dd_check_step) rfl
  have F_check_step : Fun K "check_step" "check_step" s_check_step (He.ga K "check_step") fd_check_step := fun_of D_check_step
  have b_check_step : Binds K fd_check_step ["form", "xs", "mode"] [] := FunD.bindsN D_check_step fun _ _ _ _ _ _ us hl => match us, hl with | [_, _, _], _ => rfl
  have q_any_nan := He.glo_ok X G (cd.fact 35 (f := .glo "any_nan") rfl)
  obtain ⟨fd_any_nan, D_any_nan⟩ := cd.def_ 35 (d := dd_any_nan) rfl
  have F_any_nan : Fun K "any_nan" "any_nan" s_any_nan (He.ga K "any_nan") fd_any_nan := fun_of D_any_nan
  have b_any_nan : Binds K fd_any_nan ["xs"] [] := FunD.bindsN D_any_nan fun _ _ _ _ _ _ us hl => match us, hl with | [_], _ => rfl
  have q_dyadic_sum := He.glo_ok X G (cd.fact 36 (f := .glo "dyadic_sum") rfl)
  obtain ⟨fd_dyadic_sum, D_dyadic_sum⟩ := cd.def_ 36 (d := dd_dyadic_sum) rfl
  have F_dyadic_sum : Fun K "dyadic_sum" "dyadic_sum" s_dyadic_sum (He.ga K "dyadic_sum") fd_dyadic_sum := fun_of D_dyadic_sum
  have b_dyadic_sum : Binds K fd_dyadic_sum ["m", "q", "m2", "q2"] [] := FunD.bindsN D_dyadic_sum fun _ _ _ _ _ _ us hl => match us, hl with | [_, _, _, _], _ => rfl
  have q_zero_sign := He.glo_ok X G (cd.fact 37 (f := .glo "zero_sign") rfl)
  obtain ⟨fd_zero_sign, D_zero_sign⟩ := cd.def_ 37 (d := dd_zero_sign) rfl
  have F_zero_sign : Fun K "zero_sign" "zero_sign" s_zero_sign (He.ga K "zero_sign") fd_zero_sign := fun_of D_zero_sign
  have b_zero_sign : Binds K fd_zero_sign ["s", "s2", "both_zero", "mode"] [] := FunD.bindsN D_zero_sign fun _ _ _ _ _ _ us hl => match us, hl with | [_, _, _, _], _ => rfl
  have q_product_parts := He.glo_ok X G (cd.fact 38 (f := .glo "product_parts") rfl)
  obtain ⟨fd_product_parts, D_product_parts⟩ := cd.def_ 38 (d := dd_product_parts) rfl
  have F_product_parts : Fun K "product_parts" "product_parts" s_product_parts (He.ga K "product_parts") fd_product_parts := fun_of D_product_parts
  have b_product_parts : Binds K fd_product_parts ["x", "y"] [] := FunD.bindsN D_product_parts fun _ _ _ _ _ _ us hl => match us, hl with | [_, _], _ => rfl
  have q_round_sum_of := He.glo_ok X G (cd.fact 39 (f := .glo "round_sum_of") rfl)
  obtain ⟨fd_round_sum_of, D_round_sum_of⟩ := cd.def_ 39 (d := dd_round_sum_of) rfl
  have F_round_sum_of : Fun K "round_sum_of" "round_sum_of" s_round_sum_of (He.ga K "round_sum_of") fd_round_sum_of := fun_of D_round_sum_of
  have b_round_sum_of : Binds K fd_round_sum_of ["form", "x", "y", "mode"] [] := FunD.bindsN D_round_sum_of fun _ _ _ _ _ _ us hl => match us, hl with | [_, _, _, _], _ => rfl
  have q_sum_answer := He.glo_ok X G (cd.fact 40 (f := .glo "sum_answer") rfl)
  obtain ⟨fd_sum_answer, D_sum_answer⟩ := cd.def_ 40 (d := dd_sum_answer) rfl
  have F_sum_answer : Fun K "sum_answer" "sum_answer" s_sum_answer (He.ga K "sum_answer") fd_sum_answer := fun_of D_sum_answer
  have b_sum_answer : Binds K fd_sum_answer ["form", "x", "y", "mode"] [] := FunD.bindsN D_sum_answer fun _ _ _ _ _ _ us hl => match us, hl with | [_, _, _, _], _ => rfl
  have q_muladd_answer := He.glo_ok X G (cd.fact 41 (f := .glo "muladd_answer") rfl)
  obtain ⟨fd_muladd_answer, D_muladd_answer⟩ := cd.def_ 41 (d := dd_muladd_answer) rfl
  have F_muladd_answer : Fun K "muladd_answer" "muladd_answer" s_muladd_answer (He.ga K "muladd_answer") fd_muladd_answer := fun_of D_muladd_answer
  have b_muladd_answer : Binds K fd_muladd_answer ["form", "x", "y", "z", "mode"] [] := FunD.bindsN D_muladd_answer fun _ _ _ _ _ _ us hl => match us, hl with | [_, _, _, _, _], _ => rfl
  have q_muladd := He.glo_ok X G (cd.fact 42 (f := .glo "muladd") rfl)
  obtain ⟨fd_muladd, D_muladd⟩ := cd.def_ 42 (d := dd_muladd) rfl
  have F_muladd : Fun K "muladd" "muladd" s_muladd (He.ga K "muladd") fd_muladd := fun_of D_muladd
  obtain ⟨us_muladd, rv_muladd, b_muladd⟩ := FunD.binds0 (ps := ["form", "x", "y", "z", "mode"]) D_muladd 4 (List.cons_ne_nil _ _) rfl fun D doc pm an cdv ct us ks h1 h2 => match us, h1, ks, h2 with | [_, _, _, _], _, [_], _ => ⟨_, _, _, _, _, _, rfl, rfl, rfl⟩
  have q_finite_rest := He.glo_ok X G (cd.fact 43 (f := .glo "finite_rest") rfl)
  obtain ⟨fd_finite_rest, D_finite_rest⟩ := cd.def_ 43 (d := dd_finite_rest) rfl
  have F_finite_rest : Fun K "finite_rest" "finite_rest" s_finite_rest (He.ga K "finite_rest") fd_finite_rest := fun_of D_finite_rest
  have b_finite_rest : Binds K fd_finite_rest ["x", "y", "nearest"] [] := FunD.bindsN D_finite_rest fun _ _ _ _ _ _ us hl => match us, hl with | [_, _, _], _ => rfl
  have q_rest_answer := He.glo_ok X G (cd.fact 44 (f := .glo "rest_answer") rfl)
  obtain ⟨fd_rest_answer, D_rest_answer⟩ := cd.def_ 44 (d := dd_rest_answer) rfl
  have F_rest_answer : Fun K "rest_answer" "rest_answer" s_rest_answer (He.ga K "rest_answer") fd_rest_answer := fun_of D_rest_answer
  have b_rest_answer : Binds K fd_rest_answer ["x", "y", "nearest"] [] := FunD.bindsN D_rest_answer fun _ _ _ _ _ _ us hl => match us, hl with | [_, _, _], _ => rfl
  have q_rest := He.glo_ok X G (cd.fact 45 (f := .glo "rest") rfl)
  obtain ⟨fd_rest, D_rest⟩ := cd.def_ 45 (d := dd_rest) rfl
  have F_rest : Fun K "rest" "rest" s_rest (He.ga K "rest") fd_rest := fun_of D_rest
  have b_rest : Binds K fd_rest ["x", "y"] [] := FunD.bindsN D_rest fun _ _ _ _ _ _ us hl => match us, hl with | [_, _], _ => rfl
  have q_cut_rest := He.glo_ok X G (cd.fact 46 (f := .glo "cut_rest") rfl)
  obtain ⟨fd_cut_rest, D_cut_rest⟩ := cd.def_ 46 (d := dd_cut_rest) rfl
  have F_cut_rest : Fun K "cut_rest" "cut_rest" s_cut_rest (He.ga K "cut_rest") fd_cut_rest := fun_of D_cut_rest
  have b_cut_rest : Binds K fd_cut_rest ["x", "y"] [] := FunD.bindsN D_cut_rest fun _ _ _ _ _ _ us hl => match us, hl with | [_, _], _ => rfl
  have q_exact_quotient_of := He.glo_ok X G (cd.fact 47 (f := .glo "exact_quotient_of") rfl)
  obtain ⟨fd_exact_quotient_of, D_exact_quotient_of⟩ := cd.def_ 47 (d := dd_exact_quotient_of) rfl
  have F_exact_quotient_of : Fun K "exact_quotient_of" "exact_quotient_of" s_exact_quotient_of (He.ga K "exact_quotient_of") fd_exact_quotient_of := fun_of D_exact_quotient_of
  have b_exact_quotient_of : Binds K fd_exact_quotient_of ["x", "y"] [] := FunD.bindsN D_exact_quotient_of fun _ _ _ _ _ _ us hl => match us, hl with | [_, _], _ => rfl
  have q_exact_quotient := He.glo_ok X G (cd.fact 48 (f := .glo "exact_quotient") rfl)
  obtain ⟨fd_exact_quotient, D_exact_quotient⟩ := cd.def_ 48 (d := dd_exact_quotient) rfl
  have F_exact_quotient : Fun K "exact_quotient" "exact_quotient" s_exact_quotient (He.ga K "exact_quotient") fd_exact_quotient := fun_of D_exact_quotient
  have b_exact_quotient : Binds K fd_exact_quotient ["x", "y"] [] := FunD.bindsN D_exact_quotient fun _ _ _ _ _ _ us hl => match us, hl with | [_, _], _ => rfl
  have q__law_store := He.glo_ok X G (cd.fact 49 (f := .glo "_law_store") rfl)
  obtain ⟨fd__law_store, D__law_store⟩ := cd.def_ 49 (d := dd__law_store) rfl
  have F__law_store : Fun K "_law_store" "_law_store" s__law_store (He.ga K "_law_store") fd__law_store := fun_of D__law_store
  have b__law_store : Binds K fd__law_store ["cells"] [] := FunD.bindsN D__law_store fun _ _ _ _ _ _ us hl => match us, hl with | [_], _ => rfl
  have q__law_mix := He.glo_ok X G (cd.fact 50 (f := .glo "_law_mix") rfl)
  obtain ⟨fd__law_mix, D__law_mix⟩ := cd.def_ 50 (d := dd__law_mix) rfl
  have F__law_mix : Fun K "_law_mix" "_law_mix" s__law_mix (He.ga K "_law_mix") fd__law_mix := fun_of D__law_mix
  have b__law_mix : Binds K fd__law_mix ["given", "turn"] [] := FunD.bindsN D__law_mix fun _ _ _ _ _ _ us hl => match us, hl with | [_, _], _ => rfl
  have q__law_wide := He.glo_ok X G (cd.fact 51 (f := .glo "_law_wide") rfl)
  obtain ⟨fd__law_wide, D__law_wide⟩ := cd.def_ 51 (d := dd__law_wide) rfl
  have F__law_wide : Fun K "_law_wide" "_law_wide" s__law_wide (He.ga K "_law_wide") fd__law_wide := fun_of D__law_wide
  have b__law_wide : Binds K fd__law_wide ["given", "turn", "bound"] [] := FunD.bindsN D__law_wide fun _ _ _ _ _ _ us hl => match us, hl with | [_, _, _], _ => rfl
  have q__law_take := He.glo_ok X G (cd.fact 52 (f := .glo "_law_take") rfl)
  obtain ⟨fd__law_take, D__law_take⟩ := cd.def_ 52 (d := dd__law_take) rfl
  have F__law_take : Fun K "_law_take" "_law_take" s__law_take (He.ga K "_law_take") fd__law_take := fun_of D__law_take
  have b__law_take : Binds K fd__law_take ["store", "bound"] [] := FunD.bindsN D__law_take fun _ _ _ _ _ _ us hl => match us, hl with | [_, _], _ => rfl
  have q__law_edge := He.glo_ok X G (cd.fact 53 (f := .glo "_law_edge") rfl)
  obtain ⟨fd__law_edge, D__law_edge⟩ := cd.def_ 53 (d := dd__law_edge) rfl
  have F__law_edge : Fun K "_law_edge" "_law_edge" s__law_edge (He.ga K "_law_edge") fd__law_edge := fun_of D__law_edge
  have b__law_edge : Binds K fd__law_edge ["store", "low", "high"] [] := FunD.bindsN D__law_edge fun _ _ _ _ _ _ us hl => match us, hl with | [_, _, _], _ => rfl
  have q__law_scaled := He.glo_ok X G (cd.fact 54 (f := .glo "_law_scaled") rfl)
  obtain ⟨fd__law_scaled, D__law_scaled⟩ := cd.def_ 54 (d := dd__law_scaled) rfl
  have F__law_scaled : Fun K "_law_scaled" "_law_scaled" s__law_scaled (He.ga K "_law_scaled") fd__law_scaled := fun_of D__law_scaled
  have b__law_scaled : Binds K fd__law_scaled ["store", "most"] [] := FunD.bindsN D__law_scaled fun _ _ _ _ _ _ us hl => match us, hl with | [_, _], _ => rfl
  have q__law_no_integer := He.glo_ok X G (cd.fact 55 (f := .glo "_law_no_integer") rfl)
  obtain ⟨fd__law_no_integer, D__law_no_integer⟩ := cd.def_ 55 (d := dd__law_no_integer) rfl
  have F__law_no_integer : Fun K "_law_no_integer" "_law_no_integer" s__law_no_integer (He.ga K "_law_no_integer") fd__law_no_integer := fun_of D__law_no_integer
  have b__law_no_integer : Binds K fd__law_no_integer ["store"] [] := FunD.bindsN D__law_no_integer fun _ _ _ _ _ _ us hl => match us, hl with | [_], _ => rfl
  have q__law_int := He.glo_ok X G (cd.fact 56 (f := .glo "_law_int") rfl)
  obtain ⟨fd__law_int, D__law_int⟩ := cd.def_ 56 (d := dd__law_int) rfl
  have F__law_int : Fun K "_law_int" "_law_int" s__law_int (He.ga K "_law_int") fd__law_int := fun_of D__law_int
  have b__law_int : Binds K fd__law_int ["given"] [] := FunD.bindsN D__law_int fun _ _ _ _ _ _ us hl => match us, hl with | [_], _ => rfl
  have q__law_same := He.glo_ok X G (cd.fact 57 (f := .glo "_law_same") rfl)
  obtain ⟨fd__law_same, D__law_same⟩ := cd.def_ 57 (d := dd__law_same) rfl
  have F__law_same : Fun K "_law_same" "_law_same" s__law_same (He.ga K "_law_same") fd__law_same := fun_of D__law_same
  have b__law_same : Binds K fd__law_same ["actual", "due"] [] := FunD.bindsN D__law_same fun _ _ _ _ _ _ us hl => match us, hl with | [_, _], _ => rfl
  have q__law_caught := He.glo_ok X G (cd.fact 58 (f := .glo "_law_caught") rfl)
  obtain ⟨fd__law_caught, D__law_caught⟩ := cd.def_ 58 (d := dd__law_caught) rfl
  have F__law_caught : Fun K "_law_caught" "_law_caught" s__law_caught (He.ga K "_law_caught") fd__law_caught := fun_of D__law_caught
  have b__law_caught : Binds K fd__law_caught ["action"] [] := FunD.bindsN D__law_caught fun _ _ _ _ _ _ us hl => match us, hl with | [_], _ => rfl
  have q__law_names := He.glo_ok X G (cd.fact 59 (f := .glo "_law_names") rfl)
  obtain ⟨fd__law_names, D__law_names⟩ := cd.def_ 59 (d := dd__law_names) rfl
  have F__law_names : Fun K "_law_names" "_law_names" s__law_names (He.ga K "_law_names") fd__law_names := fun_of D__law_names
  have b__law_names : Binds K fd__law_names ["error"] [] := FunD.bindsN D__law_names fun _ _ _ _ _ _ us hl => match us, hl with | [_], _ => rfl
  have q__law_common := He.glo_ok X G (cd.fact 60 (f := .glo "_law_common") rfl)
  obtain ⟨fd__law_common, D__law_common⟩ := cd.def_ 60 (d := dd__law_common) rfl
  have F__law_common : Fun K "_law_common" "_law_common" s__law_common (He.ga K "_law_common") fd__law_common := fun_of D__law_common
  have b__law_common : Binds K fd__law_common ["first", "second"] [] := FunD.bindsN D__law_common fun _ _ _ _ _ _ us hl => match us, hl with | [_, _], _ => rfl
  have q__law_mode := He.glo_ok X G (cd.fact 61 (f := .glo "_law_mode") rfl)
  obtain ⟨fd__law_mode, D__law_mode⟩ := cd.def_ 61 (d := dd__law_mode) rfl
  have F__law_mode : Fun K "_law_mode" "_law_mode" s__law_mode (He.ga K "_law_mode") fd__law_mode := fun_of D__law_mode
  have b__law_mode : Binds K fd__law_mode ["store"] [] := FunD.bindsN D__law_mode fun _ _ _ _ _ _ us hl => match us, hl with | [_], _ => rfl
  have q__law_odd := He.glo_ok X G (cd.fact 62 (f := .glo "_law_odd") rfl)
  obtain ⟨fd__law_odd, D__law_odd⟩ := cd.def_ 62 (d := dd__law_odd) rfl
  have F__law_odd : Fun K "_law_odd" "_law_odd" s__law_odd (He.ga K "_law_odd") fd__law_odd := fun_of D__law_odd
  have b__law_odd : Binds K fd__law_odd ["sign", "m", "power"] [] := FunD.bindsN D__law_odd fun _ _ _ _ _ _ us hl => match us, hl with | [_, _, _], _ => rfl
  have q__law_tiny_form := He.glo_ok X G (cd.fact 63 (f := .glo "_law_tiny_form") rfl)
  obtain ⟨fd__law_tiny_form, D__law_tiny_form⟩ := cd.def_ 63 (d := dd__law_tiny_form) rfl
  have F__law_tiny_form : Fun K "_law_tiny_form" "_law_tiny_form" s__law_tiny_form (He.ga K "_law_tiny_form") fd__law_tiny_form := fun_of D__law_tiny_form
  have b__law_tiny_form : Binds K fd__law_tiny_form ["store"] [] := FunD.bindsN D__law_tiny_form fun _ _ _ _ _ _ us hl => match us, hl with | [_], _ => rfl
  have q__law_wide_form := He.glo_ok X G (cd.fact 64 (f := .glo "_law_wide_form") rfl)
  obtain ⟨fd__law_wide_form, D__law_wide_form⟩ := cd.def_ 64 (d := dd__law_wide_form) rfl
  have F__law_wide_form : Fun K "_law_wide_form" "_law_wide_form" s__law_wide_form (He.ga K "_law_wide_form") fd__law_wide_form := fun_of D__law_wide_form
  have b__law_wide_form : Binds K fd__law_wide_form ["store"] [] := FunD.bindsN D__law_wide_form fun _ _ _ _ _ _ us hl => match us, hl with | [_], _ => rfl
  have q__law_loose := He.glo_ok X G (cd.fact 65 (f := .glo "_law_loose") rfl)
  obtain ⟨fd__law_loose, D__law_loose⟩ := cd.def_ 65 (d := dd__law_loose) rfl
  have F__law_loose : Fun K "_law_loose" "_law_loose" s__law_loose (He.ga K "_law_loose") fd__law_loose := fun_of D__law_loose
  have b__law_loose : Binds K fd__law_loose ["store", "most", "reach"] [] := FunD.bindsN D__law_loose fun _ _ _ _ _ _ us hl => match us, hl with | [_, _, _], _ => rfl
  have q__law_number := He.glo_ok X G (cd.fact 66 (f := .glo "_law_number") rfl)
  obtain ⟨fd__law_number, D__law_number⟩ := cd.def_ 66 (d := dd__law_number) rfl
  have F__law_number : Fun K "_law_number" "_law_number" s__law_number (He.ga K "_law_number") fd__law_number := fun_of D__law_number
  have b__law_number : Binds K fd__law_number ["store"] [] := FunD.bindsN D__law_number fun _ _ _ _ _ _ us hl => match us, hl with | [_], _ => rfl
  have q__law_bad_number := He.glo_ok X G (cd.fact 67 (f := .glo "_law_bad_number") rfl)
  obtain ⟨fd__law_bad_number, D__law_bad_number⟩ := cd.def_ 67 (d := dd__law_bad_number) rfl
  have F__law_bad_number : Fun K "_law_bad_number" "_law_bad_number" s__law_bad_number (He.ga K "_law_bad_number") fd__law_bad_number := fun_of D__law_bad_number
  have b__law_bad_number : Binds K fd__law_bad_number ["store", "held"] [] := FunD.bindsN D__law_bad_number fun _ _ _ _ _ _ us hl => match us, hl with | [_, _], _ => rfl
  have q__law_step := He.glo_ok X G (cd.fact 68 (f := .glo "_law_step") rfl)
  obtain ⟨fd__law_step, D__law_step⟩ := cd.def_ 68 (d := dd__law_step) rfl
  have F__law_step : Fun K "_law_step" "_law_step" s__law_step (He.ga K "_law_step") fd__law_step := fun_of D__law_step
  have b__law_step : Binds K fd__law_step ["way", "sign", "k", "left", "right"] [] := FunD.bindsN D__law_step fun _ _ _ _ _ _ us hl => match us, hl with | [_, _, _, _, _], _ => rfl
  have q__law_round := He.glo_ok X G (cd.fact 69 (f := .glo "_law_round") rfl)
  obtain ⟨fd__law_round, D__law_round⟩ := cd.def_ 69 (d := dd__law_round) rfl
  have F__law_round : Fun K "_law_round" "_law_round" s__law_round (He.ga K "_law_round") fd__law_round := fun_of D__law_round
  have b__law_round : Binds K fd__law_round ["shape", "way", "n", "d"] [] := FunD.bindsN D__law_round fun _ _ _ _ _ _ us hl => match us, hl with | [_, _, _, _], _ => rfl
  have q__law_rounded_at := He.glo_ok X G (cd.fact 70 (f := .glo "_law_rounded_at") rfl)
  obtain ⟨fd__law_rounded_at, D__law_rounded_at⟩ := cd.def_ 70 (d := dd__law_rounded_at) rfl
  have F__law_rounded_at : Fun K "_law_rounded_at" "_law_rounded_at" s__law_rounded_at (He.ga K "_law_rounded_at") fd__law_rounded_at := fun_of D__law_rounded_at
  have b__law_rounded_at : Binds K fd__law_rounded_at ["shape", "way", "n", "power"] [] := FunD.bindsN D__law_rounded_at fun _ _ _ _ _ _ us hl => match us, hl with | [_, _, _, _], _ => rfl
  have q__law_refused := He.glo_ok X G (cd.fact 71 (f := .glo "_law_refused") rfl)
  obtain ⟨fd__law_refused, D__law_refused⟩ := cd.def_ 71 (d := dd__law_refused) rfl
  have F__law_refused : Fun K "_law_refused" "_law_refused" s__law_refused (He.ga K "_law_refused") fd__law_refused := fun_of D__law_refused
  have b__law_refused : Binds K fd__law_refused ["action", "word"] [] := FunD.bindsN D__law_refused fun _ _ _ _ _ _ us hl => match us, hl with | [_, _], _ => rfl
  have q__law_asked := He.glo_ok X G (cd.fact 72 (f := .glo "_law_asked") rfl)
  obtain ⟨fd__law_asked, D__law_asked⟩ := cd.def_ 72 (d := dd__law_asked) rfl
  have F__law_asked : Fun K "_law_asked" "_law_asked" s__law_asked (He.ga K "_law_asked") fd__law_asked := fun_of D__law_asked
  have b__law_asked : Binds K fd__law_asked ["action", "due"] [] := FunD.bindsN D__law_asked fun _ _ _ _ _ _ us hl => match us, hl with | [_, _], _ => rfl
  have q__law_operand_pair := He.glo_ok X G (cd.fact 73 (f := .glo "_law_operand_pair") rfl)
  obtain ⟨fd__law_operand_pair, D__law_operand_pair⟩ := cd.def_ 73 (d := dd__law_operand_pair) rfl
  have F__law_operand_pair : Fun K "_law_operand_pair" "_law_operand_pair" s__law_operand_pair (He.ga K "_law_operand_pair") fd__law_operand_pair := fun_of D__law_operand_pair
  have b__law_operand_pair : Binds K fd__law_operand_pair ["store"] [] := FunD.bindsN D__law_operand_pair fun _ _ _ _ _ _ us hl => match us, hl with | [_], _ => rfl
  have q__law_division := He.glo_ok X G (cd.fact 74 (f := .glo "_law_division") rfl)
  obtain ⟨fd__law_division, D__law_division⟩ := cd.def_ 74 (d := dd__law_division) rfl
  have F__law_division : Fun K "_law_division" "_law_division" s__law_division (He.ga K "_law_division") fd__law_division := fun_of D__law_division
  have b__law_division : Binds K fd__law_division ["x", "y"] [] := FunD.bindsN D__law_division fun _ _ _ _ _ _ us hl => match us, hl with | [_, _], _ => rfl
  have q__law_rest_pair := He.glo_ok X G (cd.fact 75 (f := .glo "_law_rest_pair") rfl)
  obtain ⟨fd__law_rest_pair, D__law_rest_pair⟩ := cd.def_ 75 (d := dd__law_rest_pair) rfl
  have F__law_rest_pair : Fun K "_law_rest_pair" "_law_rest_pair" s__law_rest_pair (He.ga K "_law_rest_pair") fd__law_rest_pair := fun_of D__law_rest_pair
  have b__law_rest_pair : Binds K fd__law_rest_pair ["x", "y", "chopped"] [] := FunD.bindsN D__law_rest_pair fun _ _ _ _ _ _ us hl => match us, hl with | [_, _, _], _ => rfl
  have q__law_rest_due := He.glo_ok X G (cd.fact 76 (f := .glo "_law_rest_due") rfl)
  obtain ⟨fd__law_rest_due, D__law_rest_due⟩ := cd.def_ 76 (d := dd__law_rest_due) rfl
  have F__law_rest_due : Fun K "_law_rest_due" "_law_rest_due" s__law_rest_due (He.ga K "_law_rest_due") fd__law_rest_due := fun_of D__law_rest_due
  have b__law_rest_due : Binds K fd__law_rest_due ["x", "y", "chopped"] [] := FunD.bindsN D__law_rest_due fun _ _ _ _ _ _ us hl => match us, hl with | [_, _, _], _ => rfl
  have q__law_rests_right := He.glo_ok X G (cd.fact 77 (f := .glo "_law_rests_right") rfl)
  obtain ⟨fd__law_rests_right, D__law_rests_right⟩ := cd.def_ 77 (d := dd__law_rests_right) rfl
  have F__law_rests_right : Fun K "_law_rests_right" "_law_rests_right" s__law_rests_right (He.ga K "_law_rests_right") fd__law_rests_right := fun_of D__law_rests_right
  have b__law_rests_right : Binds K fd__law_rests_right ["x", "y"] [] := FunD.bindsN D__law_rests_right fun _ _ _ _ _ _ us hl => match us, hl with | [_, _], _ => rfl
  have q__law_quotient := He.glo_ok X G (cd.fact 78 (f := .glo "_law_quotient") rfl)
  obtain ⟨fd__law_quotient, D__law_quotient⟩ := cd.def_ 78 (d := dd__law_quotient) rfl
  have F__law_quotient : Fun K "_law_quotient" "_law_quotient" s__law_quotient (He.ga K "_law_quotient") fd__law_quotient := fun_of D__law_quotient
  have b__law_quotient : Binds K fd__law_quotient ["x", "y"] [] := FunD.bindsN D__law_quotient fun _ _ _ _ _ _ us hl => match us, hl with | [_, _], _ => rfl
  have q__law_road_right := He.glo_ok X G (cd.fact 79 (f := .glo "_law_road_right") rfl)
  obtain ⟨fd__law_road_right, D__law_road_right⟩ := cd.def_ 79 (d := dd__law_road_right) rfl
  have F__law_road_right : Fun K "_law_road_right" "_law_road_right" s__law_road_right (He.ga K "_law_road_right") fd__law_road_right := fun_of D__law_road_right
  have b__law_road_right : Binds K fd__law_road_right ["store", "x", "y"] [] := FunD.bindsN D__law_road_right fun _ _ _ _ _ _ us hl => match us, hl with | [_, _, _], _ => rfl
  have q_law := He.glo_ok X G (cd.fact 80 (f := .glo "law") rfl)
  obtain ⟨fd_law, D_law⟩ := cd.def_ 80 (d := dd_law) rfl
  have F_law : Fun K "law" "law" s_law (He.ga K "law") fd_law := fun_of D_law
  have z_ValueError : mg "ValueError" = none := He.free_ok X G (cd.fact 81 (f := .free "ValueError") rfl)
  have z_abs : mg "abs" = none := He.free_ok X G (cd.fact 82 (f := .free "abs") rfl)
  have z_all : mg "all" = none := He.free_ok X G (cd.fact 83 (f := .free "all") rfl)
  have z_any : mg "any" = none := He.free_ok X G (cd.fact 84 (f := .free "any") rfl)
  have z_bool : mg "bool" = none := He.free_ok X G (cd.fact 85 (f := .free "bool") rfl)
  have z_int : mg "int" = none := He.free_ok X G (cd.fact 86 (f := .free "int") rfl)
  have z_isinstance : mg "isinstance" = none := He.free_ok X G (cd.fact 87 (f := .free "isinstance") rfl)
  have z_len : mg "len" = none := He.free_ok X G (cd.fact 88 (f := .free "len") rfl)
  have z_list : mg "list" = none := He.free_ok X G (cd.fact 89 (f := .free "list") rfl)
  have z_max : mg "max" = none := He.free_ok X G (cd.fact 90 (f := .free "max") rfl)
  have z_min : mg "min" = none := He.free_ok X G (cd.fact 91 (f := .free "min") rfl)
  have z_range : mg "range" = none := He.free_ok X G (cd.fact 92 (f := .free "range") rfl)
  have z_str : mg "str" = none := He.free_ok X G (cd.fact 93 (f := .free "str") rfl)
  have z_tuple : mg "tuple" = none := He.free_ok X G (cd.fact 94 (f := .free "tuple") rfl)
  have z_type : mg "type" = none := He.free_ok X G (cd.fact 95 (f := .free "type") rfl)
  have q_Refused := He.glo_ok X G (cd.fact 96 (f := .glo "Refused") rfl)
  have q_BadCount := He.glo_ok X G (cd.fact 97 (f := .glo "BadCount") rfl)
  have q_BadFormat := He.glo_ok X G (cd.fact 98 (f := .glo "BadFormat") rfl)
  have q_BadNumber := He.glo_ok X G (cd.fact 99 (f := .glo "BadNumber") rfl)
  have q_BadExact := He.glo_ok X G (cd.fact 100 (f := .glo "BadExact") rfl)
  have q_BadMode := He.glo_ok X G (cd.fact 101 (f := .glo "BadMode") rfl)
  have q_BadOp := He.glo_ok X G (cd.fact 102 (f := .glo "BadOp") rfl)
  have q_BadText := He.glo_ok X G (cd.fact 103 (f := .glo "BadText") rfl)
  have q_BadCut := He.glo_ok X G (cd.fact 104 (f := .glo "BadCut") rfl)
  have q_BadPlan := He.glo_ok X G (cd.fact 105 (f := .glo "BadPlan") rfl)
  have q_BadChain := He.glo_ok X G (cd.fact 106 (f := .glo "BadChain") rfl)
  have q_BadFamily := He.glo_ok X G (cd.fact 107 (f := .glo "BadFamily") rfl)
  have q_BadSpan := He.glo_ok X G (cd.fact 108 (f := .glo "BadSpan") rfl)
  have q_BadProgram := He.glo_ok X G (cd.fact 109 (f := .glo "BadProgram") rfl)
  have q_BadBox := He.glo_ok X G (cd.fact 110 (f := .glo "BadBox") rfl)
  have q_NotAsked := He.glo_ok X G (cd.fact 111 (f := .glo "NotAsked") rfl)
  have q_TooMany := He.glo_ok X G (cd.fact 112 (f := .glo "TooMany") rfl)
  have e_BadCount : ErrOk K mg "BadCount" := errOk_of (cd.fact 116 (f := .exc "BadCount") rfl) q_BadCount
  have e_BadExact : ErrOk K mg "BadExact" := errOk_of (cd.fact 117 (f := .exc "BadExact") rfl) q_BadExact
  have e_BadFormat : ErrOk K mg "BadFormat" := errOk_of (cd.fact 118 (f := .exc "BadFormat") rfl) q_BadFormat
  have e_BadMode : ErrOk K mg "BadMode" := errOk_of (cd.fact 119 (f := .exc "BadMode") rfl) q_BadMode
  have e_BadNumber : ErrOk K mg "BadNumber" := errOk_of (cd.fact 120 (f := .exc "BadNumber") rfl) q_BadNumber
  have g_INVALID : GlobK K mg "INVALID" d_INVALID := globK_con x1 (He.glo_ok X G (cd.fact 113 (f := .glo "INVALID") rfl))
  have g_MODES : GlobK K mg "MODES" d_MODES := globK_tup x2 (He.glo_ok X G (cd.fact 114 (f := .glo "MODES") rfl))
  have g_NAN : GlobK K mg "NAN" d_NAN := globK_con x3 (He.glo_ok X G (cd.fact 115 (f := .glo "NAN") rfl))
  have b_gcd : mg "gcd" = some (.builtin "math.gcd") := bfB_ok X G x4
  have b_isqrt : mg "isqrt" = some (.builtin "math.isqrt") := bfB_ok X G x5
  have g_EXACT_BITS : GlobK K mg "EXACT_BITS" d_EXACT_BITS := globK_int X G (cd.fact 121 (f := .int "EXACT_BITS" 12000) rfl)
  have tab : IsTab K mg := isTab_of x0 fun x hx => by
    simp only [errR, errL, List.cons_append, List.nil_append, List.mem_cons, List.not_mem_nil, or_false] at hx
    rcases hx with rfl | rfl | rfl | rfl | rfl | rfl | rfl | rfl | rfl | rfl | rfl | rfl | rfl | rfl | rfl | rfl | rfl
    · exact q_BadCount
    · exact q_BadFormat
    · exact q_BadNumber
    · exact q_BadExact
    · exact q_BadMode
    · exact q_BadOp
    · exact q_BadText
    · exact q_BadCut
    · exact q_BadPlan
    · exact q_BadChain
    · exact q_BadFamily
    · exact q_BadSpan
    · exact q_BadProgram
    · exact q_BadBox
    · exact q_NotAsked
    · exact q_TooMany
    · exact q_Refused
  have el : fl0 = He.ga K "law" := by
    rw [q_law] at hfl
    exact (Value.ref.inj (Option.some.inj hfl)).symm
  subst el
  have tl : ∀ p ∈ hlm, (p.1, none) ∈ htf := fun p hp => List.mem_map.mpr ⟨p, hp, rfl⟩
  refine ⟨fd_law, htf.map (He.cT K), spLaw K (TbOf K hlm), fun q hq => ?_, fun s v => FunD.bindsA (ps := ["script"]) D_law (fun _ _ _ _ _ _ us hl => match us, hl with | [_], _ => rfl) s [v] rfl, fun H a ns hl hb ht hS _ _ _ => ⟨a, ns, rfl, hS, hl, hb, tabs_of fun p hp => ht _ (List.mem_map.mpr ⟨_, tl p hp, rfl⟩), fun _ => rfl⟩, fun base kin gns seer tb => ?_⟩
  · obtain ⟨p, hp, rfl⟩ := List.mem_map.mp hq
    exact ⟨c.empty p hp, c.out p hp, PySem.W.codeHd_of_K X (c.hd p hp)⟩
  have sr : SeerB (PySem.Challenge.rw_everyrounding_k38_rest_is_muladd).prog w base := ⟨seer, rfl⟩
  have tb2 : ∀ p ∈ hlm, TabB base mg (He.cT K (p.1, none)).1 (He.cT K (p.1, none)).2 := fun p hp => tb _ (List.mem_map.mpr ⟨_, tl p hp, rfl⟩)
  have k_is_integer : DefOk (PySem.Challenge.rw_everyrounding_k38_rest_is_muladd).prog w K mg base (TbOf K hlm) "is_integer" 1 1 [] m_is_integer := def_mk (n := 1) F_is_integer q_is_integer (ok_is_integer F_is_integer z_int z_type) b_is_integer .nil rfl
  have k_are_integers : DefOk (PySem.Challenge.rw_everyrounding_k38_rest_is_muladd).prog w K mg base (TbOf K hlm) "are_integers" 2 2 [] m_are_integers := def_mk (n := 2) F_are_integers q_are_integers (ok_are_integers F_are_integers z_all z_len z_tuple z_type k_is_integer) b_are_integers .nil rfl
  have k_check_count : DefOk (PySem.Challenge.rw_everyrounding_k38_rest_is_muladd).prog w K mg base (TbOf K hlm) "check_count" 2 3 [] m_check_count := def_mk (n := 3) F_check_count q_check_count (ok_check_count F_check_count e_BadCount k_is_integer) b_check_count .nil rfl
  have k_is_format : DefOk (PySem.Challenge.rw_everyrounding_k38_rest_is_muladd).prog w K mg base (TbOf K hlm) "is_format" 3 1 [] m_is_format := def_mk (n := 1) F_is_format q_is_format (ok_is_format F_is_format k_are_integers) b_is_format .nil rfl
  have k_check_format : DefOk (PySem.Challenge.rw_everyrounding_k38_rest_is_muladd).prog w K mg base (TbOf K hlm) "check_format" 4 1 [] m_check_format := def_mk (n := 1) F_check_format q_check_format (ok_check_format F_check_format e_BadFormat k_is_format) b_check_format .nil rfl
  have k_unit_at : DefOk (PySem.Challenge.rw_everyrounding_k38_rest_is_muladd).prog w K mg base (TbOf K hlm) "unit_at" 1 2 [] m_unit_at := def_mk (n := 2) F_unit_at q_unit_at (ok_unit_at F_unit_at z_max) b_unit_at .nil rfl
  have k_in_bounds : DefOk (PySem.Challenge.rw_everyrounding_k38_rest_is_muladd).prog w K mg base (TbOf K hlm) "in_bounds" 1 2 [] m_in_bounds := def_mk (n := 2) F_in_bounds q_in_bounds (ok_in_bounds F_in_bounds) b_in_bounds .nil rfl
  have k_is_number : DefOk (PySem.Challenge.rw_everyrounding_k38_rest_is_muladd).prog w K mg base (TbOf K hlm) "is_number" 3 1 [] m_is_number := def_mk (n := 1) F_is_number q_is_number (ok_is_number F_is_number g_NAN k_are_integers k_in_bounds) b_is_number .nil rfl
  have k_check_number : DefOk (PySem.Challenge.rw_everyrounding_k38_rest_is_muladd).prog w K mg base (TbOf K hlm) "check_number" 4 1 [] m_check_number := def_mk (n := 1) F_check_number q_check_number (ok_check_number F_check_number e_BadNumber k_is_number) b_check_number .nil rfl
  have k_is_zero : DefOk (PySem.Challenge.rw_everyrounding_k38_rest_is_muladd).prog w K mg base (TbOf K hlm) "is_zero" 1 1 [] m_is_zero := def_mk (n := 1) F_is_zero q_is_zero (ok_is_zero F_is_zero) b_is_zero .nil rfl
  have k_is_infinite : DefOk (PySem.Challenge.rw_everyrounding_k38_rest_is_muladd).prog w K mg base (TbOf K hlm) "is_infinite" 1 1 [] m_is_infinite := def_mk (n := 1) F_is_infinite q_is_infinite (ok_is_infinite F_is_infinite) b_is_infinite .nil rfl
  have k_is_nan : DefOk (PySem.Challenge.rw_everyrounding_k38_rest_is_muladd).prog w K mg base (TbOf K hlm) "is_nan" 1 1 [] m_is_nan := def_mk (n := 1) F_is_nan q_is_nan (ok_is_nan F_is_nan) b_is_nan .nil rfl
  have k_check_valued : DefOk (PySem.Challenge.rw_everyrounding_k38_rest_is_muladd).prog w K mg base (TbOf K hlm) "check_valued" 5 1 [] m_check_valued := def_mk (n := 1) F_check_valued q_check_valued (ok_check_valued F_check_valued e_BadNumber k_check_number) b_check_valued .nil rfl
  have k_odd_parts : DefOk (PySem.Challenge.rw_everyrounding_k38_rest_is_muladd).prog w K mg base (TbOf K hlm) "odd_parts" 1 2 [] m_odd_parts := def_mk (n := 2) F_odd_parts q_odd_parts (ok_odd_parts F_odd_parts) b_odd_parts .nil rfl
  have k_signed : DefOk (PySem.Challenge.rw_everyrounding_k38_rest_is_muladd).prog w K mg base (TbOf K hlm) "signed" 2 3 [] m_signed := def_mk (n := 3) F_signed q_signed (ok_signed F_signed k_odd_parts) b_signed .nil rfl
  have k_signed_part : DefOk (PySem.Challenge.rw_everyrounding_k38_rest_is_muladd).prog w K mg base (TbOf K hlm) "signed_part" 1 1 [] m_signed_part := def_mk (n := 1) F_signed_part q_signed_part (ok_signed_part F_signed_part) b_signed_part .nil rfl
  have k_dyadic : DefOk (PySem.Challenge.rw_everyrounding_k38_rest_is_muladd).prog w K mg base (TbOf K hlm) "dyadic" 2 2 [] m_dyadic := def_mk (n := 2) F_dyadic q_dyadic (ok_dyadic F_dyadic k_odd_parts) b_dyadic .nil rfl
  have k_compare_integers : DefOk (PySem.Challenge.rw_everyrounding_k38_rest_is_muladd).prog w K mg base (TbOf K hlm) "compare_integers" 1 2 [] m_compare_integers := def_mk (n := 2) F_compare_integers q_compare_integers (ok_compare_integers F_compare_integers) b_compare_integers .nil rfl
  have k_exact_value : DefOk (PySem.Challenge.rw_everyrounding_k38_rest_is_muladd).prog w K mg base (TbOf K hlm) "exact_value" 3 1 [] m_exact_value := def_mk (n := 1) F_exact_value q_exact_value (ok_exact_value F_exact_value k_dyadic k_signed_part) b_exact_value .nil rfl
  have k_is_exact : DefOk (PySem.Challenge.rw_everyrounding_k38_rest_is_muladd).prog w K mg base (TbOf K hlm) "is_exact" 3 1 [] m_is_exact := def_mk (n := 1) F_is_exact q_is_exact (ok_is_exact F_is_exact g_EXACT_BITS k_are_integers) b_is_exact .nil rfl
  have k_check_exact : DefOk (PySem.Challenge.rw_everyrounding_k38_rest_is_muladd).prog w K mg base (TbOf K hlm) "check_exact" 4 1 [] m_check_exact := def_mk (n := 1) F_check_exact q_check_exact (ok_check_exact F_check_exact e_BadExact k_is_exact) b_check_exact .nil rfl
  have k_lowest : DefOk (PySem.Challenge.rw_everyrounding_k38_rest_is_muladd).prog w K mg base (TbOf K hlm) "lowest" 34 3 [] m_lowest := def_mk (n := 3) F_lowest q_lowest (ok_lowest F_lowest b_gcd sr) b_lowest .nil rfl
  have k_powered : DefOk (PySem.Challenge.rw_everyrounding_k38_rest_is_muladd).prog w K mg base (TbOf K hlm) "powered" 1 2 [] m_powered := def_mk (n := 2) F_powered q_powered (ok_powered F_powered) b_powered .nil rfl
  have k_power_of : DefOk (PySem.Challenge.rw_everyrounding_k38_rest_is_muladd).prog w K mg base (TbOf K hlm) "power_of" 1 1 [] m_power_of := def_mk (n := 1) F_power_of q_power_of (ok_power_of F_power_of z_abs) b_power_of .nil rfl
  have k_place_of : DefOk (PySem.Challenge.rw_everyrounding_k38_rest_is_muladd).prog w K mg base (TbOf K hlm) "place_of" 34 2 [] m_place_of := def_mk (n := 2) F_place_of q_place_of (ok_place_of F_place_of z_abs z_max b_isqrt sr k_compare_integers k_powered) b_place_of .nil rfl
  have k_place : DefOk (PySem.Challenge.rw_everyrounding_k38_rest_is_muladd).prog w K mg base (TbOf K hlm) "place" 35 2 [] m_place := def_mk (n := 2) F_place q_place (ok_place F_place k_check_count k_check_exact k_place_of) b_place .nil rfl
  have k_is_mode : DefOk (PySem.Challenge.rw_everyrounding_k38_rest_is_muladd).prog w K mg base (TbOf K hlm) "is_mode" 1 1 [] m_is_mode := def_mk (n := 1) F_is_mode q_is_mode (ok_is_mode F_is_mode z_str z_type g_MODES) b_is_mode .nil rfl
  have k_check_mode : DefOk (PySem.Challenge.rw_everyrounding_k38_rest_is_muladd).prog w K mg base (TbOf K hlm) "check_mode" 2 1 [] m_check_mode := def_mk (n := 1) F_check_mode q_check_mode (ok_check_mode F_check_mode e_BadMode k_is_mode) b_check_mode .nil rfl
  have k_steps_up : DefOk (PySem.Challenge.rw_everyrounding_k38_rest_is_muladd).prog w K mg base (TbOf K hlm) "steps_up" 1 4 [] m_steps_up := def_mk (n := 4) F_steps_up q_steps_up (ok_steps_up F_steps_up) b_steps_up .nil rfl
  have k_choice : DefOk (PySem.Challenge.rw_everyrounding_k38_rest_is_muladd).prog w K mg base (TbOf K hlm) "choice" 2 4 [] m_choice := def_mk (n := 4) F_choice q_choice (ok_choice F_choice k_steps_up) b_choice .nil rfl
  have k_exact_sign : DefOk (PySem.Challenge.rw_everyrounding_k38_rest_is_muladd).prog w K mg base (TbOf K hlm) "exact_sign" 1 1 [] m_exact_sign := def_mk (n := 1) F_exact_sign q_exact_sign (ok_exact_sign F_exact_sign) b_exact_sign .nil rfl
  have k_overflowed : DefOk (PySem.Challenge.rw_everyrounding_k38_rest_is_muladd).prog w K mg base (TbOf K hlm) "overflowed" 1 3 [] m_overflowed := def_mk (n := 3) F_overflowed q_overflowed (ok_overflowed F_overflowed) b_overflowed .nil rfl
  have k_is_tiny : DefOk (PySem.Challenge.rw_everyrounding_k38_rest_is_muladd).prog w K mg base (TbOf K hlm) "is_tiny" 1 2 [] m_is_tiny := def_mk (n := 2) F_is_tiny q_is_tiny (ok_is_tiny F_is_tiny) b_is_tiny .nil rfl
  have k_round_exact : DefOk (PySem.Challenge.rw_everyrounding_k38_rest_is_muladd).prog w K mg base (TbOf K hlm) "round_exact" 35 4 [] m_round_exact := def_mk (n := 4) F_round_exact q_round_exact (ok_round_exact F_round_exact k_choice k_exact_sign k_is_tiny k_overflowed k_place_of k_power_of k_signed k_unit_at) b_round_exact .nil rfl
  have k_check_step : DefOk (PySem.Challenge.rw_everyrounding_k38_rest_is_muladd).prog w K mg base (TbOf K hlm) "check_step" 5 3 [] m_check_step := def_mk (n := 3) F_check_step q_check_step (ok_check_step F_check_step k_check_format k_check_mode k_check_number) b_check_step .nil rfl
  have k_any_nan : DefOk (PySem.Challenge.rw_everyrounding_k38_rest_is_muladd).prog w K mg base (TbOf K hlm) "any_nan" 2 1 [] m_any_nan := def_mk (n := 1) F_any_nan q_any_nan (ok_any_nan F_any_nan z_any k_is_nan) b_any_nan .nil rfl
  have k_dyadic_sum : DefOk (PySem.Challenge.rw_everyrounding_k38_rest_is_muladd).prog w K mg base (TbOf K hlm) "dyadic_sum" 1 4 [] m_dyadic_sum := def_mk (n := 4) F_dyadic_sum q_dyadic_sum (ok_dyadic_sum F_dyadic_sum z_min) b_dyadic_sum .nil rfl
  have k_zero_sign : DefOk (PySem.Challenge.rw_everyrounding_k38_rest_is_muladd).prog w K mg base (TbOf K hlm) "zero_sign" 1 4 [] m_zero_sign := def_mk (n := 4) F_zero_sign q_zero_sign (ok_zero_sign F_zero_sign) b_zero_sign .nil rfl
  have k_product_parts : DefOk (PySem.Challenge.rw_everyrounding_k38_rest_is_muladd).prog w K mg base (TbOf K hlm) "product_parts" 1 2 [] m_product_parts := def_mk (n := 2) F_product_parts q_product_parts (ok_product_parts F_product_parts) b_product_parts .nil rfl
  have k_round_sum_of : DefOk (PySem.Challenge.rw_everyrounding_k38_rest_is_muladd).prog w K mg base (TbOf K hlm) "round_sum_of" 36 4 [] m_round_sum_of := def_mk (n := 4) F_round_sum_of q_round_sum_of (ok_round_sum_of F_round_sum_of k_dyadic k_dyadic_sum k_round_exact k_signed_part k_zero_sign) b_round_sum_of .nil rfl
  have k_sum_answer : DefOk (PySem.Challenge.rw_everyrounding_k38_rest_is_muladd).prog w K mg base (TbOf K hlm) "sum_answer" 37 4 [] m_sum_answer := def_mk (n := 4) F_sum_answer q_sum_answer (ok_sum_answer F_sum_answer g_INVALID g_NAN k_any_nan k_is_infinite k_round_sum_of) b_sum_answer .nil rfl
  have k_muladd_answer : DefOk (PySem.Challenge.rw_everyrounding_k38_rest_is_muladd).prog w K mg base (TbOf K hlm) "muladd_answer" 38 5 [] m_muladd_answer := def_mk (n := 5) F_muladd_answer q_muladd_answer (ok_muladd_answer F_muladd_answer g_INVALID g_NAN k_any_nan k_is_infinite k_is_zero k_product_parts k_round_sum_of k_sum_answer) b_muladd_answer .nil rfl
  have k_muladd : DefOk (PySem.Challenge.rw_everyrounding_k38_rest_is_muladd).prog w K mg base (TbOf K hlm) "muladd" 39 5 [.str "even"] m_muladd := def_mk (n := 5) F_muladd q_muladd (ok_muladd F_muladd k_check_step k_muladd_answer) b_muladd rv_muladd rfl
  have k_finite_rest : DefOk (PySem.Challenge.rw_everyrounding_k38_rest_is_muladd).prog w K mg base (TbOf K hlm) "finite_rest" 3 3 [] m_finite_rest := def_mk (n := 3) F_finite_rest q_finite_rest (ok_finite_rest F_finite_rest z_min k_signed) b_finite_rest .nil rfl
  have k_rest_answer : DefOk (PySem.Challenge.rw_everyrounding_k38_rest_is_muladd).prog w K mg base (TbOf K hlm) "rest_answer" 5 3 [] m_rest_answer := def_mk (n := 3) F_rest_answer q_rest_answer (ok_rest_answer F_rest_answer e_BadNumber g_INVALID g_NAN k_any_nan k_check_number k_finite_rest k_is_infinite k_is_number k_is_zero) b_rest_answer .nil rfl
  have k_rest : DefOk (PySem.Challenge.rw_everyrounding_k38_rest_is_muladd).prog w K mg base (TbOf K hlm) "rest" 6 2 [] m_rest := def_mk (n := 2) F_rest q_rest (ok_rest F_rest k_rest_answer) b_rest .nil rfl
  have k_cut_rest : DefOk (PySem.Challenge.rw_everyrounding_k38_rest_is_muladd).prog w K mg base (TbOf K hlm) "cut_rest" 6 2 [] m_cut_rest := def_mk (n := 2) F_cut_rest q_cut_rest (ok_cut_rest F_cut_rest k_rest_answer) b_cut_rest .nil rfl
  have k_exact_quotient_of : DefOk (PySem.Challenge.rw_everyrounding_k38_rest_is_muladd).prog w K mg base (TbOf K hlm) "exact_quotient_of" 35 2 [] m_exact_quotient_of := def_mk (n := 2) F_exact_quotient_of q_exact_quotient_of (ok_exact_quotient_of F_exact_quotient_of k_exact_value k_lowest) b_exact_quotient_of .nil rfl
  have k_exact_quotient : DefOk (PySem.Challenge.rw_everyrounding_k38_rest_is_muladd).prog w K mg base (TbOf K hlm) "exact_quotient" 36 2 [] m_exact_quotient := def_mk (n := 2) F_exact_quotient q_exact_quotient (ok_exact_quotient F_exact_quotient e_BadNumber k_check_valued k_exact_quotient_of k_is_zero) b_exact_quotient .nil rfl
  have k__law_mix : DefOk (PySem.Challenge.rw_everyrounding_k38_rest_is_muladd).prog w K mg base (TbOf K hlm) "_law_mix" 1 2 [] m__law_mix := def_mk (n := 2) F__law_mix q__law_mix (ok__law_mix F__law_mix z_int) b__law_mix .nil rfl
  have k__law_wide : DefOk (PySem.Challenge.rw_everyrounding_k38_rest_is_muladd).prog w K mg base (TbOf K hlm) "_law_wide" 2 3 [] m__law_wide := def_mk (n := 3) F__law_wide q__law_wide (ok__law_wide F__law_wide z_int z_range k__law_mix) b__law_wide .nil rfl
  have k__law_take : DefOk (PySem.Challenge.rw_everyrounding_k38_rest_is_muladd).prog w K mg base (TbOf K hlm) "_law_take" 34 2 [] m__law_take := def_mk (n := 2) F__law_take q__law_take (ok__law_take F__law_take z_abs z_int z_len sr k__law_mix k__law_wide) b__law_take .nil rfl
  have k__law_edge : DefOk (PySem.Challenge.rw_everyrounding_k38_rest_is_muladd).prog w K mg base (TbOf K hlm) "_law_edge" 35 3 [] m__law_edge := def_mk (n := 3) F__law_edge q__law_edge (ok__law_edge F__law_edge z_max z_min k__law_take) b__law_edge .nil rfl
  have k__law_scaled : DefOk (PySem.Challenge.rw_everyrounding_k38_rest_is_muladd).prog w K mg base (TbOf K hlm) "_law_scaled" 35 2 [] m__law_scaled := def_mk (n := 2) F__law_scaled q__law_scaled (ok__law_scaled F__law_scaled k__law_take) b__law_scaled .nil rfl
  have k__law_no_integer : DefOk (PySem.Challenge.rw_everyrounding_k38_rest_is_muladd).prog w K mg base (TbOf K hlm) "_law_no_integer" 35 1 [] m__law_no_integer := def_mk (n := 1) F__law_no_integer q__law_no_integer (ok__law_no_integer F__law_no_integer z_len k__law_take) b__law_no_integer .nil rfl
  have k__law_int : DefOk (PySem.Challenge.rw_everyrounding_k38_rest_is_muladd).prog w K mg base (TbOf K hlm) "_law_int" 1 1 [] m__law_int := def_mk (n := 1) F__law_int q__law_int (ok__law_int F__law_int z_bool z_int z_isinstance) b__law_int .nil rfl
  have k__law_same : DefOk (PySem.Challenge.rw_everyrounding_k38_rest_is_muladd).prog w K mg base (TbOf K hlm) "_law_same" 10 2 [] m__law_same := def_mk (n := 2) F__law_same q__law_same (ok__law_same F__law_same z_bool z_int z_isinstance z_len z_list z_range z_str z_tuple k__law_int q__law_same b__law_same 8) b__law_same .nil rfl
  have k__law_names : DefE (PySem.Challenge.rw_everyrounding_k38_rest_is_muladd).prog w K mg base (TbOf K hlm) "_law_names" 1 1 m__law_names := ⟨⟨_, _, _, ok__law_names F__law_names z_ValueError z_isinstance z_tuple ⟨_, q_BadBox⟩ ⟨_, q_BadChain⟩ ⟨_, q_BadCount⟩ ⟨_, q_BadCut⟩ ⟨_, q_BadExact⟩ ⟨_, q_BadFamily⟩ ⟨_, q_BadFormat⟩ ⟨_, q_BadMode⟩ ⟨_, q_BadNumber⟩ ⟨_, q_BadOp⟩ ⟨_, q_BadPlan⟩ ⟨_, q_BadProgram⟩ ⟨_, q_BadSpan⟩ ⟨_, q_BadText⟩ ⟨_, q_NotAsked⟩ ⟨_, q_TooMany⟩ tab, q__law_names, F__law_names.kp, b__law_names⟩⟩
  have k__law_caught : DefOk (PySem.Challenge.rw_everyrounding_k38_rest_is_muladd).prog w K mg base (TbOf K hlm) "_law_caught" 61 1 [] m__law_caught := def_mk (n := 1) F__law_caught q__law_caught (ok__law_caught F__law_caught ⟨_, q_BadProgram⟩ ⟨_, q_BadText⟩ ⟨_, q_Refused⟩ ⟨_, q_TooMany⟩ tab k__law_names) b__law_caught .nil rfl
  have k__law_common : DefOk (PySem.Challenge.rw_everyrounding_k38_rest_is_muladd).prog w K mg base (TbOf K hlm) "_law_common" 1 2 [] m__law_common := def_mk (n := 2) F__law_common q__law_common (ok__law_common F__law_common z_abs z_int) b__law_common .nil rfl
  have k__law_mode : DefOk (PySem.Challenge.rw_everyrounding_k38_rest_is_muladd).prog w K mg base (TbOf K hlm) "_law_mode" 35 1 [] m__law_mode := def_mk (n := 1) F__law_mode q__law_mode (ok__law_mode F__law_mode k__law_take) b__law_mode .nil rfl
  have k__law_odd : DefOk (PySem.Challenge.rw_everyrounding_k38_rest_is_muladd).prog w K mg base (TbOf K hlm) "_law_odd" 1 3 [] m__law_odd := def_mk (n := 3) F__law_odd q__law_odd (ok__law_odd F__law_odd) b__law_odd .nil rfl
  have k__law_tiny_form : DefOk (PySem.Challenge.rw_everyrounding_k38_rest_is_muladd).prog w K mg base (TbOf K hlm) "_law_tiny_form" 35 1 [] m__law_tiny_form := def_mk (n := 1) F__law_tiny_form q__law_tiny_form (ok__law_tiny_form F__law_tiny_form k__law_take) b__law_tiny_form .nil rfl
  have k__law_wide_form : DefOk (PySem.Challenge.rw_everyrounding_k38_rest_is_muladd).prog w K mg base (TbOf K hlm) "_law_wide_form" 36 1 [] m__law_wide_form := def_mk (n := 1) F__law_wide_form q__law_wide_form (ok__law_wide_form F__law_wide_form k__law_edge) b__law_wide_form .nil rfl
  have k__law_loose : DefOk (PySem.Challenge.rw_everyrounding_k38_rest_is_muladd).prog w K mg base (TbOf K hlm) "_law_loose" 36 3 [] m__law_loose := def_mk (n := 3) F__law_loose q__law_loose (ok__law_loose F__law_loose k__law_edge k__law_scaled k__law_take) b__law_loose .nil rfl
  have k__law_number : DefOk (PySem.Challenge.rw_everyrounding_k38_rest_is_muladd).prog w K mg base (TbOf K hlm) "_law_number" 37 1 [] m__law_number := def_mk (n := 1) F__law_number q__law_number (ok__law_number F__law_number k__law_loose k__law_take) b__law_number .nil rfl
  have k__law_bad_number : DefOk (PySem.Challenge.rw_everyrounding_k38_rest_is_muladd).prog w K mg base (TbOf K hlm) "_law_bad_number" 36 2 [] m__law_bad_number := def_mk (n := 2) F__law_bad_number q__law_bad_number (ok__law_bad_number F__law_bad_number z_len k__law_no_integer k__law_take) b__law_bad_number .nil rfl
  have k__law_step : DefOk (PySem.Challenge.rw_everyrounding_k38_rest_is_muladd).prog w K mg base (TbOf K hlm) "_law_step" 1 5 [] m__law_step := def_mk (n := 5) F__law_step q__law_step (ok__law_step F__law_step z_int) b__law_step .nil rfl
  have k__law_round : DefOk (PySem.Challenge.rw_everyrounding_k38_rest_is_muladd).prog w K mg base (TbOf K hlm) "_law_round" 2 4 [] m__law_round := def_mk (n := 4) F__law_round q__law_round (ok__law_round F__law_round z_abs z_int z_max k__law_odd k__law_step) b__law_round .nil rfl
  have k__law_rounded_at : DefOk (PySem.Challenge.rw_everyrounding_k38_rest_is_muladd).prog w K mg base (TbOf K hlm) "_law_rounded_at" 3 4 [] m__law_rounded_at := def_mk (n := 4) F__law_rounded_at q__law_rounded_at (ok__law_rounded_at F__law_rounded_at z_max k__law_round) b__law_rounded_at .nil rfl
  have k__law_refused : DefOk (PySem.Challenge.rw_everyrounding_k38_rest_is_muladd).prog w K mg base (TbOf K hlm) "_law_refused" 62 2 [] m__law_refused := def_mk (n := 2) F__law_refused q__law_refused (ok__law_refused F__law_refused k__law_caught k__law_same) b__law_refused .nil rfl
  have k__law_asked : DefOk (PySem.Challenge.rw_everyrounding_k38_rest_is_muladd).prog w K mg base (TbOf K hlm) "_law_asked" 62 2 [] m__law_asked := def_mk (n := 2) F__law_asked q__law_asked (ok__law_asked F__law_asked z_range k__law_caught k__law_same) b__law_asked .nil rfl
  have k__law_operand_pair : DefOk (PySem.Challenge.rw_everyrounding_k38_rest_is_muladd).prog w K mg base (TbOf K hlm) "_law_operand_pair" 38 1 [] m__law_operand_pair := def_mk (n := 1) F__law_operand_pair q__law_operand_pair (ok__law_operand_pair F__law_operand_pair z_abs k__law_loose k__law_number k__law_odd k__law_scaled k__law_take) b__law_operand_pair .nil rfl
  have k__law_division : DefOk (PySem.Challenge.rw_everyrounding_k38_rest_is_muladd).prog w K mg base (TbOf K hlm) "_law_division" 1 2 [] m__law_division := def_mk (n := 2) F__law_division q__law_division (ok__law_division F__law_division z_min) b__law_division .nil rfl
  have k__law_rest_pair : DefOk (PySem.Challenge.rw_everyrounding_k38_rest_is_muladd).prog w K mg base (TbOf K hlm) "_law_rest_pair" 2 3 [] m__law_rest_pair := def_mk (n := 3) F__law_rest_pair q__law_rest_pair (ok__law_rest_pair F__law_rest_pair z_int k__law_division) b__law_rest_pair .nil rfl
  have k__law_rest_due : DefOk (PySem.Challenge.rw_everyrounding_k38_rest_is_muladd).prog w K mg base (TbOf K hlm) "_law_rest_due" 3 3 [] m__law_rest_due := def_mk (n := 3) F__law_rest_due q__law_rest_due (ok__law_rest_due F__law_rest_due z_abs z_int k__law_odd k__law_rest_pair) b__law_rest_due .nil rfl
  have k__law_rests_right : DefOk (PySem.Challenge.rw_everyrounding_k38_rest_is_muladd).prog w K mg base (TbOf K hlm) "_law_rests_right" 62 2 [] m__law_rests_right := def_mk (n := 2) F__law_rests_right q__law_rests_right (ok__law_rests_right F__law_rests_right z_range (lamK_of x6 (List.mem_of_getElem? (i := 0) rfl) D__law_rests_right tb2) k__law_caught k__law_rest_due k__law_same k_cut_rest k_rest) b__law_rests_right .nil rfl
  have k__law_quotient : DefOk (PySem.Challenge.rw_everyrounding_k38_rest_is_muladd).prog w K mg base (TbOf K hlm) "_law_quotient" 2 2 [] m__law_quotient := def_mk (n := 2) F__law_quotient q__law_quotient (ok__law_quotient F__law_quotient z_max k__law_common) b__law_quotient .nil rfl
  have kk_muladd_mode : DefKw (PySem.Challenge.rw_everyrounding_k38_rest_is_muladd).prog w K mg base (TbOf K hlm) "muladd" 39 5 4 ["mode"] [] [] m_muladd := kw_mk (stm := s_muladd) (ps := ["form", "x", "y", "z", "mode"]) (ms1 := []) (ms2 := []) D_muladd q_muladd (ok_muladd F_muladd k_check_step k_muladd_answer) (List.cons_ne_nil _ _) (fun q hq => nomatch hq) rfl rfl (fun D doc pm an cdv ct us mv ws h1 h2 h3 => match us, h1, mv, h2, ws, h3 with | [_, _, _, _], _, [], _, [_], _ => rfl)
  have k__law_road_right : DefOk (PySem.Challenge.rw_everyrounding_k38_rest_is_muladd).prog w K mg base (TbOf K hlm) "_law_road_right" 63 3 [] m__law_road_right := def_mk (n := 3) F__law_road_right q__law_road_right (ok__law_road_right F__law_road_right z_int (lamK_of x6 (List.mem_of_getElem? (i := 1) rfl) D__law_road_right tb2) k__law_asked k__law_division k__law_mode k__law_odd k__law_quotient k__law_refused k__law_rest_pair k__law_rounded_at k__law_take k__law_tiny_form k__law_wide_form k_exact_quotient k_place kk_muladd_mode) b__law_road_right .nil rfl
  exact ok_law2 F_law (ok_store F__law_store z_int) q__law_store F__law_store.kp b__law_store z_range k__law_bad_number k__law_operand_pair k__law_refused k__law_rests_right k__law_road_right k_cut_rest k_exact_quotient k_rest (lamK_of x6 (List.mem_of_getElem? (i := 2) rfl) D_law tb2)
end A38
open PySem PySem.W PySem.Calls PyProof.Rows
theorem PySem.Challenge.cw_everyrounding_k38_rest_is_muladd_holds : PySem.Challenge.rw_everyrounding_k38_rest_is_muladd.Holds := by
  w_on; o_law
  refine HandSHeadRun.head_imp (r := OpenLaw.row PySem.Challenge.rw_everyrounding_k38_rest_is_muladd) (q := view (OpenLaw.row PySem.Challenge.rw_everyrounding_k38_rest_is_muladd).prog [112]) (H := A38.hk) (ob := A38.hob) (M := 12000) (loose := A38.hlo) (d := HandSHeadRun.topDef (OpenLaw.row PySem.Challenge.rw_everyrounding_k38_rest_is_muladd).prog 112) (kwd := []) A38.hob_eq
    A38.hrun (by kernel_rfl) (by kernel_rfl) (by kernel_rfl) (by rfl) (by first | assumption | decide +kernel) (by decide +kernel) ⟨rfl, rfl, rfl, rfl, rfl, by decide +kernel⟩ ?hw ?hc
  case hw => w_witness2
  case hc =>
    refine Mi.walk_seer (l := PySem.Challenge.rw_everyrounding_k38_rest_is_muladd) (n := 63) (k := 64) (x := "script") rfl (by decide) (by kernel_rfl) ⟨rfl, by decide, by decide⟩ (by kernel_rfl) ?F
    intro w mg fa h Y G hmg0
    obtain ⟨K, KX, c⟩ := Y
    have hmg : mg ("law" : PySem.Str) = some (.ref fa) := by
      have e : (HandSHeadRun.topDef (OpenLaw.row PySem.Challenge.rw_everyrounding_k38_rest_is_muladd).prog 112).name = ("law" : PySem.Str) := by kernel_rfl
      rw [← e]
      exact hmg0
    exact ⟨K, KX, A38.facts KX G hmg c⟩
end
