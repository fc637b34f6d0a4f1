/-
  Contracts of package header: begin.
-/
import Derived.Test.YtlojhklhhdgkcaaHdN
namespace Go.Proofs.Ytlojhklhhdgkcaa
set_option maxRecDepth 100000
set_option linter.unusedSimpArgs false
open Go.RowKit Go.Joins Go.Deep Go.Op
theorem mark_beq {s M : ByteArray} {k : Nat} (hk : k < 4294967296) (hM : M = text (le k 4)) (h4 : 4 ≤ s.size) : ((tAt s 0 4).toList == M.toList) = decide (nAt s 0 4 = k) := by
  subst hM
  rw [tAt_le s 0 4 (by omega)]
  have hl := nAt_lt s 0 4
  by_cases h : nAt s 0 4 = k
  · rw [h, decide_eq_true rfl]
    exact beq_self_eq_true _
  · rw [decide_eq_false h, beq_eq_false_iff_ne, Lib.toList_data, Lib.toList_data]
    intro e
    have e2 : text (le (nAt s 0 4) 4) = text (le k 4) := ByteArray.ext (Array.toList_inj.1 e)
    have e3 := congrArg nums e2
    rw [nums_text _ (le_lt _ _), nums_text _ (le_lt _ _)] at e3
    have e4 := congrArg numL e3
    rw [numL_le, numL_le, Nat.mod_eq_of_lt hl, Nat.mod_eq_of_lt (by omega)] at e4
    exact h e4
end Go.Proofs.Ytlojhklhhdgkcaa
