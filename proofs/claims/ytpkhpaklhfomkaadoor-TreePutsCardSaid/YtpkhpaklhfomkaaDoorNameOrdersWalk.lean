/-
  The walk of NameOrders: it returns true, whatever the paths.
-/
import Derived.Test.YtpkhpaklhfomkaaDoorNamG
namespace Go.Proofs.YtpkhpaklhfomkaaDoor
set_option maxRecDepth 100000
open Go.RowKit Go.Deep Go.Joins Go.Lib

theorem ordT_neg (a b : ByteArray) : ordT b a = - ordT a b := ordL_neg _ _
theorem ordT_three (a b : ByteArray) : ordT a b = -1 ∨ ordT a b = 0 ∨ ordT a b = 1 := ordL_three _ _
theorem nums_inj {a b : ByteArray} (h : nums a = nums b) : a = b := by rw [← text_nums a, ← text_nums b, h]
theorem ordT_zero (a b : ByteArray) : ordT a b = 0 ↔ a = b := ⟨fun h => nums_inj ((ordL_zero _ _).1 h), fun h => by rw [h]; exact ordL_self _⟩
theorem eq_texts (a b : ByteArray) : (a.toList == b.toList) = decide (a = b) := by
  by_cases h : a = b
  · subst h; simp
  · rw [decide_eq_false h, beq_eq_false_iff_ne, Lib.toList_data, Lib.toList_data]
    intro e
    exact h (ByteArray.ext (Array.toList_inj.1 e))
theorem und_le (a b : ByteArray) (h : undB a b = true) : ordT b a ≤ 0 := by
  unfold undB at h
  have h1 : Lib.hasPrefix a.data.toList b.data.toList = true := by
    cases e : Lib.hasPrefix a.data.toList b.data.toList with
    | true => rfl
    | false => rw [e] at h; exact absurd h (by simp)
  unfold Lib.hasPrefix at h1
  rw [List.isPrefixOf_iff_prefix] at h1
  obtain ⟨t, ht⟩ := h1
  unfold ordT
  have e : nums a = nums b ++ t.map UInt8.toNat := by unfold nums; rw [← ht, List.map_append]
  rw [e]
  exact ordL_prefix _ _

end Go.Proofs.YtpkhpaklhfomkaaDoor
