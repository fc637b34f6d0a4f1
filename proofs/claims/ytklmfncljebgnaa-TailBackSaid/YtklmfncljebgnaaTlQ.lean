/-
  Where the last four bytes of an end record stand: what strings.LastIndex says of it.
-/
import Derived.Test.YtklmfncljebgnaaTlP
import Derived.Lib.LastIndexLaws
namespace Go.Proofs.Ytklmfncljebgnaa
set_option maxRecDepth 100000
set_option linter.unusedSimpArgs false
set_option linter.unusedVariables false
open Go.RowKit Go.Joins Go.Deep Go.Op
theorem occ_end (s : ByteArray) (j : Nat) (h : j + 4 ≤ s.size) : Lib.occAt s.data.toList [80, 75, 5, 6] j = decide (nAt s j 4 = 101010256) := by
  rw [← pre_end s j h]
  have hd : (s.extract j s.size).data.toList = s.data.toList.drop j := by
    rw [ByteArray.data_extract, Array.toList_extract, List.extract_eq_take_drop]
    exact List.take_of_length_le (by rw [List.length_drop]; show _ ≤ _; rw [show s.data.toList.length = s.size from rfl]; exact Nat.le_refl _)
  rw [hd]
  rfl
theorem last_four (s : ByteArray) (k : Nat) (h : Lib.lastIndex s.data.toList [80, 75, 5, 6] ≤ (k : Int)) (j : Nat) (hj : k < j) (hs : j + 4 ≤ s.size) : nAt s j 4 ≠ 101010256 := by
  intro hn
  have hl : s.data.toList.length = s.size := rfl
  have ho := occ_end s j hs
  rw [decide_eq_true hn] at ho
  unfold Lib.lastIndex at h
  rw [if_pos (by show 4 ≤ _; omega)] at h
  rcases Lib.lastOcc_spec s.data.toList [80, 75, 5, 6] (s.data.toList.length - ([80, 75, 5, 6] : List UInt8).length + 1) with ⟨_, hno⟩ | ⟨i, hi, he, _, hno⟩
  · have := hno j (by show j < _ - 4 + 1; omega)
    rw [ho] at this
    cases this
  · rw [he] at h
    have := hno j (by omega) (by show j < _ - 4 + 1; omega)
    rw [ho] at this
    cases this
/-- The last sign of s, where s stands behind p: none in p ++ s behind it. -/
theorem nAt_app (p s : ByteArray) (j k : Nat) : nAt (p ++ s) (p.size + j) k = nAt s j k := by
  unfold nAt
  rw [← List.drop_drop, drop_app]
theorem last_behind (p s : ByteArray) (k : Nat) (h : Lib.lastIndex s.data.toList [80, 75, 5, 6] ≤ (k : Int)) (j : Nat) (hj : p.size + k < j) (hs : j + 22 ≤ (p ++ s).size) : nAt (p ++ s) j 4 ≠ 101010256 := by
  rw [ByteArray.size_append] at hs
  have := last_four s k h (j - p.size) (by omega) (by omega)
  rw [← nAt_app p s, show p.size + (j - p.size) = j by omega] at this
  exact this
end Go.Proofs.Ytklmfncljebgnaa
