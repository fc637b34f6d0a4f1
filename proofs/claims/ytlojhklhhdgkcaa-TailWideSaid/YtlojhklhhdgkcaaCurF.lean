/-
  Texts as numbers; what a cursor takes where there is enough.
-/
import Derived.Test.YtlojhklhhdgkcaaCurE
namespace Go.Proofs.Ytlojhklhhdgkcaa
set_option maxRecDepth 100000
open Go.RowKit Go.Joins

theorem nums_append (a b : ByteArray) : nums (a ++ b) = nums a ++ nums b := by
  unfold nums
  rw [ByteArray.data_append]
  simp
theorem map_inj : ∀ (l m : List UInt8), l.map UInt8.toNat = m.map UInt8.toNat → l = m
  | [], [], _ => rfl
  | [], _ :: _, h => by simp at h
  | _ :: _, [], h => by simp at h
  | x :: l, y :: m, h => by
    simp only [List.map_cons, List.cons.injEq] at h
    rw [UInt8.toNat_inj.1 h.1, map_inj l m h.2]
theorem nums_inj (a b : ByteArray) (h : nums a = nums b) : a = b := by
  have h2 : a.data.toList = b.data.toList := map_inj _ _ h
  cases a with
  | mk x => cases b with
    | mk y => exact congrArg ByteArray.mk (Array.toList_inj.1 h2)
theorem mayB_yes (s : ByteArray) (a k : Nat) (h : a + k ≤ s.size) : mayB s a 0 (k : Nat) = true := by
  unfold mayB
  exact decide_eq_true ⟨rfl, by omega, by omega⟩
theorem atB_yes (s : ByteArray) (a k : Nat) (h : a + k ≤ s.size) : atB s a 0 (k : Nat) = a + k := if_pos (mayB_yes s a k h)
theorem errB_yes (s : ByteArray) (a k : Nat) (h : a + k ≤ s.size) : errB s a 0 (k : Nat) = 0 := if_pos (mayB_yes s a k h)
theorem nums_piece (s : ByteArray) (a k : Nat) (h : a + k ≤ s.size) : nums (piece s a 0 (k : Nat)) = ((nums s).drop a).take k := by
  unfold piece
  rw [if_pos (mayB_yes s a k h), Int.toNat_natCast]
  unfold nums
  rw [ByteArray.data_extract]
  simp
end Go.Proofs.Ytlojhklhhdgkcaa
