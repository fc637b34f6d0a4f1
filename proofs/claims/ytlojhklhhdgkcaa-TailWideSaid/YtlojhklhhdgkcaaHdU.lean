/-
  What is printed on both sides is one; the walk of HeaderPrints.
-/
import Derived.Test.YtlojhklhhdgkcaaHdV
import Derived.Deep.RegionHeld3
import Derived.Deep.CutRange
namespace Go.Proofs.Ytlojhklhhdgkcaa
set_option maxRecDepth 100000
set_option linter.unusedSimpArgs false
set_option linter.unusedVariables false
open Go.RowKit Go.Joins Go.Deep Go.Op
theorem app_text (a : ByteArray) : a = text (nums a) := (text_nums a).symm
theorem tx_L (a0 a1 a2 a3 a4 a5 a6 : Nat) (as7 as8 : ByteArray) : txL a0 a1 a2 a3 a4 a5 a6 as7 as8 = text (prN (rowLocal a0 a1 a2 a3 a4 a5 a6 as7 as8) wsLocals) ++ as7 ++ as8 := by
  unfold txL
  rw [show (⟨#[80, 75, 3, 4]⟩ : ByteArray) = text (le 67324752 4) by rfl, text_app, text_app, text_app]
  congr 3
theorem tx_C (b0 b1 b2 b3 b4 b5 b6 b7 b8 b9 b10 b11 : Nat) (bs12 bs13 bs14 : ByteArray) : txC b0 b1 b2 b3 b4 b5 b6 b7 b8 b9 b10 b11 bs12 bs13 bs14 = text (prN (rowCentral b0 b1 b2 b3 b4 b5 b6 b7 b8 b9 b10 b11 bs12 bs13 bs14) wsCentrals) ++ bs12 ++ bs13 ++ bs14 := by
  unfold txC
  rw [show (⟨#[80, 75, 1, 2]⟩ : ByteArray) = text (le 33639248 4) by rfl, text_app, text_app, text_app, text_app, text_app]
  congr 4
theorem tx_D (x0 x1 x2 : Nat) (wide : Bool) : txD x0 x1 x2 wide = text (prN (rowDescriptor x0 x1 x2) (wsD wide)) := by
  unfold txD szD
  rw [show (⟨#[80, 75, 7, 8]⟩ : ByteArray) = text (le 134695760 4) by rfl, text_app]
  cases wide
  · rw [if_neg (by decide), text_app]
    congr 1
    have e1 := le_mod x1 4 4 (Nat.le_refl _)
    have e2 := le_mod x2 4 4 (Nat.le_refl _)
    simp only [show (256 : Nat) ^ 4 = 4294967296 from rfl] at e1 e2
    simp [prN, rowDescriptor, wsD, lesL, e1, e2]
  · rw [if_pos rfl, text_app]
    congr 1
theorem prL_form (a0 a1 a2 a3 a4 a5 a6 : Nat) (as7 as8 : ByteArray) : ∃ (X : ByteArray) (f : Nat), prL a0 a1 a2 a3 a4 a5 a6 as7 as8 = .tuple #[.string X, .int .i64 (f : Nat)] := by
  unfold prL
  split
  · exact ⟨_, 0, rfl⟩
  · exact ⟨_, 5, rfl⟩
theorem prC_form (b0 b1 b2 b3 b4 b5 b6 b7 b8 b9 b10 b11 : Nat) (bs12 bs13 bs14 : ByteArray) : ∃ (X : ByteArray) (f : Nat), prC b0 b1 b2 b3 b4 b5 b6 b7 b8 b9 b10 b11 bs12 bs13 bs14 = .tuple #[.string X, .int .i64 (f : Nat)] := by
  unfold prC
  split
  · exact ⟨_, 0, rfl⟩
  · exact ⟨_, 5, rfl⟩
theorem fits_no {l : List ByteArray} {x : ByteArray} (h : x ∈ l) (hx : 65535 < x.size) : ¬ fitsT l = true := fun hf => by
  have := of_decide_eq_true (List.all_eq_true.1 hf x h)
  omega
theorem fits_yes {l : List ByteArray} (h : ∀ x ∈ l, x.size ≤ 65535) : fitsT l = true := List.all_eq_true.2 fun x hx => decide_eq_true (h x hx)
theorem tx_eq {X Y : ByteArray} (h : X = Y) : (X.toList == Y.toList) = true := by rw [h]; exact beq_self_eq_true _
end Go.Proofs.Ytlojhklhhdgkcaa
