/-
  Small facts that all our walks use: a number of a kind as a natural one.
-/
import Derived.Test.YtpkhpaklhfomkaaGreatDoorRows
import Derived.WalkKit
import Derived.WalkSpells
import Derived.WalkLawsBesides
import Derived.OpenShut
import Derived.Lib.Hide
namespace Go.Proofs.YtpkhpaklhfomkaaGreatDoor
open Go.RowKit

theorem nat_of {a : Int} {B : Nat} (h : 0 ≤ a ∧ a ≤ B) : ∃ n : Nat, a = n ∧ n < B + 1 := by
  obtain ⟨n, rfl⟩ := Int.eq_ofNat_of_zero_le h.1
  exact ⟨n, rfl, by omega⟩
theorem nat_u8 {a : Int} (w : (Lit.int .u8 a).wf = true) : ∃ n : Nat, a = n ∧ n < 256 := nat_of (bounds_u8 w)
theorem nat_u16 {a : Int} (w : (Lit.int .u16 a).wf = true) : ∃ n : Nat, a = n ∧ n < 65536 := nat_of (bounds_u16 w)
theorem nat_u32 {a : Int} (w : (Lit.int .u32 a).wf = true) : ∃ n : Nat, a = n ∧ n < 4294967296 := nat_of (bounds_u32 w)
theorem nat_u64 {a : Int} (w : (Lit.int .u64 a).wf = true) : ∃ n : Nat, a = n ∧ n < 18446744073709551616 := nat_of (bounds_u64 w)
theorem ret_eq {k : IntKind} {a b : Int} (h : a = b) : Ending.returned (.int k a) = .returned (.int k b) := by rw [h]
theorem below_drewN {B : Nat} {a w : World} (h : Below B a w) (n : Nat) : Below B a (w.drewN n) := h.trans ⟨rfl, rfl, rfl, Nat.le_refl _, fun _ _ => rfl⟩
theorem below_setRow {B : Nat} {a w : World} (h : Below B a w) {g : Nat} (hg : B ≤ g) (cs : Array Value) : Below B a (w.setRow g cs) :=
  h.trans ⟨rfl, rfl, rfl, by simp, fun k hk => setRow_other w g k cs (by omega)⟩
/-- A call behind a call: what was below stays below. -/
theorem below_then {W w w' : World} (h : Below W.heap.size W w) (k : Below w.heap.size w w') : Below W.heap.size W w' := h.trans (k.mono h.size)
end Go.Proofs.YtpkhpaklhfomkaaGreatDoor
