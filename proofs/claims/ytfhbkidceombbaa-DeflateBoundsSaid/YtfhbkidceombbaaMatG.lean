/-
  Contract: the document's Places.
-/
import Derived.Test.YtfhbkidceombbaaMatF
namespace Go.Proofs.Ytfhbkidceombbaa
set_option maxRecDepth 100000
open Go.RowKit Go.Deep Go.Joins

def cellsI (l : List Nat) : List Value := l.map fun i => Value.int .i64 (i : Nat)
theorem cellsI_zs (l : List Nat) : (zsOf l).map (Value.int .i64) = cellsI l := by unfold zsOf cellsI; rw [List.map_map]; rfl
theorem byte_eq (s : ByteArray) (k x : Nat) (h : k < s.size) : ((s[k].toNat : Int) == (x : Int)) = decide (bt s k = x) := by
  rw [bt_get s k h]
  rw [Bool.eq_iff_iff]
  simp only [beq_iff_eq, decide_eq_true_eq]
  exact Int.natCast_inj
end Go.Proofs.Ytfhbkidceombbaa
