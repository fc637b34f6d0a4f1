/-
  Rows of numbers as bytes (package header).
-/
import Derived.Test.YtlojhklhhdgkcaaHdG
namespace Go.Proofs.Ytlojhklhhdgkcaa
set_option maxRecDepth 100000
set_option linter.unusedSimpArgs false
open Go.RowKit Go.Joins Go.Deep Go.Op
/-- Numbers as bytes, one behind the other. -/
def lesL (k : Nat) (l : List Nat) : List Nat := l.flatMap fun x => le x k
theorem lesL_len (k : Nat) (l : List Nat) : (lesL k l).length = k * l.length := by
  induction l with
  | nil => rfl
  | cons x l ih =>
    have e : lesL k (x :: l) = le x k ++ lesL k l := by simp [lesL]
    rw [e, List.length_append, ih, le_len, List.length_cons, Nat.mul_succ, Nat.add_comm]
theorem lesL_lt (k : Nat) (l : List Nat) : ∀ x ∈ lesL k l, x < 256 := by
  intro x hx
  unfold lesL at hx
  obtain ⟨y, _, hy⟩ := List.mem_flatMap.1 hx
  exact le_lt _ _ x hy
end Go.Proofs.Ytlojhklhhdgkcaa
