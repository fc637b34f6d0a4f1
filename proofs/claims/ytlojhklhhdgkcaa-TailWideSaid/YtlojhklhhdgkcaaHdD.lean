/-
  Contracts of package header: ParseDescriptor.
-/
import Derived.Test.YtlojhklhhdgkcaaHdQ
namespace Go.Proofs.Ytlojhklhhdgkcaa
set_option maxRecDepth 100000
set_option linter.unusedSimpArgs false
open Go.RowKit Go.Joins Go.Deep Go.Op
/-- How many bytes each of its sizes has. -/
def dw (wide : Bool) : Nat := if wide then 8 else 4
def fitD (wide : Bool) (s : ByteArray) : Prop := 8 + dw wide + dw wide ≤ s.size
instance (wide : Bool) (s : ByteArray) : Decidable (fitD wide s) := by unfold fitD; infer_instance
def hdD (wide : Bool) (s : ByteArray) : Array Value := #[.int .u32 (nAt s 4 4 : Nat), .int .u64 (nAt s 8 (dw wide) : Nat), .int .u64 (nAt s (8 + dw wide) (dw wide) : Nat)]
def psD (wide : Bool) (s : ByteArray) : Value := if begB s 134695760 = true then (if fitD wide s then .tuple #[.agg (hdD wide s), .int .i64 (8 + dw wide + dw wide : Nat), .int .i64 0] else .tuple #[.agg #[.int .u32 0, .int .u64 0, .int .u64 0], .int .i64 0, .int .i64 3]) else .tuple #[.agg #[.int .u32 0, .int .u64 0, .int .u64 0], .int .i64 0, .int .i64 4]
theorem psD_yes {b : Bool} {s : ByteArray} {v1 v2 v3 : Nat} (hb : begB s 134695760 = true) (e1 : v1 = nAt s 4 4) (_ : 8 + dw b ≤ s.size) (e2 : v2 = nAt s 8 (dw b)) (k3 : 8 + dw b + dw b ≤ s.size) (e3 : v3 = nAt s (8 + dw b) (dw b)) : psD b s = .tuple #[.agg #[.int .u32 (v1 : Nat), .int .u64 (v2 : Nat), .int .u64 (v3 : Nat)], .int .i64 ((8 + dw b + dw b : Nat)), .int .i64 0] := by
  unfold psD
  rw [if_pos hb, if_pos (show fitD b s from k3)]
  unfold hdD
  subst e3 e2 e1
  rfl
end Go.Proofs.Ytlojhklhhdgkcaa
