/-
  Contracts of package header: ParseLocal.
-/
import Derived.Test.YtlojhklhhdgkcaaHdO
namespace Go.Proofs.Ytlojhklhhdgkcaa
set_option maxRecDepth 100000
set_option linter.unusedSimpArgs false
open Go.RowKit Go.Joins Go.Deep Go.Op
theorem below_then' {w w0 y : World} (h : Below w.heap.size w w0) (hs : w0.heap.size = w.heap.size + 1) (k : Below w0.heap.size w0 y) : Below w.heap.size w y := h.trans (k.mono (by omega))
/-- Does the header fit? -/
def fitL (s : ByteArray) : Prop := 30 + nAt s 26 2 + nAt s 28 2 ≤ s.size
instance (s : ByteArray) : Decidable (fitL s) := by unfold fitL; infer_instance
/-- Its fields. -/
def hdL (s : ByteArray) : Array Value := #[.int .u16 (nAt s 4 2 : Nat), .int .u16 (nAt s 6 2 : Nat), .int .u16 (nAt s 8 2 : Nat), .int .u32 (nAt s 10 4 : Nat), .int .u32 (nAt s 14 4 : Nat), .int .u32 (nAt s 18 4 : Nat), .int .u32 (nAt s 22 4 : Nat), .string (tAt s (30) (nAt s 26 2)), .string (tAt s (30 + nAt s 26 2) (nAt s 28 2))]
def endL (s : ByteArray) : Nat := 30 + nAt s 26 2 + nAt s 28 2
/-- What ParseLocal answers. -/
def psL (s : ByteArray) : Value := if begB s 67324752 = true then (if fitL s then .tuple #[.agg (hdL s), .int .i64 (endL s : Nat), .int .i64 0] else .tuple #[.agg #[.int .u16 0, .int .u16 0, .int .u16 0, .int .u32 0, .int .u32 0, .int .u32 0, .int .u32 0, .string ⟨#[]⟩, .string ⟨#[]⟩], .int .i64 0, .int .i64 3]) else .tuple #[.agg #[.int .u16 0, .int .u16 0, .int .u16 0, .int .u32 0, .int .u32 0, .int .u32 0, .int .u32 0, .string ⟨#[]⟩, .string ⟨#[]⟩], .int .i64 0, .int .i64 4]
theorem take_fitL0 {s : ByteArray} {v1 v2 v3 v4 v5 v6 v7 v8 v9 : Nat} (f : fitL s) (q : ((((((((((4 ≤ s.size ∧ nAt s 0 4 = 67324752) ∧ 4 + 2 ≤ s.size ∧ v1 = nAt s (4) 2) ∧ 4 + 2 + 2 ≤ s.size ∧ v2 = nAt s (4 + 2) 2) ∧ 4 + 2 + 2 + 2 ≤ s.size ∧ v3 = nAt s (4 + 2 + 2) 2) ∧ 4 + 2 + 2 + 2 + 4 ≤ s.size ∧ v4 = nAt s (4 + 2 + 2 + 2) 4) ∧ 4 + 2 + 2 + 2 + 4 + 4 ≤ s.size ∧ v5 = nAt s (4 + 2 + 2 + 2 + 4) 4) ∧ 4 + 2 + 2 + 2 + 4 + 4 + 4 ≤ s.size ∧ v6 = nAt s (4 + 2 + 2 + 2 + 4 + 4) 4) ∧ 4 + 2 + 2 + 2 + 4 + 4 + 4 + 4 ≤ s.size ∧ v7 = nAt s (4 + 2 + 2 + 2 + 4 + 4 + 4) 4) ∧ 4 + 2 + 2 + 2 + 4 + 4 + 4 + 4 + 2 ≤ s.size ∧ v8 = nAt s (4 + 2 + 2 + 2 + 4 + 4 + 4 + 4) 2) ∧ 4 + 2 + 2 + 2 + 4 + 4 + 4 + 4 + 2 + 2 ≤ s.size ∧ v9 = nAt s (4 + 2 + 2 + 2 + 4 + 4 + 4 + 4 + 2) 2)) : 4 + 2 + 2 + 2 + 4 + 4 + 4 + 4 + 2 + 2 + v8 ≤ s.size := by
  unfold fitL at f
  obtain ⟨⟨⟨⟨⟨⟨⟨⟨⟨⟨k0, e0⟩, k1, e1⟩, k2, e2⟩, k3, e3⟩, k4, e4⟩, k5, e5⟩, k6, e6⟩, k7, e7⟩, k8, e8⟩, k9, e9⟩ := q
  simp only [Nat.reduceAdd] at *
  omega
theorem take_fitL1 {s : ByteArray} {v1 v2 v3 v4 v5 v6 v7 v8 v9 : Nat} {v10 : ByteArray} (f : fitL s) (q : (((((((((((4 ≤ s.size ∧ nAt s 0 4 = 67324752) ∧ 4 + 2 ≤ s.size ∧ v1 = nAt s (4) 2) ∧ 4 + 2 + 2 ≤ s.size ∧ v2 = nAt s (4 + 2) 2) ∧ 4 + 2 + 2 + 2 ≤ s.size ∧ v3 = nAt s (4 + 2 + 2) 2) ∧ 4 + 2 + 2 + 2 + 4 ≤ s.size ∧ v4 = nAt s (4 + 2 + 2 + 2) 4) ∧ 4 + 2 + 2 + 2 + 4 + 4 ≤ s.size ∧ v5 = nAt s (4 + 2 + 2 + 2 + 4) 4) ∧ 4 + 2 + 2 + 2 + 4 + 4 + 4 ≤ s.size ∧ v6 = nAt s (4 + 2 + 2 + 2 + 4 + 4) 4) ∧ 4 + 2 + 2 + 2 + 4 + 4 + 4 + 4 ≤ s.size ∧ v7 = nAt s (4 + 2 + 2 + 2 + 4 + 4 + 4) 4) ∧ 4 + 2 + 2 + 2 + 4 + 4 + 4 + 4 + 2 ≤ s.size ∧ v8 = nAt s (4 + 2 + 2 + 2 + 4 + 4 + 4 + 4) 2) ∧ 4 + 2 + 2 + 2 + 4 + 4 + 4 + 4 + 2 + 2 ≤ s.size ∧ v9 = nAt s (4 + 2 + 2 + 2 + 4 + 4 + 4 + 4 + 2) 2) ∧ 4 + 2 + 2 + 2 + 4 + 4 + 4 + 4 + 2 + 2 + v8 ≤ s.size ∧ v10 = tAt s (4 + 2 + 2 + 2 + 4 + 4 + 4 + 4 + 2 + 2) v8)) : 4 + 2 + 2 + 2 + 4 + 4 + 4 + 4 + 2 + 2 + v8 + v9 ≤ s.size := by
  unfold fitL at f
  obtain ⟨⟨⟨⟨⟨⟨⟨⟨⟨⟨⟨k0, e0⟩, k1, e1⟩, k2, e2⟩, k3, e3⟩, k4, e4⟩, k5, e5⟩, k6, e6⟩, k7, e7⟩, k8, e8⟩, k9, e9⟩, k10, e10⟩ := q
  simp only [Nat.reduceAdd] at *
  omega
theorem psL_yes {s : ByteArray} {v1 v2 v3 v4 v5 v6 v7 v8 v9 : Nat} {v10 v11 : ByteArray} (hb : begB s 67324752 = true) (q : ((((((((((((4 ≤ s.size ∧ nAt s 0 4 = 67324752) ∧ 4 + 2 ≤ s.size ∧ v1 = nAt s (4) 2) ∧ 4 + 2 + 2 ≤ s.size ∧ v2 = nAt s (4 + 2) 2) ∧ 4 + 2 + 2 + 2 ≤ s.size ∧ v3 = nAt s (4 + 2 + 2) 2) ∧ 4 + 2 + 2 + 2 + 4 ≤ s.size ∧ v4 = nAt s (4 + 2 + 2 + 2) 4) ∧ 4 + 2 + 2 + 2 + 4 + 4 ≤ s.size ∧ v5 = nAt s (4 + 2 + 2 + 2 + 4) 4) ∧ 4 + 2 + 2 + 2 + 4 + 4 + 4 ≤ s.size ∧ v6 = nAt s (4 + 2 + 2 + 2 + 4 + 4) 4) ∧ 4 + 2 + 2 + 2 + 4 + 4 + 4 + 4 ≤ s.size ∧ v7 = nAt s (4 + 2 + 2 + 2 + 4 + 4 + 4) 4) ∧ 4 + 2 + 2 + 2 + 4 + 4 + 4 + 4 + 2 ≤ s.size ∧ v8 = nAt s (4 + 2 + 2 + 2 + 4 + 4 + 4 + 4) 2) ∧ 4 + 2 + 2 + 2 + 4 + 4 + 4 + 4 + 2 + 2 ≤ s.size ∧ v9 = nAt s (4 + 2 + 2 + 2 + 4 + 4 + 4 + 4 + 2) 2) ∧ 4 + 2 + 2 + 2 + 4 + 4 + 4 + 4 + 2 + 2 + v8 ≤ s.size ∧ v10 = tAt s (4 + 2 + 2 + 2 + 4 + 4 + 4 + 4 + 2 + 2) v8) ∧ 4 + 2 + 2 + 2 + 4 + 4 + 4 + 4 + 2 + 2 + v8 + v9 ≤ s.size ∧ v11 = tAt s (4 + 2 + 2 + 2 + 4 + 4 + 4 + 4 + 2 + 2 + v8) v9)) : psL s = .tuple #[.agg #[.int .u16 (v1 : Nat), .int .u16 (v2 : Nat), .int .u16 (v3 : Nat), .int .u32 (v4 : Nat), .int .u32 (v5 : Nat), .int .u32 (v6 : Nat), .int .u32 (v7 : Nat), .string v10, .string v11], .int .i64 ((4 + 2 + 2 + 2 + 4 + 4 + 4 + 4 + 2 + 2 + v8 + v9 : Nat)), .int .i64 0] := by
  obtain ⟨⟨⟨⟨⟨⟨⟨⟨⟨⟨⟨⟨k0, e0⟩, k1, e1⟩, k2, e2⟩, k3, e3⟩, k4, e4⟩, k5, e5⟩, k6, e6⟩, k7, e7⟩, k8, e8⟩, k9, e9⟩, k10, e10⟩, k11, e11⟩ := q
  unfold psL
  rw [if_pos hb, if_pos]
  · unfold hdL endL
    subst e11 e10 e9 e8 e7 e6 e5 e4 e3 e2 e1
    rfl
  · unfold fitL
    simp only [Nat.reduceAdd] at *
    omega
end Go.Proofs.Ytlojhklhhdgkcaa
