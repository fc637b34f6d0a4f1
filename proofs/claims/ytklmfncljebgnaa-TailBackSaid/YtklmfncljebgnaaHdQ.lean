/-
  Contracts of package header: ParseCentral.
-/
import Derived.Test.YtklmfncljebgnaaHdP
namespace Go.Proofs.Ytklmfncljebgnaa
set_option maxRecDepth 100000
set_option linter.unusedSimpArgs false
open Go.RowKit Go.Joins Go.Deep Go.Op
/-- Does the header fit? -/
def fitC (s : ByteArray) : Prop := 46 + nAt s 28 2 + nAt s 30 2 + nAt s 32 2 ≤ s.size
instance (s : ByteArray) : Decidable (fitC s) := by unfold fitC; infer_instance
/-- Its fields. -/
def hdC (s : ByteArray) : Array Value := #[.int .u16 (nAt s 4 2 : Nat), .int .u16 (nAt s 6 2 : Nat), .int .u16 (nAt s 8 2 : Nat), .int .u16 (nAt s 10 2 : Nat), .int .u32 (nAt s 12 4 : Nat), .int .u32 (nAt s 16 4 : Nat), .int .u32 (nAt s 20 4 : Nat), .int .u32 (nAt s 24 4 : Nat), .int .u16 (nAt s 34 2 : Nat), .int .u16 (nAt s 36 2 : Nat), .int .u32 (nAt s 38 4 : Nat), .int .u32 (nAt s 42 4 : Nat), .string (tAt s (46) (nAt s 28 2)), .string (tAt s (46 + nAt s 28 2) (nAt s 30 2)), .string (tAt s (46 + nAt s 28 2 + nAt s 30 2) (nAt s 32 2))]
def endC (s : ByteArray) : Nat := 46 + nAt s 28 2 + nAt s 30 2 + nAt s 32 2
/-- What ParseCentral answers. -/
def psC (s : ByteArray) : Value := if begB s 33639248 = true then (if fitC s then .tuple #[.agg (hdC s), .int .i64 (endC s : Nat), .int .i64 0] else .tuple #[.agg #[.int .u16 0, .int .u16 0, .int .u16 0, .int .u16 0, .int .u32 0, .int .u32 0, .int .u32 0, .int .u32 0, .int .u16 0, .int .u16 0, .int .u32 0, .int .u32 0, .string ⟨#[]⟩, .string ⟨#[]⟩, .string ⟨#[]⟩], .int .i64 0, .int .i64 3]) else .tuple #[.agg #[.int .u16 0, .int .u16 0, .int .u16 0, .int .u16 0, .int .u32 0, .int .u32 0, .int .u32 0, .int .u32 0, .int .u16 0, .int .u16 0, .int .u32 0, .int .u32 0, .string ⟨#[]⟩, .string ⟨#[]⟩, .string ⟨#[]⟩], .int .i64 0, .int .i64 4]
theorem take_fitC0 {s : ByteArray} {v1 v2 v3 v4 v5 v6 v7 v8 v9 v10 v11 v12 v13 v14 v15 : Nat} (f : fitC s) (q : ((((((((((((((((4 ≤ s.size ∧ nAt s 0 4 = 33639248) ∧ 4 + 2 ≤ s.size ∧ v1 = nAt s (4) 2) ∧ 4 + 2 + 2 ≤ s.size ∧ v2 = nAt s (4 + 2) 2) ∧ 4 + 2 + 2 + 2 ≤ s.size ∧ v3 = nAt s (4 + 2 + 2) 2) ∧ 4 + 2 + 2 + 2 + 2 ≤ s.size ∧ v4 = nAt s (4 + 2 + 2 + 2) 2) ∧ 4 + 2 + 2 + 2 + 2 + 4 ≤ s.size ∧ v5 = nAt s (4 + 2 + 2 + 2 + 2) 4) ∧ 4 + 2 + 2 + 2 + 2 + 4 + 4 ≤ s.size ∧ v6 = nAt s (4 + 2 + 2 + 2 + 2 + 4) 4) ∧ 4 + 2 + 2 + 2 + 2 + 4 + 4 + 4 ≤ s.size ∧ v7 = nAt s (4 + 2 + 2 + 2 + 2 + 4 + 4) 4) ∧ 4 + 2 + 2 + 2 + 2 + 4 + 4 + 4 + 4 ≤ s.size ∧ v8 = nAt s (4 + 2 + 2 + 2 + 2 + 4 + 4 + 4) 4) ∧ 4 + 2 + 2 + 2 + 2 + 4 + 4 + 4 + 4 + 2 ≤ s.size ∧ v9 = nAt s (4 + 2 + 2 + 2 + 2 + 4 + 4 + 4 + 4) 2) ∧ 4 + 2 + 2 + 2 + 2 + 4 + 4 + 4 + 4 + 2 + 2 ≤ s.size ∧ v10 = nAt s (4 + 2 + 2 + 2 + 2 + 4 + 4 + 4 + 4 + 2) 2) ∧ 4 + 2 + 2 + 2 + 2 + 4 + 4 + 4 + 4 + 2 + 2 + 2 ≤ s.size ∧ v11 = nAt s (4 + 2 + 2 + 2 + 2 + 4 + 4 + 4 + 4 + 2 + 2) 2) ∧ 4 + 2 + 2 + 2 + 2 + 4 + 4 + 4 + 4 + 2 + 2 + 2 + 2 ≤ s.size ∧ v12 = nAt s (4 + 2 + 2 + 2 + 2 + 4 + 4 + 4 + 4 + 2 + 2 + 2) 2) ∧ 4 + 2 + 2 + 2 + 2 + 4 + 4 + 4 + 4 + 2 + 2 + 2 + 2 + 2 ≤ s.size ∧ v13 = nAt s (4 + 2 + 2 + 2 + 2 + 4 + 4 + 4 + 4 + 2 + 2 + 2 + 2) 2) ∧ 4 + 2 + 2 + 2 + 2 + 4 + 4 + 4 + 4 + 2 + 2 + 2 + 2 + 2 + 4 ≤ s.size ∧ v14 = nAt s (4 + 2 + 2 + 2 + 2 + 4 + 4 + 4 + 4 + 2 + 2 + 2 + 2 + 2) 4) ∧ 4 + 2 + 2 + 2 + 2 + 4 + 4 + 4 + 4 + 2 + 2 + 2 + 2 + 2 + 4 + 4 ≤ s.size ∧ v15 = nAt s (4 + 2 + 2 + 2 + 2 + 4 + 4 + 4 + 4 + 2 + 2 + 2 + 2 + 2 + 4) 4)) : 4 + 2 + 2 + 2 + 2 + 4 + 4 + 4 + 4 + 2 + 2 + 2 + 2 + 2 + 4 + 4 + v9 ≤ s.size := by
  unfold fitC at f
  obtain ⟨⟨⟨⟨⟨⟨⟨⟨⟨⟨⟨⟨⟨⟨⟨⟨k0, e0⟩, k1, e1⟩, k2, e2⟩, k3, e3⟩, k4, e4⟩, k5, e5⟩, k6, e6⟩, k7, e7⟩, k8, e8⟩, k9, e9⟩, k10, e10⟩, k11, e11⟩, k12, e12⟩, k13, e13⟩, k14, e14⟩, k15, e15⟩ := q
  simp only [Nat.reduceAdd] at *
  omega
theorem take_fitC1 {s : ByteArray} {v1 v2 v3 v4 v5 v6 v7 v8 v9 v10 v11 v12 v13 v14 v15 : Nat} {v16 : ByteArray} (f : fitC s) (q : (((((((((((((((((4 ≤ s.size ∧ nAt s 0 4 = 33639248) ∧ 4 + 2 ≤ s.size ∧ v1 = nAt s (4) 2) ∧ 4 + 2 + 2 ≤ s.size ∧ v2 = nAt s (4 + 2) 2) ∧ 4 + 2 + 2 + 2 ≤ s.size ∧ v3 = nAt s (4 + 2 + 2) 2) ∧ 4 + 2 + 2 + 2 + 2 ≤ s.size ∧ v4 = nAt s (4 + 2 + 2 + 2) 2) ∧ 4 + 2 + 2 + 2 + 2 + 4 ≤ s.size ∧ v5 = nAt s (4 + 2 + 2 + 2 + 2) 4) ∧ 4 + 2 + 2 + 2 + 2 + 4 + 4 ≤ s.size ∧ v6 = nAt s (4 + 2 + 2 + 2 + 2 + 4) 4) ∧ 4 + 2 + 2 + 2 + 2 + 4 + 4 + 4 ≤ s.size ∧ v7 = nAt s (4 + 2 + 2 + 2 + 2 + 4 + 4) 4) ∧ 4 + 2 + 2 + 2 + 2 + 4 + 4 + 4 + 4 ≤ s.size ∧ v8 = nAt s (4 + 2 + 2 + 2 + 2 + 4 + 4 + 4) 4) ∧ 4 + 2 + 2 + 2 + 2 + 4 + 4 + 4 + 4 + 2 ≤ s.size ∧ v9 = nAt s (4 + 2 + 2 + 2 + 2 + 4 + 4 + 4 + 4) 2) ∧ 4 + 2 + 2 + 2 + 2 + 4 + 4 + 4 + 4 + 2 + 2 ≤ s.size ∧ v10 = nAt s (4 + 2 + 2 + 2 + 2 + 4 + 4 + 4 + 4 + 2) 2) ∧ 4 + 2 + 2 + 2 + 2 + 4 + 4 + 4 + 4 + 2 + 2 + 2 ≤ s.size ∧ v11 = nAt s (4 + 2 + 2 + 2 + 2 + 4 + 4 + 4 + 4 + 2 + 2) 2) ∧ 4 + 2 + 2 + 2 + 2 + 4 + 4 + 4 + 4 + 2 + 2 + 2 + 2 ≤ s.size ∧ v12 = nAt s (4 + 2 + 2 + 2 + 2 + 4 + 4 + 4 + 4 + 2 + 2 + 2) 2) ∧ 4 + 2 + 2 + 2 + 2 + 4 + 4 + 4 + 4 + 2 + 2 + 2 + 2 + 2 ≤ s.size ∧ v13 = nAt s (4 + 2 + 2 + 2 + 2 + 4 + 4 + 4 + 4 + 2 + 2 + 2 + 2) 2) ∧ 4 + 2 + 2 + 2 + 2 + 4 + 4 + 4 + 4 + 2 + 2 + 2 + 2 + 2 + 4 ≤ s.size ∧ v14 = nAt s (4 + 2 + 2 + 2 + 2 + 4 + 4 + 4 + 4 + 2 + 2 + 2 + 2 + 2) 4) ∧ 4 + 2 + 2 + 2 + 2 + 4 + 4 + 4 + 4 + 2 + 2 + 2 + 2 + 2 + 4 + 4 ≤ s.size ∧ v15 = nAt s (4 + 2 + 2 + 2 + 2 + 4 + 4 + 4 + 4 + 2 + 2 + 2 + 2 + 2 + 4) 4) ∧ 4 + 2 + 2 + 2 + 2 + 4 + 4 + 4 + 4 + 2 + 2 + 2 + 2 + 2 + 4 + 4 + v9 ≤ s.size ∧ v16 = tAt s (4 + 2 + 2 + 2 + 2 + 4 + 4 + 4 + 4 + 2 + 2 + 2 + 2 + 2 + 4 + 4) v9)) : 4 + 2 + 2 + 2 + 2 + 4 + 4 + 4 + 4 + 2 + 2 + 2 + 2 + 2 + 4 + 4 + v9 + v10 ≤ s.size := by
  unfold fitC at f
  obtain ⟨⟨⟨⟨⟨⟨⟨⟨⟨⟨⟨⟨⟨⟨⟨⟨⟨k0, e0⟩, k1, e1⟩, k2, e2⟩, k3, e3⟩, k4, e4⟩, k5, e5⟩, k6, e6⟩, k7, e7⟩, k8, e8⟩, k9, e9⟩, k10, e10⟩, k11, e11⟩, k12, e12⟩, k13, e13⟩, k14, e14⟩, k15, e15⟩, k16, e16⟩ := q
  simp only [Nat.reduceAdd] at *
  omega
theorem take_fitC2 {s : ByteArray} {v1 v2 v3 v4 v5 v6 v7 v8 v9 v10 v11 v12 v13 v14 v15 : Nat} {v16 v17 : ByteArray} (f : fitC s) (q : ((((((((((((((((((4 ≤ s.size ∧ nAt s 0 4 = 33639248) ∧ 4 + 2 ≤ s.size ∧ v1 = nAt s (4) 2) ∧ 4 + 2 + 2 ≤ s.size ∧ v2 = nAt s (4 + 2) 2) ∧ 4 + 2 + 2 + 2 ≤ s.size ∧ v3 = nAt s (4 + 2 + 2) 2) ∧ 4 + 2 + 2 + 2 + 2 ≤ s.size ∧ v4 = nAt s (4 + 2 + 2 + 2) 2) ∧ 4 + 2 + 2 + 2 + 2 + 4 ≤ s.size ∧ v5 = nAt s (4 + 2 + 2 + 2 + 2) 4) ∧ 4 + 2 + 2 + 2 + 2 + 4 + 4 ≤ s.size ∧ v6 = nAt s (4 + 2 + 2 + 2 + 2 + 4) 4) ∧ 4 + 2 + 2 + 2 + 2 + 4 + 4 + 4 ≤ s.size ∧ v7 = nAt s (4 + 2 + 2 + 2 + 2 + 4 + 4) 4) ∧ 4 + 2 + 2 + 2 + 2 + 4 + 4 + 4 + 4 ≤ s.size ∧ v8 = nAt s (4 + 2 + 2 + 2 + 2 + 4 + 4 + 4) 4) ∧ 4 + 2 + 2 + 2 + 2 + 4 + 4 + 4 + 4 + 2 ≤ s.size ∧ v9 = nAt s (4 + 2 + 2 + 2 + 2 + 4 + 4 + 4 + 4) 2) ∧ 4 + 2 + 2 + 2 + 2 + 4 + 4 + 4 + 4 + 2 + 2 ≤ s.size ∧ v10 = nAt s (4 + 2 + 2 + 2 + 2 + 4 + 4 + 4 + 4 + 2) 2) ∧ 4 + 2 + 2 + 2 + 2 + 4 + 4 + 4 + 4 + 2 + 2 + 2 ≤ s.size ∧ v11 = nAt s (4 + 2 + 2 + 2 + 2 + 4 + 4 + 4 + 4 + 2 + 2) 2) ∧ 4 + 2 + 2 + 2 + 2 + 4 + 4 + 4 + 4 + 2 + 2 + 2 + 2 ≤ s.size ∧ v12 = nAt s (4 + 2 + 2 + 2 + 2 + 4 + 4 + 4 + 4 + 2 + 2 + 2) 2) ∧ 4 + 2 + 2 + 2 + 2 + 4 + 4 + 4 + 4 + 2 + 2 + 2 + 2 + 2 ≤ s.size ∧ v13 = nAt s (4 + 2 + 2 + 2 + 2 + 4 + 4 + 4 + 4 + 2 + 2 + 2 + 2) 2) ∧ 4 + 2 + 2 + 2 + 2 + 4 + 4 + 4 + 4 + 2 + 2 + 2 + 2 + 2 + 4 ≤ s.size ∧ v14 = nAt s (4 + 2 + 2 + 2 + 2 + 4 + 4 + 4 + 4 + 2 + 2 + 2 + 2 + 2) 4) ∧ 4 + 2 + 2 + 2 + 2 + 4 + 4 + 4 + 4 + 2 + 2 + 2 + 2 + 2 + 4 + 4 ≤ s.size ∧ v15 = nAt s (4 + 2 + 2 + 2 + 2 + 4 + 4 + 4 + 4 + 2 + 2 + 2 + 2 + 2 + 4) 4) ∧ 4 + 2 + 2 + 2 + 2 + 4 + 4 + 4 + 4 + 2 + 2 + 2 + 2 + 2 + 4 + 4 + v9 ≤ s.size ∧ v16 = tAt s (4 + 2 + 2 + 2 + 2 + 4 + 4 + 4 + 4 + 2 + 2 + 2 + 2 + 2 + 4 + 4) v9) ∧ 4 + 2 + 2 + 2 + 2 + 4 + 4 + 4 + 4 + 2 + 2 + 2 + 2 + 2 + 4 + 4 + v9 + v10 ≤ s.size ∧ v17 = tAt s (4 + 2 + 2 + 2 + 2 + 4 + 4 + 4 + 4 + 2 + 2 + 2 + 2 + 2 + 4 + 4 + v9) v10)) : 4 + 2 + 2 + 2 + 2 + 4 + 4 + 4 + 4 + 2 + 2 + 2 + 2 + 2 + 4 + 4 + v9 + v10 + v11 ≤ s.size := by
  unfold fitC at f
  obtain ⟨⟨⟨⟨⟨⟨⟨⟨⟨⟨⟨⟨⟨⟨⟨⟨⟨⟨k0, e0⟩, k1, e1⟩, k2, e2⟩, k3, e3⟩, k4, e4⟩, k5, e5⟩, k6, e6⟩, k7, e7⟩, k8, e8⟩, k9, e9⟩, k10, e10⟩, k11, e11⟩, k12, e12⟩, k13, e13⟩, k14, e14⟩, k15, e15⟩, k16, e16⟩, k17, e17⟩ := q
  simp only [Nat.reduceAdd] at *
  omega
theorem psC_yes {s : ByteArray} {v1 v2 v3 v4 v5 v6 v7 v8 v9 v10 v11 v12 v13 v14 v15 : Nat} {v16 v17 v18 : ByteArray} (hb : begB s 33639248 = true) (q : (((((((((((((((((((4 ≤ s.size ∧ nAt s 0 4 = 33639248) ∧ 4 + 2 ≤ s.size ∧ v1 = nAt s (4) 2) ∧ 4 + 2 + 2 ≤ s.size ∧ v2 = nAt s (4 + 2) 2) ∧ 4 + 2 + 2 + 2 ≤ s.size ∧ v3 = nAt s (4 + 2 + 2) 2) ∧ 4 + 2 + 2 + 2 + 2 ≤ s.size ∧ v4 = nAt s (4 + 2 + 2 + 2) 2) ∧ 4 + 2 + 2 + 2 + 2 + 4 ≤ s.size ∧ v5 = nAt s (4 + 2 + 2 + 2 + 2) 4) ∧ 4 + 2 + 2 + 2 + 2 + 4 + 4 ≤ s.size ∧ v6 = nAt s (4 + 2 + 2 + 2 + 2 + 4) 4) ∧ 4 + 2 + 2 + 2 + 2 + 4 + 4 + 4 ≤ s.size ∧ v7 = nAt s (4 + 2 + 2 + 2 + 2 + 4 + 4) 4) ∧ 4 + 2 + 2 + 2 + 2 + 4 + 4 + 4 + 4 ≤ s.size ∧ v8 = nAt s (4 + 2 + 2 + 2 + 2 + 4 + 4 + 4) 4) ∧ 4 + 2 + 2 + 2 + 2 + 4 + 4 + 4 + 4 + 2 ≤ s.size ∧ v9 = nAt s (4 + 2 + 2 + 2 + 2 + 4 + 4 + 4 + 4) 2) ∧ 4 + 2 + 2 + 2 + 2 + 4 + 4 + 4 + 4 + 2 + 2 ≤ s.size ∧ v10 = nAt s (4 + 2 + 2 + 2 + 2 + 4 + 4 + 4 + 4 + 2) 2) ∧ 4 + 2 + 2 + 2 + 2 + 4 + 4 + 4 + 4 + 2 + 2 + 2 ≤ s.size ∧ v11 = nAt s (4 + 2 + 2 + 2 + 2 + 4 + 4 + 4 + 4 + 2 + 2) 2) ∧ 4 + 2 + 2 + 2 + 2 + 4 + 4 + 4 + 4 + 2 + 2 + 2 + 2 ≤ s.size ∧ v12 = nAt s (4 + 2 + 2 + 2 + 2 + 4 + 4 + 4 + 4 + 2 + 2 + 2) 2) ∧ 4 + 2 + 2 + 2 + 2 + 4 + 4 + 4 + 4 + 2 + 2 + 2 + 2 + 2 ≤ s.size ∧ v13 = nAt s (4 + 2 + 2 + 2 + 2 + 4 + 4 + 4 + 4 + 2 + 2 + 2 + 2) 2) ∧ 4 + 2 + 2 + 2 + 2 + 4 + 4 + 4 + 4 + 2 + 2 + 2 + 2 + 2 + 4 ≤ s.size ∧ v14 = nAt s (4 + 2 + 2 + 2 + 2 + 4 + 4 + 4 + 4 + 2 + 2 + 2 + 2 + 2) 4) ∧ 4 + 2 + 2 + 2 + 2 + 4 + 4 + 4 + 4 + 2 + 2 + 2 + 2 + 2 + 4 + 4 ≤ s.size ∧ v15 = nAt s (4 + 2 + 2 + 2 + 2 + 4 + 4 + 4 + 4 + 2 + 2 + 2 + 2 + 2 + 4) 4) ∧ 4 + 2 + 2 + 2 + 2 + 4 + 4 + 4 + 4 + 2 + 2 + 2 + 2 + 2 + 4 + 4 + v9 ≤ s.size ∧ v16 = tAt s (4 + 2 + 2 + 2 + 2 + 4 + 4 + 4 + 4 + 2 + 2 + 2 + 2 + 2 + 4 + 4) v9) ∧ 4 + 2 + 2 + 2 + 2 + 4 + 4 + 4 + 4 + 2 + 2 + 2 + 2 + 2 + 4 + 4 + v9 + v10 ≤ s.size ∧ v17 = tAt s (4 + 2 + 2 + 2 + 2 + 4 + 4 + 4 + 4 + 2 + 2 + 2 + 2 + 2 + 4 + 4 + v9) v10) ∧ 4 + 2 + 2 + 2 + 2 + 4 + 4 + 4 + 4 + 2 + 2 + 2 + 2 + 2 + 4 + 4 + v9 + v10 + v11 ≤ s.size ∧ v18 = tAt s (4 + 2 + 2 + 2 + 2 + 4 + 4 + 4 + 4 + 2 + 2 + 2 + 2 + 2 + 4 + 4 + v9 + v10) v11)) : psC s = .tuple #[.agg #[.int .u16 (v1 : Nat), .int .u16 (v2 : Nat), .int .u16 (v3 : Nat), .int .u16 (v4 : Nat), .int .u32 (v5 : Nat), .int .u32 (v6 : Nat), .int .u32 (v7 : Nat), .int .u32 (v8 : Nat), .int .u16 (v12 : Nat), .int .u16 (v13 : Nat), .int .u32 (v14 : Nat), .int .u32 (v15 : Nat), .string v16, .string v17, .string v18], .int .i64 ((4 + 2 + 2 + 2 + 2 + 4 + 4 + 4 + 4 + 2 + 2 + 2 + 2 + 2 + 4 + 4 + v9 + v10 + v11 : Nat)), .int .i64 0] := by
  obtain ⟨⟨⟨⟨⟨⟨⟨⟨⟨⟨⟨⟨⟨⟨⟨⟨⟨⟨⟨k0, e0⟩, k1, e1⟩, k2, e2⟩, k3, e3⟩, k4, e4⟩, k5, e5⟩, k6, e6⟩, k7, e7⟩, k8, e8⟩, k9, e9⟩, k10, e10⟩, k11, e11⟩, k12, e12⟩, k13, e13⟩, k14, e14⟩, k15, e15⟩, k16, e16⟩, k17, e17⟩, k18, e18⟩ := q
  unfold psC
  rw [if_pos hb, if_pos]
  · unfold hdC endC
    subst e18 e17 e16 e15 e14 e13 e12 e11 e10 e9 e8 e7 e6 e5 e4 e3 e2 e1
    rfl
  · unfold fitC
    simp only [Nat.reduceAdd] at *
    omega
set_option maxHeartbeats 8000000 in
theorem parseC_any (s : ByteArray) (hs : s.size ≤ 1000000) (w : World) :
    Calls Try.prog 16 #[.string s] w fun e w' => e = .returned (psC s) ∧ Below w.heap.size w w' := by
  have hsz : s.size ≤ maxLen := by unfold maxLen; omega
  have HL := Lib.hid hsz
  have HBG := Lib.hid (fun w => begin_any s ⟨#[80, 75, 1, 2]⟩ 33639248 (by omega) rfl hsz w)
  have hr0 := heap_alloc_new w (.cells #[.int .u16 0, .int .u16 0, .int .u16 0, .int .u16 0, .int .u32 0, .int .u32 0, .int .u32 0, .int .u32 0, .int .u16 0, .int .u16 0, .int .u32 0, .int .u32 0, .string ⟨#[]⟩, .string ⟨#[]⟩, .string ⟨#[]⟩] 40)
  have HW0 : Hid (Below w.heap.size w (w.alloc (.cells #[.int .u16 0, .int .u16 0, .int .u16 0, .int .u16 0, .int .u32 0, .int .u32 0, .int .u32 0, .int .u32 0, .int .u16 0, .int .u16 0, .int .u32 0, .int .u32 0, .string ⟨#[]⟩, .string ⟨#[]⟩, .string ⟨#[]⟩] 40))) := (Below.refl _ _).alloc (Nat.le_refl _) _
  have HSZ : Hid ((w.alloc (.cells #[.int .u16 0, .int .u16 0, .int .u16 0, .int .u16 0, .int .u32 0, .int .u32 0, .int .u32 0, .int .u32 0, .int .u16 0, .int .u16 0, .int .u32 0, .int .u32 0, .string ⟨#[]⟩, .string ⟨#[]⟩, .string ⟨#[]⟩] 40)).heap.size = w.heap.size + 1) := alloc_size _ _
  have HR0 := Lib.hid hr0
  clear hsz hr0 hs
  go_enter Try.func16, Try.ntmps16
  go_wp2_with fail
  generalize w.alloc (.cells #[.int .u16 0, .int .u16 0, .int .u16 0, .int .u16 0, .int .u32 0, .int .u32 0, .int .u32 0, .int .u32 0, .int .u16 0, .int .u16 0, .int .u32 0, .int .u32 0, .string ⟨#[]⟩, .string ⟨#[]⟩, .string ⟨#[]⟩] 40) = w0 at *
  refine (HBG.out _).mono ?_; rintro r y0 ⟨rfl, C0⟩
  have hB0 := below_then' HW0.out HSZ.out C0.bel
  have hR0 : y0.heap[w.heap.size]? = some (.cells #[.int .u16 0, .int .u16 0, .int .u16 0, .int .u16 0, .int .u32 0, .int .u32 0, .int .u32 0, .int .u32 0, .int .u16 0, .int .u16 0, .int .u32 0, .int .u32 0, .string ⟨#[]⟩, .string ⟨#[]⟩, .string ⟨#[]⟩] 40 (0, 0)) := (C0.bel.block _ (by rw [HSZ.out]; omega)).trans HR0.out
  have HC0 := Lib.hid C0
  have HB := Lib.hid hB0
  have HR := Lib.hid hR0
  clear C0 hB0 hR0 HBG HR0
  generalize hbb : begB s 33639248 = b at *
  have HBB := Lib.hid hbb
  clear hbb
  cases b with
  | false =>
    have HA : Hid (psC s = .tuple #[.agg #[.int .u16 0, .int .u16 0, .int .u16 0, .int .u16 0, .int .u32 0, .int .u32 0, .int .u32 0, .int .u32 0, .int .u16 0, .int .u16 0, .int .u32 0, .int .u32 0, .string ⟨#[]⟩, .string ⟨#[]⟩, .string ⟨#[]⟩], .int .i64 0, .int .i64 4]) := if_neg (by rw [HBB.out]; decide)
    go_wp2_with (refine wpList_store_row rfl 40 (.tmp 2) (.tmp 18) rfl w.heap.size #[.int .u16 0, .int .u16 0, .int .u16 0, .int .u16 0, .int .u32 0, .int .u32 0, .int .u32 0, .int .u32 0, .int .u16 0, .int .u16 0, .int .u32 0, .int .u32 0, .string ⟨#[]⟩, .string ⟨#[]⟩, .string ⟨#[]⟩] rfl rfl 40 #[.int .u16 0, .int .u16 0, .int .u16 0, .int .u16 0, .int .u32 0, .int .u32 0, .int .u32 0, .int .u32 0, .int .u16 0, .int .u16 0, .int .u32 0, .int .u32 0, .string ⟨#[]⟩, .string ⟨#[]⟩, .string ⟨#[]⟩] HR.out info_C rfl (by simp [Value.oneCell']) ?_)
    rw [HA.out]
    exact bodyPost_ret (results_ctt_row rfl _ _ w.heap.size 40 #[.int .u16 0, .int .u16 0, .int .u16 0, .int .u16 0, .int .u32 0, .int .u32 0, .int .u32 0, .int .u32 0, .int .u16 0, .int .u16 0, .int .u32 0, .int .u32 0, .string ⟨#[]⟩, .string ⟨#[]⟩, .string ⟨#[]⟩] (0, 0) _ rfl (heap_setRow_same _ _ _ _ _ HR.out) Try.underlying40 rfl info_C) rfl ⟨rfl, below_setRow HB.out (Nat.le_refl _) _⟩
  | true =>
    have HNO := True.intro
    have W0 : Wk w0 s (fitC s) 4 (4 ≤ s.size ∧ nAt s 0 4 = 33639248) y0 := wk_fresh 33639248 (fun f => by unfold fitC at f; omega) HBB.out HC0.out
    have hlt := W0.lt
    have HH : Hid ((y0.alloc (.cells #[.int .u16 0, .int .u16 0, .int .u16 0, .int .u16 0, .int .u32 0, .int .u32 0, .int .u32 0, .int .u32 0, .int .u16 0, .int .u16 0, .int .u32 0, .int .u32 0, .string ⟨#[]⟩, .string ⟨#[]⟩, .string ⟨#[]⟩] 40)).heap[y0.heap.size]? = some (.cells #[.int .u16 0, .int .u16 0, .int .u16 0, .int .u16 0, .int .u32 0, .int .u32 0, .int .u32 0, .int .u32 0, .int .u16 0, .int .u16 0, .int .u32 0, .int .u32 0, .string ⟨#[]⟩, .string ⟨#[]⟩, .string ⟨#[]⟩] 40 (0, 0))) := heap_alloc_new _ _
    have HWK := Lib.hid (W0.below (w' := y0.alloc (.cells #[.int .u16 0, .int .u16 0, .int .u16 0, .int .u16 0, .int .u32 0, .int .u32 0, .int .u32 0, .int .u32 0, .int .u16 0, .int .u16 0, .int .u32 0, .int .u32 0, .string ⟨#[]⟩, .string ⟨#[]⟩, .string ⟨#[]⟩] 40)) ((Below.refl _ _).alloc (by omega) _))
    replace HR : Hid ((y0.alloc (.cells #[.int .u16 0, .int .u16 0, .int .u16 0, .int .u16 0, .int .u32 0, .int .u32 0, .int .u32 0, .int .u32 0, .int .u16 0, .int .u16 0, .int .u32 0, .int .u32 0, .string ⟨#[]⟩, .string ⟨#[]⟩, .string ⟨#[]⟩] 40)).heap[w.heap.size]? = some (.cells #[.int .u16 0, .int .u16 0, .int .u16 0, .int .u16 0, .int .u32 0, .int .u32 0, .int .u32 0, .int .u32 0, .int .u16 0, .int .u16 0, .int .u32 0, .int .u32 0, .string ⟨#[]⟩, .string ⟨#[]⟩, .string ⟨#[]⟩] 40 (0, 0))) := (Below.heap_alloc y0 _ _ (lt_of_some HR.out)).trans HR.out
    replace HB : Hid (Below w.heap.size w (y0.alloc (.cells #[.int .u16 0, .int .u16 0, .int .u16 0, .int .u16 0, .int .u32 0, .int .u32 0, .int .u32 0, .int .u32 0, .int .u16 0, .int .u16 0, .int .u32 0, .int .u32 0, .string ⟨#[]⟩, .string ⟨#[]⟩, .string ⟨#[]⟩] 40))) := HB.out.alloc HB.out.size _
    have hgl : w0.heap.size < y0.heap.size := hlt
    go_wp2_with fail
    generalize y0.alloc (.cells #[.int .u16 0, .int .u16 0, .int .u16 0, .int .u16 0, .int .u32 0, .int .u32 0, .int .u32 0, .int .u32 0, .int .u16 0, .int .u16 0, .int .u32 0, .int .u32 0, .string ⟨#[]⟩, .string ⟨#[]⟩, .string ⟨#[]⟩] 40) = x0 at *
    generalize y0.heap.size = gh at *
    have N1 : Hid (w.heap.size ≠ w0.heap.size) := by show _ ≠ _; rw [HSZ.out]; omega
    have N2 : Hid (gh ≠ w0.heap.size) := by show _ ≠ _; omega
    have N3 : Hid (w.heap.size ≠ gh) := by show _ ≠ _; have := HSZ.out; omega
    have N4 : Hid (w0.heap.size + 1 ≤ gh) := hgl
    have N5 : Hid (w.heap.size ≤ w0.heap.size) := by show _ ≤ _; rw [HSZ.out]; omega
    have N6 : Hid (w.heap.size ≤ gh) := by show _ ≤ _; have := HSZ.out; omega
    clear hgl HSZ
    clear W0 hlt HC0 HW0
    refine (two_wk HL.out HWK.out (fun f q => by unfold fitC at f; omega)).mono ?_; rintro r y1 ⟨v1, l1, rfl, W, G⟩
    replace HWK := Lib.hid W
    replace HR := Lib.hid (stays G N1.out HR.out)
    replace HH := Lib.hid (stays G N2.out HH.out)
    replace HB := Lib.hid (HB.out.grown G HB.out.size (fun k hk => by injection hk with hk; subst hk; exact N5.out))
    clear W G
    go_wp2_with fail
    refine (two_wk HL.out HWK.out (fun f q => by unfold fitC at f; omega)).mono ?_; rintro r y2 ⟨v2, l2, rfl, W, G⟩
    replace HWK := Lib.hid W
    replace HR := Lib.hid (stays G N1.out HR.out)
    replace HH := Lib.hid (stays G N2.out HH.out)
    replace HB := Lib.hid (HB.out.grown G HB.out.size (fun k hk => by injection hk with hk; subst hk; exact N5.out))
    clear W G
    go_wp2_with fail
    refine (two_wk HL.out HWK.out (fun f q => by unfold fitC at f; omega)).mono ?_; rintro r y3 ⟨v3, l3, rfl, W, G⟩
    replace HWK := Lib.hid W
    replace HR := Lib.hid (stays G N1.out HR.out)
    replace HH := Lib.hid (stays G N2.out HH.out)
    replace HB := Lib.hid (HB.out.grown G HB.out.size (fun k hk => by injection hk with hk; subst hk; exact N5.out))
    clear W G
    go_wp2_with fail
    refine (two_wk HL.out HWK.out (fun f q => by unfold fitC at f; omega)).mono ?_; rintro r y4 ⟨v4, l4, rfl, W, G⟩
    replace HWK := Lib.hid W
    replace HR := Lib.hid (stays G N1.out HR.out)
    replace HH := Lib.hid (stays G N2.out HH.out)
    replace HB := Lib.hid (HB.out.grown G HB.out.size (fun k hk => by injection hk with hk; subst hk; exact N5.out))
    clear W G
    have c0 : y4.cell? ⟨gh, 0, none⟩ = some (.int .u16 0) := by rw [Lib.cell_of_heap HH.out]; rfl
    have q0 := Lib.frozen_of_heap HH.out 0
    have c1 : y4.cell? ⟨gh, 1, none⟩ = some (.int .u16 0) := by rw [Lib.cell_of_heap HH.out]; rfl
    have q1 := Lib.frozen_of_heap HH.out 1
    have c2 : y4.cell? ⟨gh, 2, none⟩ = some (.int .u16 0) := by rw [Lib.cell_of_heap HH.out]; rfl
    have q2 := Lib.frozen_of_heap HH.out 2
    have c3 : y4.cell? ⟨gh, 3, none⟩ = some (.int .u16 0) := by rw [Lib.cell_of_heap HH.out]; rfl
    have q3 := Lib.frozen_of_heap HH.out 3
    have h0 := HH.out
    have h1 : ((y4).setCell ⟨gh, 0, none⟩ (.int .u16 (v1 : Nat))).heap[gh]? = some (.cells #[.int .u16 (v1 : Nat), .int .u16 0, .int .u16 0, .int .u16 0, .int .u32 0, .int .u32 0, .int .u32 0, .int .u32 0, .int .u16 0, .int .u16 0, .int .u32 0, .int .u32 0, .string ⟨#[]⟩, .string ⟨#[]⟩, .string ⟨#[]⟩] 40 (0, 0)) := Go.heap_setCell_same _ gh 0 _ _ _ h0
    have h2 : (((y4).setCell ⟨gh, 0, none⟩ (.int .u16 (v1 : Nat))).setCell ⟨gh, 1, none⟩ (.int .u16 (v2 : Nat))).heap[gh]? = some (.cells #[.int .u16 (v1 : Nat), .int .u16 (v2 : Nat), .int .u16 0, .int .u16 0, .int .u32 0, .int .u32 0, .int .u32 0, .int .u32 0, .int .u16 0, .int .u16 0, .int .u32 0, .int .u32 0, .string ⟨#[]⟩, .string ⟨#[]⟩, .string ⟨#[]⟩] 40 (0, 0)) := Go.heap_setCell_same _ gh 1 _ _ _ h1
    have h3 : ((((y4).setCell ⟨gh, 0, none⟩ (.int .u16 (v1 : Nat))).setCell ⟨gh, 1, none⟩ (.int .u16 (v2 : Nat))).setCell ⟨gh, 2, none⟩ (.int .u16 (v3 : Nat))).heap[gh]? = some (.cells #[.int .u16 (v1 : Nat), .int .u16 (v2 : Nat), .int .u16 (v3 : Nat), .int .u16 0, .int .u32 0, .int .u32 0, .int .u32 0, .int .u32 0, .int .u16 0, .int .u16 0, .int .u32 0, .int .u32 0, .string ⟨#[]⟩, .string ⟨#[]⟩, .string ⟨#[]⟩] 40 (0, 0)) := Go.heap_setCell_same _ gh 2 _ _ _ h2
    have h4 : (((((y4).setCell ⟨gh, 0, none⟩ (.int .u16 (v1 : Nat))).setCell ⟨gh, 1, none⟩ (.int .u16 (v2 : Nat))).setCell ⟨gh, 2, none⟩ (.int .u16 (v3 : Nat))).setCell ⟨gh, 3, none⟩ (.int .u16 (v4 : Nat))).heap[gh]? = some (.cells #[.int .u16 (v1 : Nat), .int .u16 (v2 : Nat), .int .u16 (v3 : Nat), .int .u16 (v4 : Nat), .int .u32 0, .int .u32 0, .int .u32 0, .int .u32 0, .int .u16 0, .int .u16 0, .int .u32 0, .int .u32 0, .string ⟨#[]⟩, .string ⟨#[]⟩, .string ⟨#[]⟩] 40 (0, 0)) := Go.heap_setCell_same _ gh 3 _ _ _ h3
    replace HH := Lib.hid h4
    replace HWK := Lib.hid (HWK.out.below (w' := ((((y4).setCell ⟨gh, 0, none⟩ (.int .u16 (v1 : Nat))).setCell ⟨gh, 1, none⟩ (.int .u16 (v2 : Nat))).setCell ⟨gh, 2, none⟩ (.int .u16 (v3 : Nat))).setCell ⟨gh, 3, none⟩ (.int .u16 (v4 : Nat))) ((((((Below.refl _ _)).setCell (N4.out) _).setCell (N4.out) _).setCell (N4.out) _).setCell (N4.out) _))
    replace HR : Hid ((((((y4).setCell ⟨gh, 0, none⟩ (.int .u16 (v1 : Nat))).setCell ⟨gh, 1, none⟩ (.int .u16 (v2 : Nat))).setCell ⟨gh, 2, none⟩ (.int .u16 (v3 : Nat))).setCell ⟨gh, 3, none⟩ (.int .u16 (v4 : Nat))).heap[w.heap.size]? = some (.cells #[.int .u16 0, .int .u16 0, .int .u16 0, .int .u16 0, .int .u32 0, .int .u32 0, .int .u32 0, .int .u32 0, .int .u16 0, .int .u16 0, .int .u32 0, .int .u32 0, .string ⟨#[]⟩, .string ⟨#[]⟩, .string ⟨#[]⟩] 40 (0, 0))) := by
      show _ = _
      rw [Below.heap_setCell _ _ _ _ N3.out]
      rw [Below.heap_setCell _ _ _ _ N3.out]
      rw [Below.heap_setCell _ _ _ _ N3.out]
      rw [Below.heap_setCell _ _ _ _ N3.out]
      exact HR.out
    replace HB : Hid (Below w.heap.size w (((((y4).setCell ⟨gh, 0, none⟩ (.int .u16 (v1 : Nat))).setCell ⟨gh, 1, none⟩ (.int .u16 (v2 : Nat))).setCell ⟨gh, 2, none⟩ (.int .u16 (v3 : Nat))).setCell ⟨gh, 3, none⟩ (.int .u16 (v4 : Nat)))) := ((((HB.out).setCell (N6.out) _).setCell (N6.out) _).setCell (N6.out) _).setCell (N6.out) _
    clear h0 h1 h2 h3 h4
    go_wp2_with fail
    generalize ((((y4).setCell ⟨gh, 0, none⟩ (.int .u16 (v1 : Nat))).setCell ⟨gh, 1, none⟩ (.int .u16 (v2 : Nat))).setCell ⟨gh, 2, none⟩ (.int .u16 (v3 : Nat))).setCell ⟨gh, 3, none⟩ (.int .u16 (v4 : Nat)) = x1 at *
    clear c0 q0 c1 q1 c2 q2 c3 q3
    refine (four_wk HL.out HWK.out (fun f q => by unfold fitC at f; omega)).mono ?_; rintro r y5 ⟨v5, l5, rfl, W, G⟩
    replace HWK := Lib.hid W
    replace HR := Lib.hid (stays G N1.out HR.out)
    replace HH := Lib.hid (stays G N2.out HH.out)
    replace HB := Lib.hid (HB.out.grown G HB.out.size (fun k hk => by injection hk with hk; subst hk; exact N5.out))
    clear W G
    go_wp2_with fail
    refine (four_wk HL.out HWK.out (fun f q => by unfold fitC at f; omega)).mono ?_; rintro r y6 ⟨v6, l6, rfl, W, G⟩
    replace HWK := Lib.hid W
    replace HR := Lib.hid (stays G N1.out HR.out)
    replace HH := Lib.hid (stays G N2.out HH.out)
    replace HB := Lib.hid (HB.out.grown G HB.out.size (fun k hk => by injection hk with hk; subst hk; exact N5.out))
    clear W G
    go_wp2_with fail
    refine (four_wk HL.out HWK.out (fun f q => by unfold fitC at f; omega)).mono ?_; rintro r y7 ⟨v7, l7, rfl, W, G⟩
    replace HWK := Lib.hid W
    replace HR := Lib.hid (stays G N1.out HR.out)
    replace HH := Lib.hid (stays G N2.out HH.out)
    replace HB := Lib.hid (HB.out.grown G HB.out.size (fun k hk => by injection hk with hk; subst hk; exact N5.out))
    clear W G
    go_wp2_with fail
    refine (four_wk HL.out HWK.out (fun f q => by unfold fitC at f; omega)).mono ?_; rintro r y8 ⟨v8, l8, rfl, W, G⟩
    replace HWK := Lib.hid W
    replace HR := Lib.hid (stays G N1.out HR.out)
    replace HH := Lib.hid (stays G N2.out HH.out)
    replace HB := Lib.hid (HB.out.grown G HB.out.size (fun k hk => by injection hk with hk; subst hk; exact N5.out))
    clear W G
    have c4 : y8.cell? ⟨gh, 4, none⟩ = some (.int .u32 0) := by rw [Lib.cell_of_heap HH.out]; rfl
    have q4 := Lib.frozen_of_heap HH.out 4
    have c5 : y8.cell? ⟨gh, 5, none⟩ = some (.int .u32 0) := by rw [Lib.cell_of_heap HH.out]; rfl
    have q5 := Lib.frozen_of_heap HH.out 5
    have c6 : y8.cell? ⟨gh, 6, none⟩ = some (.int .u32 0) := by rw [Lib.cell_of_heap HH.out]; rfl
    have q6 := Lib.frozen_of_heap HH.out 6
    have c7 : y8.cell? ⟨gh, 7, none⟩ = some (.int .u32 0) := by rw [Lib.cell_of_heap HH.out]; rfl
    have q7 := Lib.frozen_of_heap HH.out 7
    have h0 := HH.out
    have h1 : ((y8).setCell ⟨gh, 4, none⟩ (.int .u32 (v5 : Nat))).heap[gh]? = some (.cells #[.int .u16 (v1 : Nat), .int .u16 (v2 : Nat), .int .u16 (v3 : Nat), .int .u16 (v4 : Nat), .int .u32 (v5 : Nat), .int .u32 0, .int .u32 0, .int .u32 0, .int .u16 0, .int .u16 0, .int .u32 0, .int .u32 0, .string ⟨#[]⟩, .string ⟨#[]⟩, .string ⟨#[]⟩] 40 (0, 0)) := Go.heap_setCell_same _ gh 4 _ _ _ h0
    have h2 : (((y8).setCell ⟨gh, 4, none⟩ (.int .u32 (v5 : Nat))).setCell ⟨gh, 5, none⟩ (.int .u32 (v6 : Nat))).heap[gh]? = some (.cells #[.int .u16 (v1 : Nat), .int .u16 (v2 : Nat), .int .u16 (v3 : Nat), .int .u16 (v4 : Nat), .int .u32 (v5 : Nat), .int .u32 (v6 : Nat), .int .u32 0, .int .u32 0, .int .u16 0, .int .u16 0, .int .u32 0, .int .u32 0, .string ⟨#[]⟩, .string ⟨#[]⟩, .string ⟨#[]⟩] 40 (0, 0)) := Go.heap_setCell_same _ gh 5 _ _ _ h1
    have h3 : ((((y8).setCell ⟨gh, 4, none⟩ (.int .u32 (v5 : Nat))).setCell ⟨gh, 5, none⟩ (.int .u32 (v6 : Nat))).setCell ⟨gh, 6, none⟩ (.int .u32 (v7 : Nat))).heap[gh]? = some (.cells #[.int .u16 (v1 : Nat), .int .u16 (v2 : Nat), .int .u16 (v3 : Nat), .int .u16 (v4 : Nat), .int .u32 (v5 : Nat), .int .u32 (v6 : Nat), .int .u32 (v7 : Nat), .int .u32 0, .int .u16 0, .int .u16 0, .int .u32 0, .int .u32 0, .string ⟨#[]⟩, .string ⟨#[]⟩, .string ⟨#[]⟩] 40 (0, 0)) := Go.heap_setCell_same _ gh 6 _ _ _ h2
    have h4 : (((((y8).setCell ⟨gh, 4, none⟩ (.int .u32 (v5 : Nat))).setCell ⟨gh, 5, none⟩ (.int .u32 (v6 : Nat))).setCell ⟨gh, 6, none⟩ (.int .u32 (v7 : Nat))).setCell ⟨gh, 7, none⟩ (.int .u32 (v8 : Nat))).heap[gh]? = some (.cells #[.int .u16 (v1 : Nat), .int .u16 (v2 : Nat), .int .u16 (v3 : Nat), .int .u16 (v4 : Nat), .int .u32 (v5 : Nat), .int .u32 (v6 : Nat), .int .u32 (v7 : Nat), .int .u32 (v8 : Nat), .int .u16 0, .int .u16 0, .int .u32 0, .int .u32 0, .string ⟨#[]⟩, .string ⟨#[]⟩, .string ⟨#[]⟩] 40 (0, 0)) := Go.heap_setCell_same _ gh 7 _ _ _ h3
    replace HH := Lib.hid h4
    replace HWK := Lib.hid (HWK.out.below (w' := ((((y8).setCell ⟨gh, 4, none⟩ (.int .u32 (v5 : Nat))).setCell ⟨gh, 5, none⟩ (.int .u32 (v6 : Nat))).setCell ⟨gh, 6, none⟩ (.int .u32 (v7 : Nat))).setCell ⟨gh, 7, none⟩ (.int .u32 (v8 : Nat))) ((((((Below.refl _ _)).setCell (N4.out) _).setCell (N4.out) _).setCell (N4.out) _).setCell (N4.out) _))
    replace HR : Hid ((((((y8).setCell ⟨gh, 4, none⟩ (.int .u32 (v5 : Nat))).setCell ⟨gh, 5, none⟩ (.int .u32 (v6 : Nat))).setCell ⟨gh, 6, none⟩ (.int .u32 (v7 : Nat))).setCell ⟨gh, 7, none⟩ (.int .u32 (v8 : Nat))).heap[w.heap.size]? = some (.cells #[.int .u16 0, .int .u16 0, .int .u16 0, .int .u16 0, .int .u32 0, .int .u32 0, .int .u32 0, .int .u32 0, .int .u16 0, .int .u16 0, .int .u32 0, .int .u32 0, .string ⟨#[]⟩, .string ⟨#[]⟩, .string ⟨#[]⟩] 40 (0, 0))) := by
      show _ = _
      rw [Below.heap_setCell _ _ _ _ N3.out]
      rw [Below.heap_setCell _ _ _ _ N3.out]
      rw [Below.heap_setCell _ _ _ _ N3.out]
      rw [Below.heap_setCell _ _ _ _ N3.out]
      exact HR.out
    replace HB : Hid (Below w.heap.size w (((((y8).setCell ⟨gh, 4, none⟩ (.int .u32 (v5 : Nat))).setCell ⟨gh, 5, none⟩ (.int .u32 (v6 : Nat))).setCell ⟨gh, 6, none⟩ (.int .u32 (v7 : Nat))).setCell ⟨gh, 7, none⟩ (.int .u32 (v8 : Nat)))) := ((((HB.out).setCell (N6.out) _).setCell (N6.out) _).setCell (N6.out) _).setCell (N6.out) _
    clear h0 h1 h2 h3 h4
    go_wp2_with fail
    generalize ((((y8).setCell ⟨gh, 4, none⟩ (.int .u32 (v5 : Nat))).setCell ⟨gh, 5, none⟩ (.int .u32 (v6 : Nat))).setCell ⟨gh, 6, none⟩ (.int .u32 (v7 : Nat))).setCell ⟨gh, 7, none⟩ (.int .u32 (v8 : Nat)) = x2 at *
    clear c4 q4 c5 q5 c6 q6 c7 q7
    refine (two_wk HL.out HWK.out (fun f q => by unfold fitC at f; omega)).mono ?_; rintro r y9 ⟨v9, l9, rfl, W, G⟩
    replace HWK := Lib.hid W
    replace HR := Lib.hid (stays G N1.out HR.out)
    replace HH := Lib.hid (stays G N2.out HH.out)
    replace HB := Lib.hid (HB.out.grown G HB.out.size (fun k hk => by injection hk with hk; subst hk; exact N5.out))
    clear W G
    go_wp2_with fail
    refine (two_wk HL.out HWK.out (fun f q => by unfold fitC at f; omega)).mono ?_; rintro r y10 ⟨v10, l10, rfl, W, G⟩
    replace HWK := Lib.hid W
    replace HR := Lib.hid (stays G N1.out HR.out)
    replace HH := Lib.hid (stays G N2.out HH.out)
    replace HB := Lib.hid (HB.out.grown G HB.out.size (fun k hk => by injection hk with hk; subst hk; exact N5.out))
    clear W G
    go_wp2_with fail
    refine (two_wk HL.out HWK.out (fun f q => by unfold fitC at f; omega)).mono ?_; rintro r y11 ⟨v11, l11, rfl, W, G⟩
    replace HWK := Lib.hid W
    replace HR := Lib.hid (stays G N1.out HR.out)
    replace HH := Lib.hid (stays G N2.out HH.out)
    replace HB := Lib.hid (HB.out.grown G HB.out.size (fun k hk => by injection hk with hk; subst hk; exact N5.out))
    clear W G
    go_wp2_with fail
    refine (two_wk HL.out HWK.out (fun f q => by unfold fitC at f; omega)).mono ?_; rintro r y12 ⟨v12, l12, rfl, W, G⟩
    replace HWK := Lib.hid W
    replace HR := Lib.hid (stays G N1.out HR.out)
    replace HH := Lib.hid (stays G N2.out HH.out)
    replace HB := Lib.hid (HB.out.grown G HB.out.size (fun k hk => by injection hk with hk; subst hk; exact N5.out))
    clear W G
    go_wp2_with fail
    refine (two_wk HL.out HWK.out (fun f q => by unfold fitC at f; omega)).mono ?_; rintro r y13 ⟨v13, l13, rfl, W, G⟩
    replace HWK := Lib.hid W
    replace HR := Lib.hid (stays G N1.out HR.out)
    replace HH := Lib.hid (stays G N2.out HH.out)
    replace HB := Lib.hid (HB.out.grown G HB.out.size (fun k hk => by injection hk with hk; subst hk; exact N5.out))
    clear W G
    have c8 : y13.cell? ⟨gh, 8, none⟩ = some (.int .u16 0) := by rw [Lib.cell_of_heap HH.out]; rfl
    have q8 := Lib.frozen_of_heap HH.out 8
    have c9 : y13.cell? ⟨gh, 9, none⟩ = some (.int .u16 0) := by rw [Lib.cell_of_heap HH.out]; rfl
    have q9 := Lib.frozen_of_heap HH.out 9
    have h0 := HH.out
    have h1 : ((y13).setCell ⟨gh, 8, none⟩ (.int .u16 (v12 : Nat))).heap[gh]? = some (.cells #[.int .u16 (v1 : Nat), .int .u16 (v2 : Nat), .int .u16 (v3 : Nat), .int .u16 (v4 : Nat), .int .u32 (v5 : Nat), .int .u32 (v6 : Nat), .int .u32 (v7 : Nat), .int .u32 (v8 : Nat), .int .u16 (v12 : Nat), .int .u16 0, .int .u32 0, .int .u32 0, .string ⟨#[]⟩, .string ⟨#[]⟩, .string ⟨#[]⟩] 40 (0, 0)) := Go.heap_setCell_same _ gh 8 _ _ _ h0
    have h2 : (((y13).setCell ⟨gh, 8, none⟩ (.int .u16 (v12 : Nat))).setCell ⟨gh, 9, none⟩ (.int .u16 (v13 : Nat))).heap[gh]? = some (.cells #[.int .u16 (v1 : Nat), .int .u16 (v2 : Nat), .int .u16 (v3 : Nat), .int .u16 (v4 : Nat), .int .u32 (v5 : Nat), .int .u32 (v6 : Nat), .int .u32 (v7 : Nat), .int .u32 (v8 : Nat), .int .u16 (v12 : Nat), .int .u16 (v13 : Nat), .int .u32 0, .int .u32 0, .string ⟨#[]⟩, .string ⟨#[]⟩, .string ⟨#[]⟩] 40 (0, 0)) := Go.heap_setCell_same _ gh 9 _ _ _ h1
    replace HH := Lib.hid h2
    replace HWK := Lib.hid (HWK.out.below (w' := ((y13).setCell ⟨gh, 8, none⟩ (.int .u16 (v12 : Nat))).setCell ⟨gh, 9, none⟩ (.int .u16 (v13 : Nat))) ((((Below.refl _ _)).setCell (N4.out) _).setCell (N4.out) _))
    replace HR : Hid ((((y13).setCell ⟨gh, 8, none⟩ (.int .u16 (v12 : Nat))).setCell ⟨gh, 9, none⟩ (.int .u16 (v13 : Nat))).heap[w.heap.size]? = some (.cells #[.int .u16 0, .int .u16 0, .int .u16 0, .int .u16 0, .int .u32 0, .int .u32 0, .int .u32 0, .int .u32 0, .int .u16 0, .int .u16 0, .int .u32 0, .int .u32 0, .string ⟨#[]⟩, .string ⟨#[]⟩, .string ⟨#[]⟩] 40 (0, 0))) := by
      show _ = _
      rw [Below.heap_setCell _ _ _ _ N3.out]
      rw [Below.heap_setCell _ _ _ _ N3.out]
      exact HR.out
    replace HB : Hid (Below w.heap.size w (((y13).setCell ⟨gh, 8, none⟩ (.int .u16 (v12 : Nat))).setCell ⟨gh, 9, none⟩ (.int .u16 (v13 : Nat)))) := ((HB.out).setCell (N6.out) _).setCell (N6.out) _
    clear h0 h1 h2
    go_wp2_with fail
    generalize ((y13).setCell ⟨gh, 8, none⟩ (.int .u16 (v12 : Nat))).setCell ⟨gh, 9, none⟩ (.int .u16 (v13 : Nat)) = x4 at *
    clear c8 q8 c9 q9
    refine (four_wk HL.out HWK.out (fun f q => by unfold fitC at f; omega)).mono ?_; rintro r y14 ⟨v14, l14, rfl, W, G⟩
    replace HWK := Lib.hid W
    replace HR := Lib.hid (stays G N1.out HR.out)
    replace HH := Lib.hid (stays G N2.out HH.out)
    replace HB := Lib.hid (HB.out.grown G HB.out.size (fun k hk => by injection hk with hk; subst hk; exact N5.out))
    clear W G
    go_wp2_with fail
    refine (four_wk HL.out HWK.out (fun f q => by unfold fitC at f; omega)).mono ?_; rintro r y15 ⟨v15, l15, rfl, W, G⟩
    replace HWK := Lib.hid W
    replace HR := Lib.hid (stays G N1.out HR.out)
    replace HH := Lib.hid (stays G N2.out HH.out)
    replace HB := Lib.hid (HB.out.grown G HB.out.size (fun k hk => by injection hk with hk; subst hk; exact N5.out))
    clear W G
    have c10 : y15.cell? ⟨gh, 10, none⟩ = some (.int .u32 0) := by rw [Lib.cell_of_heap HH.out]; rfl
    have q10 := Lib.frozen_of_heap HH.out 10
    have c11 : y15.cell? ⟨gh, 11, none⟩ = some (.int .u32 0) := by rw [Lib.cell_of_heap HH.out]; rfl
    have q11 := Lib.frozen_of_heap HH.out 11
    have h0 := HH.out
    have h1 : ((y15).setCell ⟨gh, 10, none⟩ (.int .u32 (v14 : Nat))).heap[gh]? = some (.cells #[.int .u16 (v1 : Nat), .int .u16 (v2 : Nat), .int .u16 (v3 : Nat), .int .u16 (v4 : Nat), .int .u32 (v5 : Nat), .int .u32 (v6 : Nat), .int .u32 (v7 : Nat), .int .u32 (v8 : Nat), .int .u16 (v12 : Nat), .int .u16 (v13 : Nat), .int .u32 (v14 : Nat), .int .u32 0, .string ⟨#[]⟩, .string ⟨#[]⟩, .string ⟨#[]⟩] 40 (0, 0)) := Go.heap_setCell_same _ gh 10 _ _ _ h0
    have h2 : (((y15).setCell ⟨gh, 10, none⟩ (.int .u32 (v14 : Nat))).setCell ⟨gh, 11, none⟩ (.int .u32 (v15 : Nat))).heap[gh]? = some (.cells #[.int .u16 (v1 : Nat), .int .u16 (v2 : Nat), .int .u16 (v3 : Nat), .int .u16 (v4 : Nat), .int .u32 (v5 : Nat), .int .u32 (v6 : Nat), .int .u32 (v7 : Nat), .int .u32 (v8 : Nat), .int .u16 (v12 : Nat), .int .u16 (v13 : Nat), .int .u32 (v14 : Nat), .int .u32 (v15 : Nat), .string ⟨#[]⟩, .string ⟨#[]⟩, .string ⟨#[]⟩] 40 (0, 0)) := Go.heap_setCell_same _ gh 11 _ _ _ h1
    replace HH := Lib.hid h2
    replace HWK := Lib.hid (HWK.out.below (w' := ((y15).setCell ⟨gh, 10, none⟩ (.int .u32 (v14 : Nat))).setCell ⟨gh, 11, none⟩ (.int .u32 (v15 : Nat))) ((((Below.refl _ _)).setCell (N4.out) _).setCell (N4.out) _))
    replace HR : Hid ((((y15).setCell ⟨gh, 10, none⟩ (.int .u32 (v14 : Nat))).setCell ⟨gh, 11, none⟩ (.int .u32 (v15 : Nat))).heap[w.heap.size]? = some (.cells #[.int .u16 0, .int .u16 0, .int .u16 0, .int .u16 0, .int .u32 0, .int .u32 0, .int .u32 0, .int .u32 0, .int .u16 0, .int .u16 0, .int .u32 0, .int .u32 0, .string ⟨#[]⟩, .string ⟨#[]⟩, .string ⟨#[]⟩] 40 (0, 0))) := by
      show _ = _
      rw [Below.heap_setCell _ _ _ _ N3.out]
      rw [Below.heap_setCell _ _ _ _ N3.out]
      exact HR.out
    replace HB : Hid (Below w.heap.size w (((y15).setCell ⟨gh, 10, none⟩ (.int .u32 (v14 : Nat))).setCell ⟨gh, 11, none⟩ (.int .u32 (v15 : Nat)))) := ((HB.out).setCell (N6.out) _).setCell (N6.out) _
    clear h0 h1 h2
    go_wp2_with fail
    generalize ((y15).setCell ⟨gh, 10, none⟩ (.int .u32 (v14 : Nat))).setCell ⟨gh, 11, none⟩ (.int .u32 (v15 : Nat)) = x5 at *
    clear c10 q10 c11 q11
    have f16 := True.intro
    refine (take_wk v9 (by assumption) HL.out HWK.out (fun f q => take_fitC0 f q)).mono ?_; rintro r y16 ⟨v16, l16, rfl, W, G⟩
    replace HWK := Lib.hid W
    replace HR := Lib.hid (stays G N1.out HR.out)
    replace HH := Lib.hid (stays G N2.out HH.out)
    replace HB := Lib.hid (HB.out.grown G HB.out.size (fun k hk => by injection hk with hk; subst hk; exact N5.out))
    clear W G
    go_wp2_with fail
    refine (take_wk v10 (by assumption) HL.out HWK.out (fun f q => take_fitC1 f q)).mono ?_; rintro r y17 ⟨v17, l17, rfl, W, G⟩
    replace HWK := Lib.hid W
    replace HR := Lib.hid (stays G N1.out HR.out)
    replace HH := Lib.hid (stays G N2.out HH.out)
    replace HB := Lib.hid (HB.out.grown G HB.out.size (fun k hk => by injection hk with hk; subst hk; exact N5.out))
    clear W G
    go_wp2_with fail
    refine (take_wk v11 (by assumption) HL.out HWK.out (fun f q => take_fitC2 f q)).mono ?_; rintro r y18 ⟨v18, l18, rfl, W, G⟩
    replace HWK := Lib.hid W
    replace HR := Lib.hid (stays G N1.out HR.out)
    replace HH := Lib.hid (stays G N2.out HH.out)
    replace HB := Lib.hid (HB.out.grown G HB.out.size (fun k hk => by injection hk with hk; subst hk; exact N5.out))
    clear W G
    have c12 : y18.cell? ⟨gh, 12, none⟩ = some (.string ⟨#[]⟩) := by rw [Lib.cell_of_heap HH.out]; rfl
    have q12 := Lib.frozen_of_heap HH.out 12
    have c13 : y18.cell? ⟨gh, 13, none⟩ = some (.string ⟨#[]⟩) := by rw [Lib.cell_of_heap HH.out]; rfl
    have q13 := Lib.frozen_of_heap HH.out 13
    have c14 : y18.cell? ⟨gh, 14, none⟩ = some (.string ⟨#[]⟩) := by rw [Lib.cell_of_heap HH.out]; rfl
    have q14 := Lib.frozen_of_heap HH.out 14
    have h0 := HH.out
    have h1 : ((y18).setCell ⟨gh, 12, none⟩ (.string v16)).heap[gh]? = some (.cells #[.int .u16 (v1 : Nat), .int .u16 (v2 : Nat), .int .u16 (v3 : Nat), .int .u16 (v4 : Nat), .int .u32 (v5 : Nat), .int .u32 (v6 : Nat), .int .u32 (v7 : Nat), .int .u32 (v8 : Nat), .int .u16 (v12 : Nat), .int .u16 (v13 : Nat), .int .u32 (v14 : Nat), .int .u32 (v15 : Nat), .string v16, .string ⟨#[]⟩, .string ⟨#[]⟩] 40 (0, 0)) := Go.heap_setCell_same _ gh 12 _ _ _ h0
    have h2 : (((y18).setCell ⟨gh, 12, none⟩ (.string v16)).setCell ⟨gh, 13, none⟩ (.string v17)).heap[gh]? = some (.cells #[.int .u16 (v1 : Nat), .int .u16 (v2 : Nat), .int .u16 (v3 : Nat), .int .u16 (v4 : Nat), .int .u32 (v5 : Nat), .int .u32 (v6 : Nat), .int .u32 (v7 : Nat), .int .u32 (v8 : Nat), .int .u16 (v12 : Nat), .int .u16 (v13 : Nat), .int .u32 (v14 : Nat), .int .u32 (v15 : Nat), .string v16, .string v17, .string ⟨#[]⟩] 40 (0, 0)) := Go.heap_setCell_same _ gh 13 _ _ _ h1
    have h3 : ((((y18).setCell ⟨gh, 12, none⟩ (.string v16)).setCell ⟨gh, 13, none⟩ (.string v17)).setCell ⟨gh, 14, none⟩ (.string v18)).heap[gh]? = some (.cells #[.int .u16 (v1 : Nat), .int .u16 (v2 : Nat), .int .u16 (v3 : Nat), .int .u16 (v4 : Nat), .int .u32 (v5 : Nat), .int .u32 (v6 : Nat), .int .u32 (v7 : Nat), .int .u32 (v8 : Nat), .int .u16 (v12 : Nat), .int .u16 (v13 : Nat), .int .u32 (v14 : Nat), .int .u32 (v15 : Nat), .string v16, .string v17, .string v18] 40 (0, 0)) := Go.heap_setCell_same _ gh 14 _ _ _ h2
    replace HH := Lib.hid h3
    replace HWK := Lib.hid (HWK.out.below (w' := (((y18).setCell ⟨gh, 12, none⟩ (.string v16)).setCell ⟨gh, 13, none⟩ (.string v17)).setCell ⟨gh, 14, none⟩ (.string v18)) (((((Below.refl _ _)).setCell (N4.out) _).setCell (N4.out) _).setCell (N4.out) _))
    replace HR : Hid (((((y18).setCell ⟨gh, 12, none⟩ (.string v16)).setCell ⟨gh, 13, none⟩ (.string v17)).setCell ⟨gh, 14, none⟩ (.string v18)).heap[w.heap.size]? = some (.cells #[.int .u16 0, .int .u16 0, .int .u16 0, .int .u16 0, .int .u32 0, .int .u32 0, .int .u32 0, .int .u32 0, .int .u16 0, .int .u16 0, .int .u32 0, .int .u32 0, .string ⟨#[]⟩, .string ⟨#[]⟩, .string ⟨#[]⟩] 40 (0, 0))) := by
      show _ = _
      rw [Below.heap_setCell _ _ _ _ N3.out]
      rw [Below.heap_setCell _ _ _ _ N3.out]
      rw [Below.heap_setCell _ _ _ _ N3.out]
      exact HR.out
    replace HB : Hid (Below w.heap.size w ((((y18).setCell ⟨gh, 12, none⟩ (.string v16)).setCell ⟨gh, 13, none⟩ (.string v17)).setCell ⟨gh, 14, none⟩ (.string v18))) := (((HB.out).setCell (N6.out) _).setCell (N6.out) _).setCell (N6.out) _
    clear h0 h1 h2 h3
    go_wp2_with (refine wpList_load_row rfl 40 (.tmp 7) rfl gh rfl 40 _ (0, 0) _ HH.out Try.underlying40 rfl info_C ?_)
    generalize (((y18).setCell ⟨gh, 12, none⟩ (.string v16)).setCell ⟨gh, 13, none⟩ (.string v17)).setCell ⟨gh, 14, none⟩ (.string v18) = x6 at *
    clear c12 q12 c13 q13 c14 q14
    obtain ⟨a, e, hc, ha, hcase⟩ := HWK.out
    rcases hcase with ⟨rfl, rfl, hq⟩ | ⟨rfl, hn⟩
    · have HA : Hid (psC s = .tuple #[.agg #[.int .u16 (v1 : Nat), .int .u16 (v2 : Nat), .int .u16 (v3 : Nat), .int .u16 (v4 : Nat), .int .u32 (v5 : Nat), .int .u32 (v6 : Nat), .int .u32 (v7 : Nat), .int .u32 (v8 : Nat), .int .u16 (v12 : Nat), .int .u16 (v13 : Nat), .int .u32 (v14 : Nat), .int .u32 (v15 : Nat), .string v16, .string v17, .string v18], .int .i64 (4 + 2 + 2 + 2 + 2 + 4 + 4 + 4 + 4 + 2 + 2 + 2 + 2 + 2 + 4 + 4 + v9 + v10 + v11 : Nat), .int .i64 0]) := psC_yes HBB.out hq
      have HD := Lib.hid (doneC_ok v1 v2 v3 v4 v5 v6 v7 v8 v12 v13 v14 v15 v16 v17 v18 hc)
      clear hc ha hq
      refine (HD.out).mono ?_; rintro r z ⟨rfl, hz⟩
      replace HB := Lib.hid (below_then HB.out hz)
      replace HR := Lib.hid ((hz.block _ (lt_of_some HR.out)).trans HR.out)
      clear hz HD
      go_wp2_with (refine wpList_store_row rfl 40 (.tmp 2) (.tmp 79) rfl w.heap.size #[.int .u16 (v1 : Nat), .int .u16 (v2 : Nat), .int .u16 (v3 : Nat), .int .u16 (v4 : Nat), .int .u32 (v5 : Nat), .int .u32 (v6 : Nat), .int .u32 (v7 : Nat), .int .u32 (v8 : Nat), .int .u16 (v12 : Nat), .int .u16 (v13 : Nat), .int .u32 (v14 : Nat), .int .u32 (v15 : Nat), .string v16, .string v17, .string v18] rfl rfl 40 #[.int .u16 0, .int .u16 0, .int .u16 0, .int .u16 0, .int .u32 0, .int .u32 0, .int .u32 0, .int .u32 0, .int .u16 0, .int .u16 0, .int .u32 0, .int .u32 0, .string ⟨#[]⟩, .string ⟨#[]⟩, .string ⟨#[]⟩] HR.out info_C rfl (one_C v1 v2 v3 v4 v5 v6 v7 v8 v12 v13 v14 v15 v16 v17 v18) ?_)
      rw [HA.out]
      exact bodyPost_ret (results_ctt_row rfl _ _ w.heap.size 40 #[.int .u16 (v1 : Nat), .int .u16 (v2 : Nat), .int .u16 (v3 : Nat), .int .u16 (v4 : Nat), .int .u32 (v5 : Nat), .int .u32 (v6 : Nat), .int .u32 (v7 : Nat), .int .u32 (v8 : Nat), .int .u16 (v12 : Nat), .int .u16 (v13 : Nat), .int .u32 (v14 : Nat), .int .u32 (v15 : Nat), .string v16, .string v17, .string v18] (0, 0) _ rfl (heap_setRow_same _ _ _ _ _ HR.out) Try.underlying40 rfl info_C) rfl ⟨rfl, below_setRow HB.out (Nat.le_refl _) _⟩
    · have HA : Hid (psC s = .tuple #[.agg #[.int .u16 0, .int .u16 0, .int .u16 0, .int .u16 0, .int .u32 0, .int .u32 0, .int .u32 0, .int .u32 0, .int .u16 0, .int .u16 0, .int .u32 0, .int .u32 0, .string ⟨#[]⟩, .string ⟨#[]⟩, .string ⟨#[]⟩], .int .i64 0, .int .i64 3]) := by
        show _ = _
        unfold psC
        rw [if_pos HBB.out, if_neg hn]
      have HD := Lib.hid (doneC_no v1 v2 v3 v4 v5 v6 v7 v8 v12 v13 v14 v15 v16 v17 v18 hc)
      clear hc ha hn
      refine (HD.out).mono ?_; rintro r z ⟨rfl, hz⟩
      replace HB := Lib.hid (below_then HB.out hz)
      replace HR := Lib.hid ((hz.block _ (lt_of_some HR.out)).trans HR.out)
      clear hz HD
      go_wp2_with (refine wpList_store_row rfl 40 (.tmp 2) (.tmp 79) rfl w.heap.size #[.int .u16 0, .int .u16 0, .int .u16 0, .int .u16 0, .int .u32 0, .int .u32 0, .int .u32 0, .int .u32 0, .int .u16 0, .int .u16 0, .int .u32 0, .int .u32 0, .string ⟨#[]⟩, .string ⟨#[]⟩, .string ⟨#[]⟩] rfl rfl 40 #[.int .u16 0, .int .u16 0, .int .u16 0, .int .u16 0, .int .u32 0, .int .u32 0, .int .u32 0, .int .u32 0, .int .u16 0, .int .u16 0, .int .u32 0, .int .u32 0, .string ⟨#[]⟩, .string ⟨#[]⟩, .string ⟨#[]⟩] HR.out info_C rfl (by simp [Value.oneCell']) ?_)
      rw [HA.out]
      exact bodyPost_ret (results_ctt_row rfl _ _ w.heap.size 40 #[.int .u16 0, .int .u16 0, .int .u16 0, .int .u16 0, .int .u32 0, .int .u32 0, .int .u32 0, .int .u32 0, .int .u16 0, .int .u16 0, .int .u32 0, .int .u32 0, .string ⟨#[]⟩, .string ⟨#[]⟩, .string ⟨#[]⟩] (0, 0) _ rfl (heap_setRow_same _ _ _ _ _ HR.out) Try.underlying40 rfl info_C) rfl ⟨rfl, below_setRow HB.out (Nat.le_refl _) _⟩
end Go.Proofs.Ytklmfncljebgnaa
