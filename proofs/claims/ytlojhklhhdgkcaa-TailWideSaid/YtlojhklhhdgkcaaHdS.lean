/-
  The chapter's examples; what both sides answer of a header's bytes.
-/
import Derived.Test.YtlojhklhhdgkcaaHdK
import Derived.Test.YtlojhklhhdgkcaaHdR
import Derived.Test.YtlojhklhhdgkcaaHdF
namespace Go.Proofs.Ytlojhklhhdgkcaa
set_option maxRecDepth 100000
set_option linter.unusedSimpArgs false
set_option linter.unusedVariables false
open Go.RowKit Go.Joins Go.Deep Go.Op
/-! ### Local -/
theorem row_L (s : ByteArray) : rowN s 0 wsLocals = [nAt s 0 4, nAt s 4 2, nAt s 6 2, nAt s 8 2, nAt s 10 4, nAt s 14 4, nAt s 18 4, nAt s 22 4, nAt s 26 2, nAt s 28 2] := rfl
theorem ok_L (s : ByteArray) : okR s wsLocals 67324752 [8, 9] ↔ (begB s 67324752 = true ∧ fitL s) := by
  unfold okR fitL begB
  rw [row_L]
  simp only [txF, wsLocals, List.getD_eq_getElem?_getD, List.getElem?_cons_succ, List.getElem?_cons_zero, Option.getD_some, Bool.and_true, Bool.and_eq_true, Bool.or_eq_true, decide_eq_true_iff, List.sum_cons, List.sum_nil]
  omega
theorem row_C (s : ByteArray) : rowN s 0 wsCentrals = [nAt s 0 4, nAt s 4 2, nAt s 6 2, nAt s 8 2, nAt s 10 2, nAt s 12 4, nAt s 16 4, nAt s 20 4, nAt s 24 4, nAt s 28 2, nAt s 30 2, nAt s 32 2, nAt s 34 2, nAt s 36 2, nAt s 38 4, nAt s 42 4] := rfl
theorem ok_C (s : ByteArray) : okR s wsCentrals 33639248 [9, 10, 11] ↔ (begB s 33639248 = true ∧ fitC s) := by
  unfold okR fitC begB
  rw [row_C]
  simp only [txF, wsCentrals, List.getD_eq_getElem?_getD, List.getElem?_cons_succ, List.getElem?_cons_zero, Option.getD_some, Bool.and_true, Bool.and_eq_true, Bool.or_eq_true, decide_eq_true_iff, List.sum_cons, List.sum_nil]
  omega
def wsD (b : Bool) : List Nat := if b then [4, 4, 8, 8] else [4, 4, 4, 4]
theorem row_D (s : ByteArray) (b : Bool) : rowN s 0 (wsD b) = [nAt s 0 4, nAt s 4 4, nAt s 8 (dw b), nAt s (8 + dw b) (dw b)] := by cases b <;> rfl
theorem ok_D (s : ByteArray) (b : Bool) : okR s (wsD b) 134695760 [] ↔ (begB s 134695760 = true ∧ fitD b s) := by
  unfold okR fitD begB
  cases b <;>
  · simp only [txF, wsD, dw, Bool.or_eq_true, decide_eq_true_iff, ↓reduceIte, List.sum_cons, List.sum_nil, Bool.false_eq_true, and_true]
    omega
/-- What is wrong with a header's bytes. -/
def erB (s : ByteArray) (k : Nat) : Nat := if begB s k = true then 3 else 4
theorem er_same (s : ByteArray) (k : Nat) : erR s k = erB s k := by
  unfold erR erB begB
  by_cases h4 : 4 ≤ s.size
  · by_cases hk : nAt s 0 4 = k
    · rw [if_neg (fun h => h.2 hk), if_pos (by rw [decide_eq_true hk, Bool.or_true])]
    · rw [if_pos ⟨h4, hk⟩, if_neg (by rw [decide_eq_false hk, decide_eq_false (by omega)]; decide)]
  · rw [if_neg (fun h => h4 h.1), if_pos (by rw [decide_eq_true (by omega), Bool.true_or])]
theorem psL_no {s : ByteArray} (h : ¬ okR s wsLocals 67324752 [8, 9]) : psL s = .tuple #[.agg #[.int .u16 0, .int .u16 0, .int .u16 0, .int .u32 0, .int .u32 0, .int .u32 0, .int .u32 0, .string ⟨#[]⟩, .string ⟨#[]⟩], .int .i64 0, .int .i64 (erB s 67324752 : Nat)] := by
  rw [ok_L] at h
  unfold psL erB
  by_cases hb : begB s 67324752 = true
  · rw [if_pos hb, if_neg (fun hf => h ⟨hb, hf⟩), if_pos hb]; rfl
  · rw [if_neg hb, if_neg hb]; rfl
theorem psC_no {s : ByteArray} (h : ¬ okR s wsCentrals 33639248 [9, 10, 11]) : psC s = .tuple #[.agg #[.int .u16 0, .int .u16 0, .int .u16 0, .int .u16 0, .int .u32 0, .int .u32 0, .int .u32 0, .int .u32 0, .int .u16 0, .int .u16 0, .int .u32 0, .int .u32 0, .string ⟨#[]⟩, .string ⟨#[]⟩, .string ⟨#[]⟩], .int .i64 0, .int .i64 (erB s 33639248 : Nat)] := by
  rw [ok_C] at h
  unfold psC erB
  by_cases hb : begB s 33639248 = true
  · rw [if_pos hb, if_neg (fun hf => h ⟨hb, hf⟩), if_pos hb]; rfl
  · rw [if_neg hb, if_neg hb]; rfl
theorem psD_no {s : ByteArray} {b : Bool} (h : ¬ okR s (wsD b) 134695760 []) : psD b s = .tuple #[.agg #[.int .u32 0, .int .u64 0, .int .u64 0], .int .i64 0, .int .i64 (erB s 134695760 : Nat)] := by
  rw [ok_D] at h
  unfold psD erB
  by_cases hb : begB s 134695760 = true
  · rw [if_pos hb, if_neg (fun hf => h ⟨hb, hf⟩), if_pos hb]; rfl
  · rw [if_neg hb, if_neg hb]; rfl
end Go.Proofs.Ytlojhklhhdgkcaa
