/-
  The chapter's examples; what both sides answer of a header's bytes.
-/
import Derived.Test.YtklmfncljebgnaaHdK
import Derived.Test.YtklmfncljebgnaaHdR
import Derived.Test.YtklmfncljebgnaaHdF
namespace Go.Proofs.Ytklmfncljebgnaa
set_option maxRecDepth 100000
set_option linter.unusedSimpArgs false
set_option linter.unusedVariables false
open Go.RowKit Go.Joins Go.Deep Go.Op
theorem pl0 (w : World) : Calls Try.prog 22 #[.agg #[.int .u16 0, .int .u16 0, .int .u16 0, .int .u32 0, .int .u32 0, .int .u32 0, .int .u32 0, .string ⟨#[]⟩, .string ⟨#[]⟩]] w fun r w' => (∃ T : ByteArray, T.size = 30 ∧ r = .returned (.tuple #[.string T, .int .i64 0])) ∧ Below w.heap.size w w' :=
  (printL_any 0 0 0 0 0 0 0 (by omega) (by omega) (by omega) (by omega) (by omega) (by omega) (by omega) ⟨#[]⟩ ⟨#[]⟩ (by decide) (by decide) w).mono fun r w' ⟨hr, hb⟩ => ⟨⟨_, by decide +kernel, hr⟩, hb⟩
theorem pc0 (w : World) : Calls Try.prog 23 #[.agg #[.int .u16 0, .int .u16 0, .int .u16 0, .int .u16 0, .int .u32 0, .int .u32 0, .int .u32 0, .int .u32 0, .int .u16 0, .int .u16 0, .int .u32 0, .int .u32 0, .string ⟨#[]⟩, .string ⟨#[]⟩, .string ⟨#[]⟩]] w fun r w' => (∃ T : ByteArray, T.size = 46 ∧ r = .returned (.tuple #[.string T, .int .i64 0])) ∧ Below w.heap.size w w' :=
  (printC_any 0 0 0 0 0 0 0 0 0 0 0 0 (by omega) (by omega) (by omega) (by omega) (by omega) (by omega) (by omega) (by omega) (by omega) (by omega) (by omega) (by omega) ⟨#[]⟩ ⟨#[]⟩ ⟨#[]⟩ (by decide) (by decide) (by decide) w).mono fun r w' ⟨hr, hb⟩ => ⟨⟨_, by decide +kernel, hr⟩, hb⟩
theorem pd0 (b : Bool) (w : World) : Calls Try.prog 25 #[.agg #[.int .u32 0, .int .u64 0, .int .u64 0], .bool b] w fun r w' => (∃ T : ByteArray, T.size = (if b then 24 else 16) ∧ r = .returned (.string T)) ∧ Below w.heap.size w w' :=
  (printD_any 0 0 0 (by omega) (by omega) (by omega) b w).mono fun r w' ⟨hr, hb⟩ => ⟨⟨_, by cases b <;> decide +kernel, hr⟩, hb⟩
set_option maxHeartbeats 4000000 in
theorem awake17_any (w : World) : Calls Try.prog 10 #[] w fun e w' => e = .returned (.bool true) ∧ Below w.heap.size w w' := by
  go_enter Try.func10, Try.ntmps10
  go_wp2_with fail
  refine (pl0 _).mono ?_; rintro r w1 ⟨⟨T1, h1, rfl⟩, b1⟩
  have H1 := Lib.hid b1
  clear b1
  go_wp2_with fail
  refine (pc0 _).mono ?_; rintro r w2 ⟨⟨T2, h2, rfl⟩, b2⟩
  have H2 := Lib.hid (below_then H1.out b2)
  clear b2 H1
  go_wp2_with fail
  refine (pd0 false _).mono ?_; rintro r w3 ⟨⟨T3, h3, rfl⟩, b3⟩
  have H3 := Lib.hid (below_then H2.out b3)
  replace h3 : T3.size = 16 := h3
  clear b3 H2
  go_wp2_with fail
  refine (pd0 true _).mono ?_; rintro r w4 ⟨⟨T4, h4, rfl⟩, b4⟩
  have H4 := Lib.hid (below_then H3.out b4)
  replace h4 : T4.size = 24 := h4
  clear b4 H3
  go_wp2_with fail
  go_ret
  exact ⟨rfl, H4.out⟩

/-! ### Local -/
theorem row_L (s : ByteArray) : rowN s 0 wsLocals = [nAt s 0 4, nAt s 4 2, nAt s 6 2, nAt s 8 2, nAt s 10 4, nAt s 14 4, nAt s 18 4, nAt s 22 4, nAt s 26 2, nAt s 28 2] := rfl
theorem ok_L (s : ByteArray) : okR s wsLocals 67324752 [8, 9] ↔ (begB s 67324752 = true ∧ fitL s) := by
  unfold okR fitL begB
  rw [row_L]
  simp only [txF, wsLocals, List.getD_eq_getElem?_getD, List.getElem?_cons_succ, List.getElem?_cons_zero, Option.getD_some, Bool.and_true, Bool.and_eq_true, Bool.or_eq_true, decide_eq_true_iff, List.sum_cons, List.sum_nil]
  omega
theorem row_C (s : ByteArray) : rowN s 0 wsCentrals = [nAt s 0 4, nAt s 4 2, nAt s 6 2, nAt s 8 2, nAt s 10 2, nAt s 12 4, nAt s 16 4, nAt s 20 4, nAt s 24 4, nAt s 28 2, nAt s 30 2, nAt s 32 2, nAt s 34 2, nAt s 36 2, nAt s 38 4, nAt s 42 4] := rfl
theorem ok_C (s : ByteArray) : okR s wsCentrals 33639248 [9, 10, 11] ↔ (begB s 33639248 = true ∧ fitC s) := by
  unfold okR fitC begB
  rw [row_C]
  simp only [txF, wsCentrals, List.getD_eq_getElem?_getD, List.getElem?_cons_succ, List.getElem?_cons_zero, Option.getD_some, Bool.and_true, Bool.and_eq_true, Bool.or_eq_true, decide_eq_true_iff, List.sum_cons, List.sum_nil]
  omega
def wsD (b : Bool) : List Nat := if b then [4, 4, 8, 8] else [4, 4, 4, 4]
theorem row_D (s : ByteArray) (b : Bool) : rowN s 0 (wsD b) = [nAt s 0 4, nAt s 4 4, nAt s 8 (dw b), nAt s (8 + dw b) (dw b)] := by cases b <;> rfl
theorem ok_D (s : ByteArray) (b : Bool) : okR s (wsD b) 134695760 [] ↔ (begB s 134695760 = true ∧ fitD b s) := by
  unfold okR fitD begB
  cases b <;>
  · simp only [txF, wsD, dw, Bool.or_eq_true, decide_eq_true_iff, ↓reduceIte, List.sum_cons, List.sum_nil, Bool.false_eq_true, and_true]
    omega
/-- What is wrong with a header's bytes. -/
def erB (s : ByteArray) (k : Nat) : Nat := if begB s k = true then 3 else 4
theorem er_same (s : ByteArray) (k : Nat) : erR s k = erB s k := by
  unfold erR erB begB
  by_cases h4 : 4 ≤ s.size
  · by_cases hk : nAt s 0 4 = k
    · rw [if_neg (fun h => h.2 hk), if_pos (by rw [decide_eq_true hk, Bool.or_true])]
    · rw [if_pos ⟨h4, hk⟩, if_neg (by rw [decide_eq_false hk, decide_eq_false (by omega)]; decide)]
  · rw [if_neg (fun h => h4 h.1), if_pos (by rw [decide_eq_true (by omega), Bool.true_or])]
theorem psL_no {s : ByteArray} (h : ¬ okR s wsLocals 67324752 [8, 9]) : psL s = .tuple #[.agg #[.int .u16 0, .int .u16 0, .int .u16 0, .int .u32 0, .int .u32 0, .int .u32 0, .int .u32 0, .string ⟨#[]⟩, .string ⟨#[]⟩], .int .i64 0, .int .i64 (erB s 67324752 : Nat)] := by
  rw [ok_L] at h
  unfold psL erB
  by_cases hb : begB s 67324752 = true
  · rw [if_pos hb, if_neg (fun hf => h ⟨hb, hf⟩), if_pos hb]; rfl
  · rw [if_neg hb, if_neg hb]; rfl
theorem psC_no {s : ByteArray} (h : ¬ okR s wsCentrals 33639248 [9, 10, 11]) : psC s = .tuple #[.agg #[.int .u16 0, .int .u16 0, .int .u16 0, .int .u16 0, .int .u32 0, .int .u32 0, .int .u32 0, .int .u32 0, .int .u16 0, .int .u16 0, .int .u32 0, .int .u32 0, .string ⟨#[]⟩, .string ⟨#[]⟩, .string ⟨#[]⟩], .int .i64 0, .int .i64 (erB s 33639248 : Nat)] := by
  rw [ok_C] at h
  unfold psC erB
  by_cases hb : begB s 33639248 = true
  · rw [if_pos hb, if_neg (fun hf => h ⟨hb, hf⟩), if_pos hb]; rfl
  · rw [if_neg hb, if_neg hb]; rfl
theorem psD_no {s : ByteArray} {b : Bool} (h : ¬ okR s (wsD b) 134695760 []) : psD b s = .tuple #[.agg #[.int .u32 0, .int .u64 0, .int .u64 0], .int .i64 0, .int .i64 (erB s 134695760 : Nat)] := by
  rw [ok_D] at h
  unfold psD erB
  by_cases hb : begB s 134695760 = true
  · rw [if_pos hb, if_neg (fun hf => h ⟨hb, hf⟩), if_pos hb]; rfl
  · rw [if_neg hb, if_neg hb]; rfl
end Go.Proofs.Ytklmfncljebgnaa
