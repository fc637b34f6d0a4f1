/-
  Contracts of package header: begin.
-/
import Derived.Test.YtklmfncljebgnaaHdN
namespace Go.Proofs.Ytklmfncljebgnaa
set_option maxRecDepth 100000
set_option linter.unusedSimpArgs false
open Go.RowKit Go.Joins Go.Deep Go.Op
theorem mark_beq {s M : ByteArray} {k : Nat} (hk : k < 4294967296) (hM : M = text (le k 4)) (h4 : 4 ≤ s.size) : ((tAt s 0 4).toList == M.toList) = decide (nAt s 0 4 = k) := by
  subst hM
  rw [tAt_le s 0 4 (by omega)]
  have hl := nAt_lt s 0 4
  by_cases h : nAt s 0 4 = k
  · rw [h, decide_eq_true rfl]
    exact beq_self_eq_true _
  · rw [decide_eq_false h, beq_eq_false_iff_ne, Lib.toList_data, Lib.toList_data]
    intro e
    have e2 : text (le (nAt s 0 4) 4) = text (le k 4) := ByteArray.ext (Array.toList_inj.1 e)
    have e3 := congrArg nums e2
    rw [nums_text _ (le_lt _ _), nums_text _ (le_lt _ _)] at e3
    have e4 := congrArg numL e3
    rw [numL_le, numL_le, Nat.mod_eq_of_lt hl, Nat.mod_eq_of_lt (by omega)] at e4
    exact h e4
set_option maxHeartbeats 2000000 in
theorem begin_any (s M : ByteArray) (k : Nat) (hk : k < 4294967296) (hM : M = text (le k 4)) (hs : s.size ≤ maxLen) (w : World) :
    Calls Try.prog 34 #[.string s, .string M] w fun r w' => r = .returned (.tuple #[.pointer (some ⟨w.heap.size, 0, none⟩), .bool (begB s k)]) ∧ CI w s (atB s 0 0 (4 : Nat)) (errB s 0 0 (4 : Nat)) w' := by
  have hM4 : M.size = 4 := by rw [hM, text_size, le_len]
  by_cases h4 : 4 ≤ s.size
  · have hq := mark_beq hk hM h4
    have HP : Hid (piece s 0 0 (4 : Nat) = tAt s 0 4) := piece_yes s 0 4 (by omega)
    have HE : Hid (errB s 0 0 (4 : Nat) = 0) := errB_yes s 0 4 (by omega)
    have HB : Hid (begB s k = decide (nAt s 0 4 = k)) := by show begB s k = _; unfold begB; rw [decide_eq_false (by omega), Bool.false_or]
    have HS := Lib.hid hs
    clear h4 hs hk hM
    generalize decide (nAt s 0 4 = k) = b at *
    generalize tAt s 0 4 = T at *
    have HQ := Lib.hid hq
    clear hq
    go_enter Try.func34, Try.ntmps34
    go_wp2_with fail
    refine (over_ci s _).mono ?_; rintro r wF ⟨rfl, C0⟩
    go_wp2_with fail
    refine (take_ci (4 : Nat) HS.out (Nat.zero_le _) (WalkArith.wf_i64 (by omega)) C0).mono ?_; rintro r w1 ⟨rfl, C1⟩
    rw [HP.out]
    have HC1 := Lib.hid C1
    clear C0 C1
    go_wp2_with fail
    refine (err_ci HC1.out).mono ?_; rintro r w2 ⟨rfl, rfl⟩
    rw [HE.out]
    have hq := HQ.out
    go_wp2_with fail
    go_ret2
    rw [HB.out]
    exact ⟨rfl, HC1.out⟩
  · have HE : Hid (errB s 0 0 (4 : Nat) = 3) := errB_no s 0 0 4 (.inr (by omega))
    have HB : Hid (begB s k = true) := by show begB s k = _; unfold begB; rw [decide_eq_true (by omega), Bool.true_or]
    have HS := Lib.hid hs
    clear h4 hs hk hM
    go_enter Try.func34, Try.ntmps34
    go_wp2_with fail
    refine (over_ci s _).mono ?_; rintro r wF ⟨rfl, C0⟩
    go_wp2_with fail
    refine (take_ci (4 : Nat) HS.out (Nat.zero_le _) (WalkArith.wf_i64 (by omega)) C0).mono ?_; rintro r w1 ⟨rfl, C1⟩
    have HC1 := Lib.hid C1
    clear C0 C1
    go_wp2_with fail
    refine (err_ci HC1.out).mono ?_; rintro r w2 ⟨rfl, rfl⟩
    rw [HE.out]
    go_wp2_with fail
    go_ret2
    rw [HB.out]
    exact ⟨rfl, HC1.out⟩
end Go.Proofs.Ytklmfncljebgnaa
