/-
  The walk of ExtraReads.
-/
import Derived.Test.YtkiecgcjnlgbnaaExI
import Derived.Test.YtkiecgcjnlgbnaaExX
namespace Go.Proofs.Ytkiecgcjnlgbnaa
set_option maxRecDepth 100000
open Go.RowKit Go.Joins Go.Deep

theorem fewB_len {l : List Fd} (h : fewB l = true) : l.length ≤ 60 := by
  cases l with
  | nil => simp
  | cons x l => exact ((of_decide_eq_true h) x (by simp)).1
theorem prs_len (s : ByteArray) (a : Nat) (acc l : List Fd) (h : prs s a acc = some l) (ha : acc.length ≤ a) (hz : a ≤ s.size) : l.length ≤ s.size := by
  fun_induction prs s a acc with
  | case1 a acc h1 => injection h with h; subst h; omega
  | case2 a acc h1 h2 ih => exact ih h (by rw [List.length_append]; simp; omega) h2
  | case3 => cases h
theorem parL_len (s : ByteArray) : (parL s).length ≤ 1000000 := by
  unfold parL
  split
  · simp
  · cases h : prs s 0 [] with
    | none => simp
    | some l =>
      have := prs_len s 0 [] l h (by simp) (Nat.zero_le _)
      show l.length ≤ _
      omega
set_option maxHeartbeats 4000000 in
theorem extraReads_walk (s : ByteArray) (A : Option Addr) (cap : Nat) (l : List Fd) (hs : s.size ≤ maxLen) (w : World) (hF : Fds w A l) (hok : ∀ f ∈ l, FdOk f) (_hn : A = none → l.length = 0 ∧ cap = 0) (_hc : l.length ≤ cap) :
    Calls Try.prog 3 #[.string s, .slice A l.length cap] w fun e w' => e = .returned (.bool true) ∧ Below w.heap.size w w' := by
  have HF := Lib.hid hF
  have HAW := Lib.hid (awake13_any w)
  have HFE := Lib.hid (fun (w1 : World) h => few_any A cap l w1 h)
  have HOK := Lib.hid hok
  have HPA := Lib.hid (fun (w1 : World) => parse_any s hs w1)
  have HRP := Lib.hid (fun (w1 : World) => rparse_any s hs w1)
  have hz7 : decide (70000 < (s.size : Int)) = decide (70000 < s.size) := by rw [Bool.eq_iff_iff, decide_eq_true_iff, decide_eq_true_iff]; omega
  clear hF hok
  go_enter Try.func3, Try.ntmps3
  go_wp2_with fail
  refine (HAW.out).mono ?_
  rintro e w1 ⟨rfl, hb1⟩
  have HB1 := Lib.hid hb1
  have HF1 := Lib.hid (HF.out.below (Nat.le_refl _) hb1)
  clear hb1 HAW
  by_cases hs7 : 70000 < s.size
  · go_wp2_with fail
    go_ret
    exact ⟨rfl, HB1.out⟩
  · go_wp2_with fail
    refine (HFE.out _ HF1.out).mono ?_
    rintro e w2 ⟨rfl, hb2⟩
    have HB2 := Lib.hid (below_then HB1.out hb2)
    have HF2 := Lib.hid (HF1.out.below (Nat.le_refl _) hb2)
    clear hb2
    cases hfew : fewB l with
    | false =>
      go_wp2_with fail
      go_ret
      exact ⟨rfl, HB2.out⟩
    | true =>
      have hl60 := fewB_len hfew
      have HPR := Lib.hid (fun (w1 : World) h => print_any A cap l w1 h (fun f hf => (HOK.out f hf).1) (by omega))
      have HRR := Lib.hid (fun (w1 : World) h => rprint_any A cap l w1 h (fun f hf => (HOK.out f hf).1) (by omega))
      clear HFE hfew
      go_wp2_with fail
      refine (HPA.out _).mono ?_
      rintro e w3 ⟨A3, c3, rfl, hf3, hb3⟩
      have HB3 := Lib.hid (below_then HB2.out hb3)
      have HF3 := Lib.hid (HF2.out.below (Nat.le_refl _) hb3)
      have HP3 := Lib.hid hf3
      clear hb3 hf3
      go_wp2_with fail
      refine (HRP.out _).mono ?_
      rintro e w4 ⟨A4, c4, rfl, hf4, hb4⟩
      have HB4 := Lib.hid (below_then HB3.out hb4)
      have HF4 := Lib.hid (HF3.out.below (Nat.le_refl _) hb4)
      have HP4 := Lib.hid (HP3.out.below (Nat.le_refl _) hb4)
      have HQ4 := Lib.hid hf4
      clear hb4 hf4
      go_wp2_with fail
      refine (HPR.out _ HF4.out).mono ?_
      rintro e w5 ⟨rfl, hb5⟩
      have HB5 := Lib.hid (below_then HB4.out hb5)
      have HF5 := Lib.hid (HF4.out.below (Nat.le_refl _) hb5)
      have HP5 := Lib.hid (HP4.out.below (Nat.le_refl _) hb5)
      have HQ5 := Lib.hid (HQ4.out.below (Nat.le_refl _) hb5)
      clear hb5
      go_wp2_with fail
      refine (HRR.out _ HF5.out).mono ?_
      rintro e w6 ⟨rfl, hb6⟩
      have HB6 := Lib.hid (below_then HB5.out hb6)
      have HP6 := Lib.hid (HP5.out.below (Nat.le_refl _) hb6)
      have HQ6 := Lib.hid (HQ5.out.below (Nat.le_refl _) hb6)
      clear hb6
      have HSA := Lib.hid (same_any A3 A4 c3 c4 (parL s) w6 HP6.out HQ6.out (parL_len s))
      generalize parL s = pl at *
      generalize parE s = pe at *
      generalize prtT l = pt at *
      generalize prtE l = pr at *
      generalize text pt = tx at *
      go_wp2_with fail
      refine (HSA.out).mono ?_
      rintro e w7 ⟨rfl, d, rfl⟩
      go_wp2_with fail
      go_ret
      exact ⟨rfl, below_drewN HB6.out _⟩
end Go.Proofs.Ytkiecgcjnlgbnaa
