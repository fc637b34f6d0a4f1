/-
  The walk of PlanResults.
-/
import Derived.Test.YtkcckhnmljckaaaGreatDoorPrE
import Derived.Test.YtkcckhnmljckaaaGreatDoorItB
import Derived.Test.YtkcckhnmljckaaaGreatDoorAcR
namespace Go.Proofs.YtkcckhnmljckaaaGreatDoor
set_option maxRecDepth 100000
set_option linter.unusedSimpArgs false
set_option linter.unusedVariables false
open Go.RowKit Go.Joins Go.Deep
section
variable {P : Program} (w : World)
/-- An array of numbers equals itself, as the language compares arrays. -/
theorem run_equalIn_arrI (d : Nat) (t e : TypeId) (n : Nat) (cs : Array Value) (G : Nat → Int) (hcs : ∀ i, i < n → cs[i]? = some (.int .i64 (G i))) (ht : P.underlying t = some (.array n e)) (he : P.underlying e = some (.int .i64)) (hsz : ∀ w, (sizeOf e).run P w = .ok 1 w) :
    (Op.equalIn (d + 2) t (.agg cs) (.agg cs)).run P w = .ok true w := by
  rw [Op.equalIn]
  simp only [Sem.run_bind, run_underlying ht, Result.andThen_ok, hsz, Std.Legacy.Range.forIn_eq_forIn_range', Std.Legacy.Range.size, Nat.sub_zero, Nat.add_sub_cancel, Nat.div_one]
  have hl : ∀ i ∈ List.range' 0 n 1, i < n := fun i hi => by simpa using (List.mem_range'_1.1 hi).2
  generalize List.range' 0 n 1 = l at hl ⊢
  induction l with
  | nil => simp
  | cons i l ih =>
    have hi : i < n := hl i (by simp)
    have px : (part e cs (i * 1)).run P w = .ok (.int .i64 (G i)) w := by
      simp [part, isAgg, run_underlying he, hcs i hi]
    have pe : (Op.equalIn (d + 1) e (.int .i64 (G i)) (.int .i64 (G i))).run P w = .ok true w := by
      rw [run_equalIn_int w d e .i64 .i64 _ _ he]
      simp
    simp only [List.forIn_cons, Sem.run_bind, px, pe, Result.andThen_ok]
    simp only [Bool.not_true, Bool.false_eq_true, if_false, Sem.run_pure, Result.andThen_ok]
    exact ih fun j hj => hl j (by simp [hj])
theorem size_oneI {e : TypeId} (h : (P.info? e).map (·.size) = some 1) : ∀ w, (sizeOf e).run P w = .ok 1 w := by
  obtain ⟨i, hi, hs⟩ := Option.map_eq_some_iff.1 h
  intro w
  simp [sizeOf, typeInfo, hi, hs]
end
theorem size_intP : (Tryz.prog.info? 3).map (·.size) = some 1 := by kernel_rfl
theorem guard5 : Tryz.prog.eqGuardType Tryz.prog.depth 31 = false := by kernel_rfl
theorem equal5 (a b c d : Nat) (w : World) : (Op.equalIn 10000 31 (.agg (cv5 a b c d)) (.agg (cv5 a b c d))).run Tryz.prog w = .ok true w :=
  run_equalIn_arrI w 9998 31 3 5 _ (fun i => if i = 0 then 0 else if i = 1 then (a : Nat) else if i = 2 then (b : Nat) else if i = 3 then (c : Nat) else (d : Nat)) (fun i hi => by
    have h5 : i = 0 ∨ i = 1 ∨ i = 2 ∨ i = 3 ∨ i = 4 := by omega
    rcases h5 with rfl | rfl | rfl | rfl | rfl <;> rfl) Tryz.underlying31 Tryz.underlying3 (size_oneI size_intP)
set_option maxHeartbeats 16000000 in
theorem planResults_core (A AE AT : Option Addr) (c cE cT : Nat) (l : List Act3) (E T : List Itm) (hn0 : l.length ≤ maxLen) (hn1 : E.length ≤ maxLen) (hn2 : T.length ≤ maxLen) (w : World) (hA : Acts3 w A l) (hRE : Itms w AE E) (hRT : Itms w AT T) :
    Calls Tryz.prog 3 #[.slice A l.length c, .slice AE E.length cE, .slice AT T.length cT] w fun e w' => e = .returned (.bool true) ∧ Below w.heap.size w w' := by
  unfold maxLen at hn0 hn1 hn2
  have HAW := Lib.hid (awake24_any w)
  have HA := Lib.hid hA
  have HRE := Lib.hid hRE
  have HRT := Lib.hid hRT
  clear hA hRE hRT
  go_enter Tryz.func3, Tryz.ntmps3
  go_wp2_with fail
  refine HAW.out.mono ?_; rintro e w1 ⟨rfl, hb1⟩
  have HB1 := Lib.hid hb1
  clear hb1 HAW
  obtain ⟨B1, hB1⟩ : ∃ B1, B1 = decide (FewP E) := ⟨_, rfl⟩
  obtain ⟨B2, hB2⟩ : ∃ B2, B2 = decide (FewP T) := ⟨_, rfl⟩
  have HL1 := Lib.hid (fewI_any AE cE E w1 (HRE.out.below HB1.out) (by omega))
  rw [← hB1] at HL1
  have HB1e := Lib.hid hB1
  have HB2e := Lib.hid hB2
  clear hB1 hB2
  by_cases h100 : 100 < l.length
  · have d1 : decide ((100 : Int) < (l.length : Int)) = true := decide_eq_true (by omega)
    go_wp2_with fail
    go_ret
    exact ⟨rfl, HB1.out⟩
  have d1 : decide ((100 : Int) < (l.length : Int)) = false := decide_eq_false (by omega)
  go_wp2_with fail
  refine HL1.out.mono ?_; rintro e w2 ⟨rfl, hb2⟩
  have HB2 := Lib.hid (below_then HB1.out hb2)
  have HL2 := Lib.hid (fewI_any AT cT T w2 (HRT.out.below HB2.out) (by omega))
  rw [← HB2e.out] at HL2
  clear hb2 HL1 HB1
  cases B1 with
  | false =>
    go_wp2_with fail
    go_ret
    exact ⟨rfl, HB2.out⟩
  | true =>
    go_wp2_with fail
    refine HL2.out.mono ?_; rintro e w3 ⟨rfl, hb3⟩
    have HB3 := Lib.hid (below_then HB2.out hb3)
    clear hb3 HL2 HB2
    cases B2 with
    | false =>
      go_wp2_with fail
      go_ret
      exact ⟨rfl, HB3.out⟩
    | true =>
      have len60 : ∀ (l : List Itm), FewP l → l.length ≤ 60 := fun l h => by
        cases l with
        | nil => exact Nat.zero_le _
        | cons x l => exact (h x (by simp)).1
      have hE60 : E.length ≤ 60 := len60 E (of_decide_eq_true HB1e.out.symm)
      have hT60 : T.length ≤ 60 := len60 T (of_decide_eq_true HB2e.out.symm)
      have hl100 : l.length ≤ 100 := by omega
      have HRS := Lib.hid (result_any A AE AT c cE cT l E T w3 (by omega) (by omega) (by omega) (HA.out.below HB3.out) (HRE.out.below HB3.out) (HRT.out.below HB3.out))
      have HRL : Hid ((resL E T l).length ≤ 100) := Nat.le_trans (resL_len E T l) hl100
      clear HB1e HB2e len60 h100
      go_wp2_with fail
      refine HRS.out.mono ?_; rintro e w4 ⟨A4, c4, rfl, hi4, hb4⟩
      have HI4 := Lib.hid hi4
      have HB4 := Lib.hid (below_then HB3.out hb4)
      have HTO := Lib.hid (to24_any A c l w4 (by omega) (HA.out.below HB4.out))
      clear hi4 hb4 HRS HB3
      go_wp2_with fail
      refine HTO.out.mono ?_; rintro e w5 ⟨A5, c5, rfl, ha5, hb5⟩
      have HI5 := Lib.hid (HI4.out.below hb5)
      have HB5 := Lib.hid (below_then HB4.out hb5)
      have HRR := Lib.hid (rresult_any A5 AE AT c5 cE cT l E T w5 (by omega) (by omega) (by omega) ha5 (HRE.out.below HB5.out) (HRT.out.below HB5.out))
      clear ha5 hb5 HTO HB4 HI4
      go_wp2_with fail
      refine HRR.out.mono ?_; rintro e w6 ⟨A6, c6, rfl, hi6, hb6⟩
      have HB6 := Lib.hid (below_then HB5.out hb6)
      have HSM := Lib.hid (sameI_any A4 A6 c4 c6 (resL E T l) w6 (HI5.out.below hb6) hi6 (by have := HRL.out; omega))
      clear hi6 hb6 HRR HB5 HI5
      go_wp2_with fail
      refine HSM.out.mono ?_; rintro e w7 ⟨rfl, dq, rfl⟩
      have HB7 := Lib.hid (below_drewN HB6.out dq)
      clear HSM HB6
      generalize w6.drewN dq = w7 at *
      have HC1 := Lib.hid (count24_any A c l w7 (by omega) (HA.out.below HB7.out))
      go_wp2_with fail
      refine HC1.out.mono ?_; rintro e w8 ⟨rfl, hb8⟩
      have HB8 := Lib.hid (below_then HB7.out hb8)
      have HTO := Lib.hid (to24_any A c l w8 (by omega) (HA.out.below HB8.out))
      clear hb8 HC1 HB7
      go_wp2_with fail
      refine HTO.out.mono ?_; rintro e w9 ⟨A9, c9, rfl, ha9, hb9⟩
      have HB9 := Lib.hid (below_then HB8.out hb9)
      have HC2 := Lib.hid (rcount24_any A9 c9 l w9 (by omega) ha9)
      clear ha9 hb9 HTO HB8
      have hg5 := guard5
      have heq : ∀ w, (Op.equalIn 10000 31 (.agg (cntV l)) (.agg (cntV l))).run Tryz.prog w = .ok true w := fun w => equal5 _ _ _ _ w
      generalize cntV l = V at *
      go_wp2_with fail
      refine HC2.out.mono ?_; rintro e w10 ⟨rfl, hb10⟩
      have HB10 := Lib.hid (below_then HB9.out hb10)
      clear hb10 HC2 HB9
      go_wp2_with fail
      go_ret
      exact ⟨rfl, HB10.out⟩
theorem planResults_walk (a0 : Option Addr) (cap0 : Nat) (l0 : List Act3) (a1 : Option Addr) (cap1 : Nat) (l1 : List Itm) (a2 : Option Addr) (cap2 : Nat) (l2 : List Itm) (w : World)
    (hp0 : Acts3 w a0 l0) (ho0 : (∀ f ∈ l0, ActOk f) ∧ l0.length ≤ maxLen) (hn0 : a0 = none → l0.length = 0 ∧ cap0 = 0) (hc0 : l0.length ≤ cap0) (hp1 : Itms w a1 l1) (ho1 : (∀ f ∈ l1, ItmOk f) ∧ l1.length ≤ maxLen) (hn1 : a1 = none → l1.length = 0 ∧ cap1 = 0) (hc1 : l1.length ≤ cap1)
    (hp2 : Itms w a2 l2) (ho2 : (∀ f ∈ l2, ItmOk f) ∧ l2.length ≤ maxLen) (hn2 : a2 = none → l2.length = 0 ∧ cap2 = 0) (hc2 : l2.length ≤ cap2) :
    Calls Tryz.prog 3 #[.slice a0 l0.length cap0, .slice a1 l1.length cap1, .slice a2 l2.length cap2] w fun e w' => e = .returned (.bool true) ∧ Below w.heap.size w w' :=
  planResults_core a0 a1 a2 cap0 cap1 cap2 l0 l1 l2 ho0.2 ho1.2 ho2.2 w hp0 hp1 hp2
end Go.Proofs.YtkcckhnmljckaaaGreatDoor
