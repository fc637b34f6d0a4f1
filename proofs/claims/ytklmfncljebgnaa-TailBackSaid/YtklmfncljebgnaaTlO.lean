/-
  The document's Find of an end: the walk.
-/
import Derived.Test.YtklmfncljebgnaaTlN
namespace Go.Proofs.Ytklmfncljebgnaa
set_option maxRecDepth 100000
set_option linter.unusedSimpArgs false
set_option linter.unusedVariables false
open Go.RowKit Go.Joins Go.Deep Go.Op
theorem info_rend : (Try.prog.info? 64).map (·.size) = some 6 := by kernel_rfl
theorem bneL {a : Nat} {k : Int} {p : Bool} (h : (((a : Nat) : Int) == k) = p) : (((a : Nat) : Int) != k) = !p := by rw [bne, h]
set_option maxHeartbeats 40000000 in
theorem rfind_any (s : ByteArray) (hs : s.size ≤ 60000) (w : World) :
    Calls Try.prog 28 #[.string s] w fun e w' => e = .returned (fdV (fdE s)) ∧ Below w.heap.size w w' := by
  have hr0 := heap_alloc_new w (.cells #[.int .i64 0, .int .u64 0, .int .u64 0, .int .u64 0, .string ⟨#[]⟩, .bool false] 64)
  have HB : Hid (Below w.heap.size w (w.alloc (.cells #[.int .i64 0, .int .u64 0, .int .u64 0, .int .u64 0, .string ⟨#[]⟩, .bool false] 64))) := (Below.refl _ _).alloc (Nat.le_refl _) _
  have HR := Lib.hid hr0
  clear hr0
  have HLA := Lib.hid (fun w => place_any s hs w)
  obtain ⟨X, hX⟩ : ∃ X, X = fdE s := ⟨_, rfl⟩
  rw [← hX]
  have HX := Lib.hid hX
  clear hX
  cases hla : lastE s with
  | none =>
    have HI := Lib.hid (lastI_none hla)
    have HV : Hid (fdV X = .tuple #[.agg #[.int .i64 0, .int .u64 0, .int .u64 0, .int .u64 0, .string ⟨#[]⟩, .bool false], .int .i64 30]) := by show _ = _; rw [HX.out]; unfold fdE; rw [hla]; rfl
    clear hla
    go_enter Try.func28, Try.ntmps28
    go_wp2_with fail
    generalize w.alloc (.cells #[.int .i64 0, .int .u64 0, .int .u64 0, .int .u64 0, .string ⟨#[]⟩, .bool false] 64) = w0 at *
    refine (HLA.out _).mono ?_; rintro r w1 ⟨rfl, hb⟩
    rw [HI.out]
    replace HR := Lib.hid ((hb.block _ (lt_of_some HR.out)).trans HR.out)
    replace HB := Lib.hid (HB.out.trans (hb.mono HB.out.size))
    clear hb
    go_wp2_with (refine wpList_store_row rfl 64 (.tmp 2) (.tmp 14) rfl w.heap.size #[.int .i64 0, .int .u64 0, .int .u64 0, .int .u64 0, .string ⟨#[]⟩, .bool false] rfl rfl 64 #[.int .i64 0, .int .u64 0, .int .u64 0, .int .u64 0, .string ⟨#[]⟩, .bool false] HR.out info_rend rfl (by simp [Value.oneCell']) ?_)
    rw [HV.out]
    exact bodyPost_ret (results_ct_row' rfl _ _ w.heap.size 64 #[.int .i64 0, .int .u64 0, .int .u64 0, .int .u64 0, .string ⟨#[]⟩, .bool false] (0, 0) _ rfl (heap_setRow_same _ _ _ _ _ HR.out) Try.underlying64 rfl info_rend) rfl ⟨rfl, below_setRow HB.out (Nat.le_refl _) _⟩
  | some a =>
    have hle := lastE_le hla
    have HI := Lib.hid (lastI_some hla)
    have hts : (s.extract a s.size).size = s.size - a := by rw [ByteArray.size_extract]; omega
    have HRE := Lib.hid (fun g w hr => rowE (s.extract a s.size) (by omega) (by omega) g w hr)
    simp only [nAt_from, Nat.add_zero] at HRE
    have HD1 : Hid (alB (nAt s (a + 4) 2) (nAt s (a + 6) 2) (nAt s (a + 8) 2) (nAt s (a + 10) 2) = false → X = ((0, 0, 0, 0, ⟨#[]⟩, false), 30)) := fun h => by rw [HX.out]; unfold fdE; rw [hla]; show (if _ then _ else _) = _; rw [if_neg (by rw [h]; decide)]
    have HD2 : Hid (alB (nAt s (a + 4) 2) (nAt s (a + 6) 2) (nAt s (a + 8) 2) (nAt s (a + 10) 2) = true → asB (nAt s (a + 10) 2) (nAt s (a + 12) 4) (nAt s (a + 16) 4) = false → X = ((a, nAt s (a + 10) 2, nAt s (a + 12) 4, nAt s (a + 16) 4, s.extract (a + 22) s.size, false), 0)) := fun h h2 => by rw [HX.out]; unfold fdE; rw [hla]; show (if _ then _ else _) = _; rw [if_pos h, if_neg (by rw [h2]; decide)]
    have HD3 : Hid (alB (nAt s (a + 4) 2) (nAt s (a + 6) 2) (nAt s (a + 8) 2) (nAt s (a + 10) 2) = true → asB (nAt s (a + 10) 2) (nAt s (a + 12) 4) (nAt s (a + 16) 4) = true → (WideOk s a → X = ((nAt s (a - 20 + 8) 8, nAt s (nAt s (a - 20 + 8) 8 + 32) 8, nAt s (nAt s (a - 20 + 8) 8 + 40) 8, nAt s (nAt s (a - 20 + 8) 8 + 48) 8, s.extract (a + 22) s.size, true), 0)) ∧ (¬ WideOk s a → X = ((0, 0, 0, 0, ⟨#[]⟩, false), 31))) := fun h h2 => by rw [HX.out]; exact fd_doc hla h h2
    clear hla hts HX
    go_enter Try.func28, Try.ntmps28
    go_wp2_with fail
    generalize w.alloc (.cells #[.int .i64 0, .int .u64 0, .int .u64 0, .int .u64 0, .string ⟨#[]⟩, .bool false] 64) = w0 at *
    refine (HLA.out _).mono ?_; rintro r w1 ⟨rfl, hb⟩
    rw [HI.out]
    replace HR := Lib.hid ((hb.block _ (lt_of_some HR.out)).trans HR.out)
    replace HB := Lib.hid (HB.out.trans (hb.mono HB.out.size))
    clear hb HLA HI
    have hal0 : a ≤ s.size := by omega
    go_upto_region 4 with fail
    have hS0 : (fun ww => Below w1.heap.size w1 ww) w1.drew := (Below.refl _ _).drew
    refine wp_region_held_drew (S := fun ww => Below w1.heap.size w1 ww) (by kernel_rfl) hS0 (fun hSA => ?_)
    clear hS0
    generalize hq0 : w1.drew = q0 at *
    clear hq0
    refine wpAnyH_take (i := 0) (v := .string s) rfl (by kernel_rfl) (by kernel_rfl) (by kernel_rfl) (fun _ _ _ h => h) (Or.inl ⟨by kernel_rfl, ?_⟩) (by assumption) ?_
    · intro ww hSw
      clear hSw
      go_simp
      all_goals (try omega)
      all_goals (try assumption)
      all_goals (try rfl)
    try simp only [Act.put, List.setIfInBounds_toArray, List.set_cons_zero, List.set_cons_succ, List.getElem_toArray, List.getElem_cons_succ, List.getElem_cons_zero]
    refine wpAnyH_take (i := 1) (v := .int .i64 (a : Nat)) rfl (by kernel_rfl) (by kernel_rfl) (by kernel_rfl) (fun _ _ _ h => h) (Or.inl ⟨by kernel_rfl, ?_⟩) (by assumption) ?_
    · intro ww hSw
      clear hSw
      go_simp
      all_goals (try omega)
      all_goals (try assumption)
      all_goals (try rfl)
    try simp only [Act.put, List.setIfInBounds_toArray, List.set_cons_zero, List.set_cons_succ, List.getElem_toArray, List.getElem_cons_succ, List.getElem_cons_zero]
    refine wpAnyH_take (i := 2) (v := .string (s.extract a s.size)) rfl (by kernel_rfl) (by kernel_rfl) (by kernel_rfl) (fun _ _ _ h => h) (Or.inl ⟨by kernel_rfl, ?_⟩) (by assumption) ?_
    · intro ww hSw
      clear hSw
      go_simp
      all_goals (try omega)
      all_goals (try assumption)
      all_goals (try rfl)
    try simp only [Act.put, List.setIfInBounds_toArray, List.set_cons_zero, List.set_cons_succ, List.getElem_toArray, List.getElem_cons_succ, List.getElem_cons_zero]
    refine wpAnyH_ready (rs := [3]) (by kernel_rfl) (by simp) ?_
    refine AllReadyH.cons rfl (fun K hK => ?_) AllReadyH.nil
    go_simp
    refine (rends_any _).mono ?_
    rintro e q1 ⟨rfl, hrb, hb1⟩
    have hS1 : (fun ww => Below w1.heap.size w1 ww) q1 := Below.trans hSA (hb1.mono hSA.size)
    refine hK.out _ _ hS1 (fun hT1 => ?_)
    clear hK K
    try simp only [Act.put, List.setIfInBounds_toArray, List.set_cons_zero, List.set_cons_succ, List.getElem_toArray, List.getElem_cons_succ, List.getElem_cons_zero]
    refine wpAnyH_ready (rs := [4]) (by kernel_rfl) (by simp) ?_
    refine AllReadyH.cons rfl (fun K hK => ?_) AllReadyH.nil
    go_simp
    refine (HRE.out _ _ hrb).mono ?_
    rintro e q2 ⟨lA, lc, rfl, hro, hb2⟩
    have hS2 : (fun ww => Below w1.heap.size w1 ww) q2 := Below.trans hS1 (hb2.mono hS1.size)
    refine hK.out _ _ hS2 (fun hT2 => ?_)
    clear hK K hrb
    try simp only [Act.put, List.setIfInBounds_toArray, List.set_cons_zero, List.set_cons_succ, List.getElem_toArray, List.getElem_cons_succ, List.getElem_cons_zero]
    refine wpAnyH_take (i := 5) (v := .slice lA 8 lc) rfl (by kernel_rfl) (by kernel_rfl) (by kernel_rfl) (fun _ _ _ h => h) (Or.inl ⟨by kernel_rfl, ?_⟩) (by assumption) ?_
    · intro ww hSw
      clear hSw
      go_simp
      all_goals (try omega)
      all_goals (try assumption)
      all_goals (try rfl)
    try simp only [Act.put, List.setIfInBounds_toArray, List.set_cons_zero, List.set_cons_succ, List.getElem_toArray, List.getElem_cons_succ, List.getElem_cons_zero]
    have lB := Lib.hid hS2
    have lR := Lib.hid hro
    clear hSA hS1 hT1 hS2 hT2 hb1 hb2 hro
    refine wpAnyH_done (by kernel_rfl) ?_ _
    replace HR := Lib.hid ((lB.out.block _ (lt_of_some HR.out)).trans HR.out)
    replace HB := Lib.hid (HB.out.trans (lB.out.mono HB.out.size))
    obtain ⟨g, rfl⟩ := lR.out.slice (by simp)
    clear lB HRE
    have HWO : Hid (WideOk s a ↔ WideOk s a) := Iff.rfl
    generalize hr1 : nAt s (a + 4) 2 = r1 at *
    generalize hr2 : nAt s (a + 6) 2 = r2 at *
    generalize hr3 : nAt s (a + 8) 2 = r3 at *
    have HR4 : Hid (∃ r4, nAt s (a + 10) 2 = r4) := ⟨_, rfl⟩
    obtain ⟨r4, hr4⟩ := HR4.out
    obtain ⟨r5, hr5⟩ : ∃ r5, nAt s (a + 12) 4 = r5 := ⟨_, rfl⟩
    obtain ⟨r6, hr6⟩ : ∃ r6, nAt s (a + 16) 4 = r6 := ⟨_, rfl⟩
    rw [hr4] at HD1 HD2 HD3 lR
    rw [hr5] at HD2 HD3 lR
    rw [hr6] at HD2 HD3 lR
    have H4 := Lib.hid hr4; have H5 := Lib.hid hr5; have H6 := Lib.hid hr6
    clear hr1 hr2 hr3 hr4 hr5 hr6 HR4 HWO
    have n1 := lR.out.at (i := 1) rfl
    have n2 := lR.out.at (i := 2) rfl
    have n3 := lR.out.at (i := 3) rfl
    have n4 := lR.out.at (i := 4) rfl
    have n5 := lR.out.at (i := 5) rfl
    have n6 := lR.out.at (i := 6) rfl
    go_upto_region 5 with fail
    go_cut [38] from 20 to 38 (fun b wx => b = .bool (!(alB r1 r2 r3 r4)) ∧ ∃ n, wx = q2.drewN n)
    case first =>
      have t0 : (((r1 : Nat) : Int) != 0) = !decide (r1 = 0) := bneL (beqL r1 0)
      have t1 : (((r2 : Nat) : Int) != 0) = !decide (r2 = 0) := bneL (beqL r2 0)
      have t2 : (((r3 : Nat) : Int) != (r4 : Nat)) = !decide (r3 = r4) := bneL (beqN r3 r4)
      have HF : Hid (alB r1 r2 r3 r4 = (decide (r1 = 0) && (decide (r2 = 0) && decide (r3 = r4)))) := rfl
      generalize decide (r1 = 0) = p0 at *
      generalize decide (r2 = 0) = p1 at *
      generalize decide (r3 = r4) = p2 at *
      cases p0 <;> cases p1 <;> cases p2 <;>
      · simp only [Bool.not_true, Bool.not_false] at t0 t1 t2
        go_quiet (fail)
        go_wp2_with fail
        go_meet
        exact ⟨by rw [HF.out]; rfl, _, rfl⟩
    case rest =>
    obtain ⟨rfl, nn5, hwc⟩ := hcut
    subst hwc
    clear n1 n2 n3 n4 n5 n6
    replace HR : Hid ((q2.drewN nn5).heap[w.heap.size]? = some (.cells #[.int .i64 0, .int .u64 0, .int .u64 0, .int .u64 0, .string ⟨#[]⟩, .bool false] 64 (0, 0))) := HR.out
    replace HB : Hid (Below w.heap.size w (q2.drewN nn5)) := below_drewN HB.out nn5
    replace lR := Lib.hid (lR.out.drewN nn5)
    generalize q2.drewN nn5 = q3 at *
    have n4 := lR.out.at (i := 4) rfl
    have n5 := lR.out.at (i := 5) rfl
    have n6 := lR.out.at (i := 6) rfl
    cases hal : alB r1 r2 r3 r4 with
    | false =>
      have HV : Hid (fdV X = .tuple #[.agg #[.int .i64 0, .int .u64 0, .int .u64 0, .int .u64 0, .string ⟨#[]⟩, .bool false], .int .i64 30]) := by show _ = _; rw [HD1.out hal]; rfl
      clear hal
      go_wp2_with (refine wpList_store_row rfl 64 (.tmp 2) (.tmp 39) rfl w.heap.size #[.int .i64 0, .int .u64 0, .int .u64 0, .int .u64 0, .string ⟨#[]⟩, .bool false] rfl rfl 64 #[.int .i64 0, .int .u64 0, .int .u64 0, .int .u64 0, .string ⟨#[]⟩, .bool false] HR.out info_rend rfl (by simp [Value.oneCell']) ?_)
      rw [HV.out]
      exact bodyPost_ret (results_ct_row' rfl _ _ w.heap.size 64 #[.int .i64 0, .int .u64 0, .int .u64 0, .int .u64 0, .string ⟨#[]⟩, .bool false] (0, 0) _ rfl (heap_setRow_same _ _ _ _ _ HR.out) Try.underlying64 rfl info_rend) rfl ⟨rfl, below_setRow HB.out (Nat.le_refl _) _⟩
    | true =>
    have h7a : IntKind.i64.wrap ((a : Int) + 22) = (a : Int) + 22 := by rw [IntKind.wrap_i64]; omega
    have h7b : 0 ≤ (a : Int) + 22 ∧ (a : Int) + 22 ≤ (s.size : Int) := by omega
    have h7c : ((a : Int) + 22).toNat = a + 22 := by omega
    go_upto_region 7 with fail
    have hS0 : (fun ww => ww.cell? ⟨g, 4, none⟩ = some (.int .u64 (r4 : Nat)) ∧ ww.cell? ⟨g, 5, none⟩ = some (.int .u64 (r5 : Nat)) ∧ ww.cell? ⟨g, 6, none⟩ = some (.int .u64 (r6 : Nat)) ∧ Below q3.heap.size q3 ww) q3.drew := ⟨n4, n5, n6, (Below.refl _ _).drew⟩
    refine wp_region_held_drew (S := fun ww => ww.cell? ⟨g, 4, none⟩ = some (.int .u64 (r4 : Nat)) ∧ ww.cell? ⟨g, 5, none⟩ = some (.int .u64 (r5 : Nat)) ∧ ww.cell? ⟨g, 6, none⟩ = some (.int .u64 (r6 : Nat)) ∧ Below q3.heap.size q3 ww) (by kernel_rfl) hS0 (fun hSA => ?_)
    clear hS0
    generalize hqq : q3.drew = q4 at *
    clear hqq
    refine wpAnyH_take (i := 0) (v := .int .i64 (a : Nat)) rfl (by kernel_rfl) (by kernel_rfl) (by kernel_rfl) (fun _ _ _ h => h) (Or.inl ⟨by kernel_rfl, ?_⟩) (by assumption) ?_
    · intro ww hSw
      clear hSw
      go_simp
      all_goals (try omega)
      all_goals (try assumption)
      all_goals (try rfl)
    try simp only [Act.put, List.setIfInBounds_toArray, List.set_cons_zero, List.set_cons_succ, List.getElem_toArray, List.getElem_cons_succ, List.getElem_cons_zero]
    refine wpAnyH_take (i := 1) (v := .slice (some ⟨g, 0, none⟩) 8 lc) rfl (by kernel_rfl) (by kernel_rfl) (by kernel_rfl) (fun _ _ _ h => h) (Or.inl ⟨by kernel_rfl, ?_⟩) (by assumption) ?_
    · intro ww hSw
      clear hSw
      go_simp
      all_goals (try omega)
      all_goals (try assumption)
      all_goals (try rfl)
    try simp only [Act.put, List.setIfInBounds_toArray, List.set_cons_zero, List.set_cons_succ, List.getElem_toArray, List.getElem_cons_succ, List.getElem_cons_zero]
    refine wpAnyH_take (i := 2) (v := .pointer (some ⟨g, 4, none⟩)) rfl (by kernel_rfl) (by kernel_rfl) (by kernel_rfl) (fun _ _ _ h => h) (Or.inl ⟨by kernel_rfl, ?_⟩) (by assumption) ?_
    · intro ww hSw
      clear hSw
      go_simp
      all_goals (try omega)
      all_goals (try assumption)
      all_goals (try rfl)
    try simp only [Act.put, List.setIfInBounds_toArray, List.set_cons_zero, List.set_cons_succ, List.getElem_toArray, List.getElem_cons_succ, List.getElem_cons_zero]
    refine wpAnyH_take (i := 3) (v := .int .u64 (r4 : Nat)) rfl (by kernel_rfl) (by kernel_rfl) (by kernel_rfl) (fun _ _ _ h => h) (Or.inl ⟨by kernel_rfl, ?_⟩) (by assumption) ?_
    · intro ww hSw
      have hcc := hSw.1
      clear hSw
      go_simp
      all_goals (try omega)
      all_goals (try assumption)
      all_goals (try rfl)
    try simp only [Act.put, List.setIfInBounds_toArray, List.set_cons_zero, List.set_cons_succ, List.getElem_toArray, List.getElem_cons_succ, List.getElem_cons_zero]
    refine wpAnyH_take (i := 4) (v := .slice (some ⟨g, 0, none⟩) 8 lc) rfl (by kernel_rfl) (by kernel_rfl) (by kernel_rfl) (fun _ _ _ h => h) (Or.inl ⟨by kernel_rfl, ?_⟩) (by assumption) ?_
    · intro ww hSw
      clear hSw
      go_simp
      all_goals (try omega)
      all_goals (try assumption)
      all_goals (try rfl)
    try simp only [Act.put, List.setIfInBounds_toArray, List.set_cons_zero, List.set_cons_succ, List.getElem_toArray, List.getElem_cons_succ, List.getElem_cons_zero]
    refine wpAnyH_take (i := 5) (v := .pointer (some ⟨g, 5, none⟩)) rfl (by kernel_rfl) (by kernel_rfl) (by kernel_rfl) (fun _ _ _ h => h) (Or.inl ⟨by kernel_rfl, ?_⟩) (by assumption) ?_
    · intro ww hSw
      clear hSw
      go_simp
      all_goals (try omega)
      all_goals (try assumption)
      all_goals (try rfl)
    try simp only [Act.put, List.setIfInBounds_toArray, List.set_cons_zero, List.set_cons_succ, List.getElem_toArray, List.getElem_cons_succ, List.getElem_cons_zero]
    refine wpAnyH_take (i := 6) (v := .int .u64 (r5 : Nat)) rfl (by kernel_rfl) (by kernel_rfl) (by kernel_rfl) (fun _ _ _ h => h) (Or.inl ⟨by kernel_rfl, ?_⟩) (by assumption) ?_
    · intro ww hSw
      have hcc := hSw.2.1
      clear hSw
      go_simp
      all_goals (try omega)
      all_goals (try assumption)
      all_goals (try rfl)
    try simp only [Act.put, List.setIfInBounds_toArray, List.set_cons_zero, List.set_cons_succ, List.getElem_toArray, List.getElem_cons_succ, List.getElem_cons_zero]
    refine wpAnyH_take (i := 7) (v := .slice (some ⟨g, 0, none⟩) 8 lc) rfl (by kernel_rfl) (by kernel_rfl) (by kernel_rfl) (fun _ _ _ h => h) (Or.inl ⟨by kernel_rfl, ?_⟩) (by assumption) ?_
    · intro ww hSw
      clear hSw
      go_simp
      all_goals (try omega)
      all_goals (try assumption)
      all_goals (try rfl)
    try simp only [Act.put, List.setIfInBounds_toArray, List.set_cons_zero, List.set_cons_succ, List.getElem_toArray, List.getElem_cons_succ, List.getElem_cons_zero]
    refine wpAnyH_take (i := 8) (v := .pointer (some ⟨g, 6, none⟩)) rfl (by kernel_rfl) (by kernel_rfl) (by kernel_rfl) (fun _ _ _ h => h) (Or.inl ⟨by kernel_rfl, ?_⟩) (by assumption) ?_
    · intro ww hSw
      clear hSw
      go_simp
      all_goals (try omega)
      all_goals (try assumption)
      all_goals (try rfl)
    try simp only [Act.put, List.setIfInBounds_toArray, List.set_cons_zero, List.set_cons_succ, List.getElem_toArray, List.getElem_cons_succ, List.getElem_cons_zero]
    refine wpAnyH_take (i := 9) (v := .int .u64 (r6 : Nat)) rfl (by kernel_rfl) (by kernel_rfl) (by kernel_rfl) (fun _ _ _ h => h) (Or.inl ⟨by kernel_rfl, ?_⟩) (by assumption) ?_
    · intro ww hSw
      have hcc := hSw.2.2.1
      clear hSw
      go_simp
      all_goals (try omega)
      all_goals (try assumption)
      all_goals (try rfl)
    try simp only [Act.put, List.setIfInBounds_toArray, List.set_cons_zero, List.set_cons_succ, List.getElem_toArray, List.getElem_cons_succ, List.getElem_cons_zero]
    refine wpAnyH_take (i := 10) (v := .string s) rfl (by kernel_rfl) (by kernel_rfl) (by kernel_rfl) (fun _ _ _ h => h) (Or.inl ⟨by kernel_rfl, ?_⟩) (by assumption) ?_
    · intro ww hSw
      clear hSw
      go_simp
      all_goals (try omega)
      all_goals (try assumption)
      all_goals (try rfl)
    try simp only [Act.put, List.setIfInBounds_toArray, List.set_cons_zero, List.set_cons_succ, List.getElem_toArray, List.getElem_cons_succ, List.getElem_cons_zero]
    refine wpAnyH_take (i := 11) (v := .int .i64 (a : Nat)) rfl (by kernel_rfl) (by kernel_rfl) (by kernel_rfl) (fun _ _ _ h => h) (Or.inl ⟨by kernel_rfl, ?_⟩) (by assumption) ?_
    · intro ww hSw
      clear hSw
      go_simp
      all_goals (try omega)
      all_goals (try assumption)
      all_goals (try rfl)
    try simp only [Act.put, List.setIfInBounds_toArray, List.set_cons_zero, List.set_cons_succ, List.getElem_toArray, List.getElem_cons_succ, List.getElem_cons_zero]
    refine wpAnyH_take (i := 12) (v := .int .i64 ((a : Int) + 22)) rfl (by kernel_rfl) (by kernel_rfl) (by kernel_rfl) (fun _ _ _ h => h) (Or.inl ⟨by kernel_rfl, ?_⟩) (by assumption) ?_
    · intro ww hSw
      clear hSw
      go_simp
      all_goals (try omega)
      all_goals (try assumption)
      all_goals (try rfl)
    try simp only [Act.put, List.setIfInBounds_toArray, List.set_cons_zero, List.set_cons_succ, List.getElem_toArray, List.getElem_cons_succ, List.getElem_cons_zero]
    refine wpAnyH_take (i := 13) (v := .string (s.extract (a + 22) s.size)) rfl (by kernel_rfl) (by kernel_rfl) (by kernel_rfl) (fun _ _ _ h => h) (Or.inl ⟨by kernel_rfl, ?_⟩) (by assumption) ?_
    · intro ww hSw
      clear hSw
      go_simp
      all_goals (try omega)
      all_goals (try assumption)
      all_goals (try rfl)
    try simp only [Act.put, List.setIfInBounds_toArray, List.set_cons_zero, List.set_cons_succ, List.getElem_toArray, List.getElem_cons_succ, List.getElem_cons_zero]
    refine wpAnyH_take (i := 14) (v := .agg #[.int .i64 (a : Nat), .int .u64 (r4 : Nat), .int .u64 (r5 : Nat), .int .u64 (r6 : Nat), .string (s.extract (a + 22) s.size), .bool false]) rfl (by kernel_rfl) (by kernel_rfl) (by kernel_rfl) (fun _ _ _ h => h) (Or.inl ⟨by kernel_rfl, ?_⟩) (by assumption) ?_
    · intro ww hSw
      clear hSw
      go_simp
      all_goals (try omega)
      all_goals (try assumption)
      all_goals (try rfl)
    try simp only [Act.put, List.setIfInBounds_toArray, List.set_cons_zero, List.set_cons_succ, List.getElem_toArray, List.getElem_cons_succ, List.getElem_cons_zero]
    refine wpAnyH_ready (rs := [15]) (by kernel_rfl) (by simp) ?_
    refine AllReadyH.cons rfl (fun K hK => ?_) AllReadyH.nil
    go_simp
    have hbb : Below q4.heap.size q4 (q4.alloc (.cells #[.int .i64 0, .int .u64 0, .int .u64 0, .int .u64 0, .string ⟨#[]⟩, .bool false] 64)) := (Below.refl _ _).alloc (Nat.le_refl _) _
    have hcl : ∀ i v, q4.cell? ⟨g, i, none⟩ = some v → (q4.alloc (.cells #[.int .i64 0, .int .u64 0, .int .u64 0, .int .u64 0, .string ⟨#[]⟩, .bool false] 64)).cell? ⟨g, i, none⟩ = some v := fun i v h => (hbb.cell (p := ⟨g, i, none⟩) (World.block_lt_of_cell? _ _ h)).trans h
    have hS1 : (fun ww => ww.cell? ⟨g, 4, none⟩ = some (.int .u64 (r4 : Nat)) ∧ ww.cell? ⟨g, 5, none⟩ = some (.int .u64 (r5 : Nat)) ∧ ww.cell? ⟨g, 6, none⟩ = some (.int .u64 (r6 : Nat)) ∧ Below q3.heap.size q3 ww) (q4.alloc (.cells #[.int .i64 0, .int .u64 0, .int .u64 0, .int .u64 0, .string ⟨#[]⟩, .bool false] 64)) := ⟨hcl _ _ hSA.1, hcl _ _ hSA.2.1, hcl _ _ hSA.2.2.1, hSA.2.2.2.trans (hbb.mono hSA.2.2.2.size)⟩
    have HN : Hid ((q4.alloc (.cells #[.int .i64 0, .int .u64 0, .int .u64 0, .int .u64 0, .string ⟨#[]⟩, .bool false] 64)).heap[q4.heap.size]? = some (.cells #[.int .i64 0, .int .u64 0, .int .u64 0, .int .u64 0, .string ⟨#[]⟩, .bool false] 64 (0, 0))) := heap_alloc_new _ _
    have HLE : Hid (q3.heap.size ≤ q4.heap.size) := hSA.2.2.2.size
    have HGE : Hid (g < q4.heap.size) := World.block_lt_of_cell? _ _ hSA.1
    refine hK.out _ _ hS1 (fun hT1 => ?_)
    clear hK K hbb hcl
    try simp only [Act.put, List.setIfInBounds_toArray, List.set_cons_zero, List.set_cons_succ, List.getElem_toArray, List.getElem_cons_succ, List.getElem_cons_zero]
    generalize q4.alloc (.cells #[.int .i64 0, .int .u64 0, .int .u64 0, .int .u64 0, .string ⟨#[]⟩, .bool false] 64) = q5 at *
    generalize q4.heap.size = ge at *
    refine wpAnyH_ready (rs := [16]) (by kernel_rfl) (by simp) ?_
    refine AllReadyH.cons rfl (fun K hK => ?_) AllReadyH.nil
    rw [if_pos (by rfl)]
    refine wp_store_row 64 (.tmp 6) (.tmp 54) rfl ge #[.int .i64 (a : Nat), .int .u64 (r4 : Nat), .int .u64 (r5 : Nat), .int .u64 (r6 : Nat), .string (s.extract (a + 22) s.size), .bool false] rfl rfl 64 #[.int .i64 0, .int .u64 0, .int .u64 0, .int .u64 0, .string ⟨#[]⟩, .bool false] HN.out info_rend rfl (by simp [Value.oneCell']) ?_
    have hco : ∀ i v, q5.cell? ⟨g, i, none⟩ = some v → (q5.setRow ge #[.int .i64 (a : Nat), .int .u64 (r4 : Nat), .int .u64 (r5 : Nat), .int .u64 (r6 : Nat), .string (s.extract (a + 22) s.size), .bool false]).cell? ⟨g, i, none⟩ = some v := fun i v h => (cell_setRow_other _ _ _ _ (by show g ≠ ge; have := HGE.out; omega)).trans h
    have hS2 : (fun ww => ww.cell? ⟨g, 4, none⟩ = some (.int .u64 (r4 : Nat)) ∧ ww.cell? ⟨g, 5, none⟩ = some (.int .u64 (r5 : Nat)) ∧ ww.cell? ⟨g, 6, none⟩ = some (.int .u64 (r6 : Nat)) ∧ Below q3.heap.size q3 ww) (q5.setRow ge #[.int .i64 (a : Nat), .int .u64 (r4 : Nat), .int .u64 (r5 : Nat), .int .u64 (r6 : Nat), .string (s.extract (a + 22) s.size), .bool false]) := ⟨hco _ _ hS1.1, hco _ _ hS1.2.1, hco _ _ hS1.2.2.1, below_setRow hS1.2.2.2 HLE.out _⟩
    refine hK.out _ _ hS2 (fun hT2 => ?_)
    clear hK K
    try simp only [Act.put, List.setIfInBounds_toArray, List.set_cons_zero, List.set_cons_succ, List.getElem_toArray, List.getElem_cons_succ, List.getElem_cons_zero]
    have HE : Hid ((q5.setRow ge #[.int .i64 (a : Nat), .int .u64 (r4 : Nat), .int .u64 (r5 : Nat), .int .u64 (r6 : Nat), .string (s.extract (a + 22) s.size), .bool false]).heap[ge]? = some (.cells #[.int .i64 (a : Nat), .int .u64 (r4 : Nat), .int .u64 (r5 : Nat), .int .u64 (r6 : Nat), .string (s.extract (a + 22) s.size), .bool false] 64 (0, 0))) := heap_setRow_same _ _ _ _ _ HN.out
    have HQ := Lib.hid hS2.2.2.2
    refine wpAnyH_done (by kernel_rfl) ?_ _
    clear hSA hS1 hT1 hS2 hT2 hco HN HLE HGE n4 n5 n6
    generalize q5.setRow ge #[.int .i64 (a : Nat), .int .u64 (r4 : Nat), .int .u64 (r5 : Nat), .int .u64 (r6 : Nat), .string (s.extract (a + 22) s.size), .bool false] = q6 at *
    replace HR := Lib.hid ((HQ.out.block _ (lt_of_some HR.out)).trans HR.out)
    replace HB := Lib.hid (HB.out.trans (HQ.out.mono HB.out.size))
    replace lR := Lib.hid (lR.out.below HQ.out)
    clear HQ
    have n4 := lR.out.at (i := 4) rfl
    have n5 := lR.out.at (i := 5) rfl
    have n6 := lR.out.at (i := 6) rfl
    go_upto_region 8 with fail
    go_cut [70] from 55 to 70 (fun b wx => b = .bool (!(asB r4 r5 r6)) ∧ ∃ n, wx = q6.drewN n)
    case first =>
      have t0 : (((r4 : Nat) : Int) != 65535) = !decide (r4 = 65535) := bneL (beqL r4 65535)
      have t1 : (((r5 : Nat) : Int) != 4294967295) = !decide (r5 = 4294967295) := bneL (beqL r5 4294967295)
      have t2 : (((r6 : Nat) : Int) != 4294967295) = !decide (r6 = 4294967295) := bneL (beqL r6 4294967295)
      have HF : Hid (asB r4 r5 r6 = (decide (r4 = 65535) || (decide (r5 = 4294967295) || decide (r6 = 4294967295)))) := rfl
      generalize decide (r4 = 65535) = p0 at *
      generalize decide (r5 = 4294967295) = p1 at *
      generalize decide (r6 = 4294967295) = p2 at *
      cases p0 <;> cases p1 <;> cases p2 <;>
      · simp only [Bool.not_true, Bool.not_false] at t0 t1 t2
        go_wp2_with fail
        go_meet
        exact ⟨by rw [HF.out]; rfl, 0, rfl⟩
    case rest =>
    obtain ⟨rfl, nn8, hwc⟩ := hcut
    subst hwc
    clear n4 n5 n6
    replace HR : Hid ((q6.drewN nn8).heap[w.heap.size]? = some (.cells #[.int .i64 0, .int .u64 0, .int .u64 0, .int .u64 0, .string ⟨#[]⟩, .bool false] 64 (0, 0))) := HR.out
    replace HB : Hid (Below w.heap.size w (q6.drewN nn8)) := below_drewN HB.out nn8
    replace lR := Lib.hid (lR.out.drewN nn8)
    replace HE : Hid ((q6.drewN nn8).heap[ge]? = some (.cells #[.int .i64 (a : Nat), .int .u64 (r4 : Nat), .int .u64 (r5 : Nat), .int .u64 (r6 : Nat), .string (s.extract (a + 22) s.size), .bool false] 64 (0, 0))) := HE.out
    generalize q6.drewN nn8 = q7 at *
    cases has : asB r4 r5 r6 with
    | false =>
      have HV : Hid (fdV X = .tuple #[.agg #[.int .i64 (a : Nat), .int .u64 (r4 : Nat), .int .u64 (r5 : Nat), .int .u64 (r6 : Nat), .string (s.extract (a + 22) s.size), .bool false], .int .i64 0]) := by show _ = _; rw [HD2.out hal has]; rfl
      clear hal has
      go_wp2_with (first | (refine wpList_load_row rfl 64 (.tmp 6) rfl ge rfl 64 _ (0, 0) _ HE.out Try.underlying64 rfl info_rend ?_) | (refine wpList_store_row rfl 64 (.tmp 2) (.tmp 71) rfl w.heap.size #[.int .i64 (a : Nat), .int .u64 (r4 : Nat), .int .u64 (r5 : Nat), .int .u64 (r6 : Nat), .string (s.extract (a + 22) s.size), .bool false] rfl rfl 64 #[.int .i64 0, .int .u64 0, .int .u64 0, .int .u64 0, .string ⟨#[]⟩, .bool false] HR.out info_rend rfl (by simp [Value.oneCell']) ?_))
      rw [HV.out]
      exact bodyPost_ret (results_ct_row' rfl _ _ w.heap.size 64 #[.int .i64 (a : Nat), .int .u64 (r4 : Nat), .int .u64 (r5 : Nat), .int .u64 (r6 : Nat), .string (s.extract (a + 22) s.size), .bool false] (0, 0) _ rfl (heap_setRow_same _ _ _ _ _ HR.out) Try.underlying64 rfl info_rend) rfl ⟨rfl, below_setRow HB.out (Nat.le_refl _) _⟩
    | true =>
    have HD := Lib.hid (HD3.out hal has)
    clear hal has HD1 HD2 HD3
    
    by_cases h20 : 20 ≤ a
    case neg =>
      have hlt : (a : Int) < 20 := by omega
      have hltd : decide ((a : Int) < 20) = true := decide_eq_true hlt
      have HN : Hid (¬ WideOk s a) := fun h => h20 h.1
      clear h20
      have HV : Hid (fdV X = .tuple #[.agg #[.int .i64 0, .int .u64 0, .int .u64 0, .int .u64 0, .string ⟨#[]⟩, .bool false], .int .i64 31]) := by show _ = _; rw [HD.out.2 (HN.out)]; rfl
      go_wp2_with (refine wpList_store_row rfl 64 (.tmp 2) (.tmp 74) rfl w.heap.size #[.int .i64 0, .int .u64 0, .int .u64 0, .int .u64 0, .string ⟨#[]⟩, .bool false] rfl rfl 64 #[.int .i64 0, .int .u64 0, .int .u64 0, .int .u64 0, .string ⟨#[]⟩, .bool false] HR.out info_rend rfl (by simp [Value.oneCell']) ?_)
      rw [HV.out]
      exact bodyPost_ret (results_ct_row' rfl _ _ w.heap.size 64 #[.int .i64 0, .int .u64 0, .int .u64 0, .int .u64 0, .string ⟨#[]⟩, .bool false] (0, 0) _ rfl (heap_setRow_same _ _ _ _ _ HR.out) Try.underlying64 rfl info_rend) rfl ⟨rfl, below_setRow HB.out (Nat.le_refl _) _⟩
    case pos =>
    have hge : ¬ ((a : Int) < 20) := by omega
    have hged : decide ((a : Int) < 20) = false := decide_eq_false hge
    obtain ⟨L, hL⟩ : ∃ L, a - 20 = L := ⟨_, rfl⟩
    have hLs : L ≤ s.size := by omega
    have h12a : IntKind.i64.wrap ((a : Int) - 20) = (L : Int) := by rw [IntKind.wrap_i64]; omega
    have h12b : 0 ≤ (L : Int) ∧ (L : Int) ≤ (s.size : Int) := by omega
    have h12c : ((L : Int)).toNat = L := by omega
    have hts : (s.extract L s.size).size = s.size - L := by rw [ByteArray.size_extract]; omega
    have HRL := Lib.hid (fun g w hr => rowLo (s.extract L s.size) (by omega) (by omega) g w hr)
    simp only [nAt_from, Nat.add_zero] at HRL
    obtain ⟨c0, hc0⟩ : ∃ c, nAt s L 4 = c := ⟨_, rfl⟩
    obtain ⟨c1, hc1⟩ : ∃ c, nAt s (L + 4) 4 = c := ⟨_, rfl⟩
    obtain ⟨c2, hc2⟩ : ∃ c, nAt s (L + 8) 8 = c := ⟨_, rfl⟩
    obtain ⟨c3, hc3⟩ : ∃ c, nAt s (L + 16) 4 = c := ⟨_, rfl⟩
    rw [hc0, hc1, hc2, hc3] at HRL
    have HC2 : Hid (c2 < 18446744073709551616) := by show _ < _; rw [← hc2]; exact nAt_lt _ _ _
    obtain ⟨d0, hd0⟩ : ∃ c, nAt s c2 4 = c := ⟨_, rfl⟩
    obtain ⟨d1, hd1⟩ : ∃ c, nAt s (c2 + 4) 8 = c := ⟨_, rfl⟩
    obtain ⟨d4, hd4⟩ : ∃ c, nAt s (c2 + 16) 4 = c := ⟨_, rfl⟩
    obtain ⟨d5, hd5⟩ : ∃ c, nAt s (c2 + 20) 4 = c := ⟨_, rfl⟩
    obtain ⟨d6, hd6⟩ : ∃ c, nAt s (c2 + 24) 8 = c := ⟨_, rfl⟩
    obtain ⟨d7, hd7⟩ : ∃ c, nAt s (c2 + 32) 8 = c := ⟨_, rfl⟩
    obtain ⟨d8, hd8⟩ : ∃ c, nAt s (c2 + 40) 8 = c := ⟨_, rfl⟩
    obtain ⟨d9, hd9⟩ : ∃ c, nAt s (c2 + 48) 8 = c := ⟨_, rfl⟩
    have HWD : Hid (WideOk s a ↔ ((c0 = 117853008 ∧ c1 = 0 ∧ c3 = 1 ∧ c2 ≤ L) ∧ 56 ≤ L - c2 ∧ (d0 = 101075792 ∧ d1 = L - c2 - 12) ∧ alB d4 d5 d6 d7 = true ∧ agB r4 r5 r6 d7 d8 d9 = true)) := by
      show _ ↔ _
      unfold WideOk
      rw [hL, H4.out, H5.out, H6.out, hc0, hc1, hc2, hc3, hd0, hd1, hd4, hd5, hd6, hd7, hd8, hd9]
      exact ⟨fun h => h.2, fun h => ⟨h20, h⟩⟩
    have HDW := HD.out
    rw [hL, hc2, hd7, hd8, hd9] at HDW
    replace HD := Lib.hid HDW
    clear HDW
    have HRW0 : Hid (c2 + 56 ≤ s.size → ∀ (g : Nat) (w : World), RdI w .i64 (some ⟨g, 0, none⟩) wsW → Calls Try.prog 41 #[.string (s.extract c2 s.size), .slice (some ⟨g, 0, none⟩) 10 10] w fun e w' => ∃ A2 k2, e = .returned (.slice A2 10 k2) ∧ RdI w' .u64 A2 [d0, d1, nAt s (c2 + 12) 2, nAt s (c2 + 14) 2, d4, d5, d6, d7, d8, d9] ∧ Below w.heap.size w w') := fun h g w hr => by
      have hz : (s.extract c2 s.size).size = s.size - c2 := by rw [ByteArray.size_extract]; omega
      have hh := rowW (s.extract c2 s.size) (by omega) (by omega) g w hr
      simp only [nAt_from, Nat.add_zero] at hh
      rw [hd0, hd1, hd4, hd5, hd6, hd7, hd8, hd9] at hh
      exact hh
    have HL := Lib.hid hL
    clear hL hts hc0 hc1 hc2 hc3 hd0 hd1 hd4 hd5 hd6 hd7 hd8 hd9 H4 H5 H6 h20
    go_upto_region 12 with fail
    have hS0 : (fun ww => Below q7.heap.size q7 ww) q7.drew := (Below.refl _ _).drew
    refine wp_region_held_drew (S := fun ww => Below q7.heap.size q7 ww) (by kernel_rfl) hS0 (fun hSA => ?_)
    clear hS0
    generalize hq0 : q7.drew = q0 at *
    clear hq0
    refine wpAnyH_take (i := 0) (v := .string s) rfl (by kernel_rfl) (by kernel_rfl) (by kernel_rfl) (fun _ _ _ h => h) (Or.inl ⟨by kernel_rfl, ?_⟩) (by assumption) ?_
    · intro ww hSw
      clear hSw
      go_simp
      all_goals (try omega)
      all_goals (try assumption)
      all_goals (try rfl)
    try simp only [Act.put, List.setIfInBounds_toArray, List.set_cons_zero, List.set_cons_succ, List.getElem_toArray, List.getElem_cons_succ, List.getElem_cons_zero]
    refine wpAnyH_take (i := 1) (v := .int .i64 (a : Nat)) rfl (by kernel_rfl) (by kernel_rfl) (by kernel_rfl) (fun _ _ _ h => h) (Or.inl ⟨by kernel_rfl, ?_⟩) (by assumption) ?_
    · intro ww hSw
      clear hSw
      go_simp
      all_goals (try omega)
      all_goals (try assumption)
      all_goals (try rfl)
    try simp only [Act.put, List.setIfInBounds_toArray, List.set_cons_zero, List.set_cons_succ, List.getElem_toArray, List.getElem_cons_succ, List.getElem_cons_zero]
    refine wpAnyH_take (i := 2) (v := .int .i64 (L : Nat)) rfl (by kernel_rfl) (by kernel_rfl) (by kernel_rfl) (fun _ _ _ h => h) (Or.inl ⟨by kernel_rfl, ?_⟩) (by assumption) ?_
    · intro ww hSw
      clear hSw
      go_simp
      all_goals (try omega)
      all_goals (try assumption)
      all_goals (try rfl)
    try simp only [Act.put, List.setIfInBounds_toArray, List.set_cons_zero, List.set_cons_succ, List.getElem_toArray, List.getElem_cons_succ, List.getElem_cons_zero]
    refine wpAnyH_take (i := 3) (v := .string (s.extract L s.size)) rfl (by kernel_rfl) (by kernel_rfl) (by kernel_rfl) (fun _ _ _ h => h) (Or.inl ⟨by kernel_rfl, ?_⟩) (by assumption) ?_
    · intro ww hSw
      clear hSw
      go_simp
      all_goals (try omega)
      all_goals (try assumption)
      all_goals (try rfl)
    try simp only [Act.put, List.setIfInBounds_toArray, List.set_cons_zero, List.set_cons_succ, List.getElem_toArray, List.getElem_cons_succ, List.getElem_cons_zero]
    refine wpAnyH_ready (rs := [4]) (by kernel_rfl) (by simp) ?_
    refine AllReadyH.cons rfl (fun K hK => ?_) AllReadyH.nil
    go_simp
    refine (rlocators_any _).mono ?_
    rintro e q1 ⟨rfl, hrb, hb1⟩
    have hS1 : (fun ww => Below q7.heap.size q7 ww) q1 := Below.trans hSA (hb1.mono hSA.size)
    refine hK.out _ _ hS1 (fun hT1 => ?_)
    clear hK K
    try simp only [Act.put, List.setIfInBounds_toArray, List.set_cons_zero, List.set_cons_succ, List.getElem_toArray, List.getElem_cons_succ, List.getElem_cons_zero]
    refine wpAnyH_ready (rs := [5]) (by kernel_rfl) (by simp) ?_
    refine AllReadyH.cons rfl (fun K hK => ?_) AllReadyH.nil
    go_simp
    refine (HRL.out _ _ hrb).mono ?_
    rintro e q2 ⟨mA, mc, rfl, hro, hb2⟩
    have hS2 : (fun ww => Below q7.heap.size q7 ww) q2 := Below.trans hS1 (hb2.mono hS1.size)
    refine hK.out _ _ hS2 (fun hT2 => ?_)
    clear hK K hrb
    try simp only [Act.put, List.setIfInBounds_toArray, List.set_cons_zero, List.set_cons_succ, List.getElem_toArray, List.getElem_cons_succ, List.getElem_cons_zero]
    refine wpAnyH_take (i := 6) (v := .slice mA 4 mc) rfl (by kernel_rfl) (by kernel_rfl) (by kernel_rfl) (fun _ _ _ h => h) (Or.inl ⟨by kernel_rfl, ?_⟩) (by assumption) ?_
    · intro ww hSw
      clear hSw
      go_simp
      all_goals (try omega)
      all_goals (try assumption)
      all_goals (try rfl)
    try simp only [Act.put, List.setIfInBounds_toArray, List.set_cons_zero, List.set_cons_succ, List.getElem_toArray, List.getElem_cons_succ, List.getElem_cons_zero]
    have mB := Lib.hid hS2
    have mR := Lib.hid hro
    clear hSA hS1 hT1 hS2 hT2 hb1 hb2 hro
    refine wpAnyH_done (by kernel_rfl) ?_ _
    replace HR := Lib.hid ((mB.out.block _ (lt_of_some HR.out)).trans HR.out)
    replace HE := Lib.hid ((mB.out.block _ (lt_of_some HE.out)).trans HE.out)
    replace HB := Lib.hid (HB.out.trans (mB.out.mono HB.out.size))
    replace lR := Lib.hid (lR.out.below mB.out)
    obtain ⟨mg, rfl⟩ := mR.out.slice (by simp)
    clear mB HRL h12b h12c
    generalize q2 = q8 at *
    have m0 := mR.out.at (i := 0) rfl
    have m1 := mR.out.at (i := 1) rfl
    have m2 := mR.out.at (i := 2) rfl
    have m3 := mR.out.at (i := 3) rfl
    
    obtain ⟨M, hM⟩ : ∃ M, M = (decide (c0 = 117853008) && (decide (c1 = 0) && (decide (c3 = 1) && decide (c2 ≤ L)))) := ⟨_, rfl⟩
    have HM := Lib.hid hM
    clear hM
    have HC : Hid (IntKind.u64.wrap (L : Int) = (L : Int)) := by show _ = _; rw [IntKind.wrap_u64]; have := HL.out; omega
    go_upto_region 13 with fail
    go_cut [105] from 81 to 105 (fun b wx => b = .bool (!M) ∧ ∃ n, wx = q8.drewN n)
    case first =>
      have t0 : (((c0 : Nat) : Int) != 117853008) = !decide (c0 = 117853008) := bneL (beqL c0 117853008)
      have t1 : (((c1 : Nat) : Int) != 0) = !decide (c1 = 0) := bneL (beqL c1 0)
      have t2 : (((c3 : Nat) : Int) != 1) = !decide (c3 = 1) := bneL (beqL c3 1)
      have t3 : decide (L < c2) = !decide (c2 ≤ L) := by rw [Bool.eq_iff_iff]; simp
      replace HM := Lib.hid HM.out
      generalize decide (c0 = 117853008) = p0 at *
      generalize decide (c1 = 0) = p1 at *
      generalize decide (c3 = 1) = p2 at *
      generalize decide (c2 ≤ L) = p3 at *
      have hC := HC.out
      cases p0 with
      | false =>
        simp only [Bool.not_true, Bool.not_false] at t0 t1 t2 t3
        go_wp2_with fail
        go_meet
        exact ⟨by rw [HM.out]; rfl, 0, rfl⟩
      | true =>
        cases p1 with
        | false =>
          simp only [Bool.not_true, Bool.not_false] at t0 t1 t2 t3
          go_wp2_with fail
          go_meet
          exact ⟨by rw [HM.out]; rfl, 0, rfl⟩
        | true =>
          cases p2 with
          | false =>
            simp only [Bool.not_true, Bool.not_false] at t0 t1 t2 t3
            go_wp2_with fail
            go_meet
            exact ⟨by rw [HM.out]; rfl, 0, rfl⟩
          | true =>
            cases p3 with
            | false =>
              simp only [Bool.not_true, Bool.not_false] at t0 t1 t2 t3
              go_wp2_with fail
              go_meet
              exact ⟨by rw [HM.out]; rfl, 0, rfl⟩
            | true =>
              simp only [Bool.not_true, Bool.not_false] at t0 t1 t2 t3
              go_wp2_with fail
              go_meet
              exact ⟨by rw [HM.out]; rfl, 0, rfl⟩
    case rest =>
    obtain ⟨rfl, nn13, hwc⟩ := hcut
    subst hwc
    clear m0 m1 m2 m3 HC
    replace HR : Hid ((q8.drewN nn13).heap[w.heap.size]? = some (.cells #[.int .i64 0, .int .u64 0, .int .u64 0, .int .u64 0, .string ⟨#[]⟩, .bool false] 64 (0, 0))) := HR.out
    replace HB : Hid (Below w.heap.size w (q8.drewN nn13)) := below_drewN HB.out nn13
    replace lR := Lib.hid (lR.out.drewN nn13)
    replace mR := Lib.hid (mR.out.drewN nn13)
    replace HE : Hid ((q8.drewN nn13).heap[ge]? = some (.cells #[.int .i64 (a : Nat), .int .u64 (r4 : Nat), .int .u64 (r5 : Nat), .int .u64 (r6 : Nat), .string (s.extract (a + 22) s.size), .bool false] 64 (0, 0))) := HE.out
    generalize q8.drewN nn13 = q9 at *
    have HMF : Hid (M = true → c0 = 117853008 ∧ c1 = 0 ∧ c3 = 1 ∧ c2 ≤ L) := fun h => by rw [HM.out] at h; simpa using h
    have HMT : Hid (c0 = 117853008 ∧ c1 = 0 ∧ c3 = 1 ∧ c2 ≤ L → M = true) := fun h => by rw [HM.out]; simpa using h
    clear HM
    cases M with
    | false =>
      have HN := Lib.hid (show ¬ _ from fun h => Bool.noConfusion (HMT.out (HWD.out.1 h).1))
      have HV : Hid (fdV X = .tuple #[.agg #[.int .i64 0, .int .u64 0, .int .u64 0, .int .u64 0, .string ⟨#[]⟩, .bool false], .int .i64 31]) := by show _ = _; rw [HD.out.2 (HN.out)]; rfl
      go_wp2_with (refine wpList_store_row rfl 64 (.tmp 2) (.tmp 106) rfl w.heap.size #[.int .i64 0, .int .u64 0, .int .u64 0, .int .u64 0, .string ⟨#[]⟩, .bool false] rfl rfl 64 #[.int .i64 0, .int .u64 0, .int .u64 0, .int .u64 0, .string ⟨#[]⟩, .bool false] HR.out info_rend rfl (by simp [Value.oneCell']) ?_)
      rw [HV.out]
      exact bodyPost_ret (results_ct_row' rfl _ _ w.heap.size 64 #[.int .i64 0, .int .u64 0, .int .u64 0, .int .u64 0, .string ⟨#[]⟩, .bool false] (0, 0) _ rfl (heap_setRow_same _ _ _ _ _ HR.out) Try.underlying64 rfl info_rend) rfl ⟨rfl, below_setRow HB.out (Nat.le_refl _) _⟩
    | true =>
    have HP := Lib.hid (HMF.out rfl)
    clear HMF HMT
    have hcl : c2 ≤ L := HP.out.2.2.2
    obtain ⟨D, hD⟩ : ∃ D, L - c2 = D := ⟨_, rfl⟩
    have m2 := mR.out.at (i := 2) rfl
    have h15 : IntKind.i64.wrap (c2 : Int) = (c2 : Int) := by rw [IntKind.wrap_i64]; omega
    have h16 : IntKind.i64.wrap ((L : Int) - (c2 : Int)) = (D : Int) := by rw [IntKind.wrap_i64]; omega
    rw [hD] at HWD
    have HDD := Lib.hid hD
    clear hD hcl
    by_cases h56 : 56 ≤ D
    case neg =>
      have hlt : (D : Int) < 56 := by omega
      have HN : Hid (¬ WideOk s a) := fun h => h56 (HWD.out.1 h).2.1
      clear h56
      have HV : Hid (fdV X = .tuple #[.agg #[.int .i64 0, .int .u64 0, .int .u64 0, .int .u64 0, .string ⟨#[]⟩, .bool false], .int .i64 31]) := by show _ = _; rw [HD.out.2 (HN.out)]; rfl
      go_wp2_with (refine wpList_store_row rfl 64 (.tmp 2) (.tmp 116) rfl w.heap.size #[.int .i64 0, .int .u64 0, .int .u64 0, .int .u64 0, .string ⟨#[]⟩, .bool false] rfl rfl 64 #[.int .i64 0, .int .u64 0, .int .u64 0, .int .u64 0, .string ⟨#[]⟩, .bool false] HR.out info_rend rfl (by simp [Value.oneCell']) ?_)
      rw [HV.out]
      exact bodyPost_ret (results_ct_row' rfl _ _ w.heap.size 64 #[.int .i64 0, .int .u64 0, .int .u64 0, .int .u64 0, .string ⟨#[]⟩, .bool false] (0, 0) _ rfl (heap_setRow_same _ _ _ _ _ HR.out) Try.underlying64 rfl info_rend) rfl ⟨rfl, below_setRow HB.out (Nat.le_refl _) _⟩
    case pos =>
    have hnl : ¬ ((D : Int) < 56) := by omega
    have hc56 : c2 + 56 ≤ s.size := by have := HDD.out; omega
    have h18b : 0 ≤ (c2 : Int) ∧ (c2 : Int) ≤ (s.size : Int) := by omega
    have h18c : ((c2 : Int)).toNat = c2 := by omega
    have HRW := Lib.hid (HRW0.out hc56)
    clear HRW0 hc56
    go_upto_region 18 with fail
    have hS0 : (fun ww => Below q9.heap.size q9 ww) q9.drew := (Below.refl _ _).drew
    refine wp_region_held_drew (S := fun ww => Below q9.heap.size q9 ww) (by kernel_rfl) hS0 (fun hSA => ?_)
    clear hS0
    generalize hq0 : q9.drew = q0 at *
    clear hq0
    refine wpAnyH_take (i := 0) (v := .string s) rfl (by kernel_rfl) (by kernel_rfl) (by kernel_rfl) (fun _ _ _ h => h) (Or.inl ⟨by kernel_rfl, ?_⟩) (by assumption) ?_
    · intro ww hSw
      clear hSw
      go_simp
      all_goals (try omega)
      all_goals (try assumption)
      all_goals (try rfl)
    try simp only [Act.put, List.setIfInBounds_toArray, List.set_cons_zero, List.set_cons_succ, List.getElem_toArray, List.getElem_cons_succ, List.getElem_cons_zero]
    refine wpAnyH_take (i := 1) (v := .int .i64 (c2 : Nat)) rfl (by kernel_rfl) (by kernel_rfl) (by kernel_rfl) (fun _ _ _ h => h) (Or.inl ⟨by kernel_rfl, ?_⟩) (by assumption) ?_
    · intro ww hSw
      clear hSw
      go_simp
      all_goals (try omega)
      all_goals (try assumption)
      all_goals (try rfl)
    try simp only [Act.put, List.setIfInBounds_toArray, List.set_cons_zero, List.set_cons_succ, List.getElem_toArray, List.getElem_cons_succ, List.getElem_cons_zero]
    refine wpAnyH_take (i := 2) (v := .string (s.extract c2 s.size)) rfl (by kernel_rfl) (by kernel_rfl) (by kernel_rfl) (fun _ _ _ h => h) (Or.inl ⟨by kernel_rfl, ?_⟩) (by assumption) ?_
    · intro ww hSw
      clear hSw
      go_simp
      all_goals (try omega)
      all_goals (try assumption)
      all_goals (try rfl)
    try simp only [Act.put, List.setIfInBounds_toArray, List.set_cons_zero, List.set_cons_succ, List.getElem_toArray, List.getElem_cons_succ, List.getElem_cons_zero]
    refine wpAnyH_ready (rs := [3]) (by kernel_rfl) (by simp) ?_
    refine AllReadyH.cons rfl (fun K hK => ?_) AllReadyH.nil
    go_simp
    refine (rwides_any _).mono ?_
    rintro e q1 ⟨rfl, hrb, hb1⟩
    have hS1 : (fun ww => Below q9.heap.size q9 ww) q1 := Below.trans hSA (hb1.mono hSA.size)
    refine hK.out _ _ hS1 (fun hT1 => ?_)
    clear hK K
    try simp only [Act.put, List.setIfInBounds_toArray, List.set_cons_zero, List.set_cons_succ, List.getElem_toArray, List.getElem_cons_succ, List.getElem_cons_zero]
    refine wpAnyH_ready (rs := [4]) (by kernel_rfl) (by simp) ?_
    refine AllReadyH.cons rfl (fun K hK => ?_) AllReadyH.nil
    go_simp
    refine (HRW.out _ _ hrb).mono ?_
    rintro e q2 ⟨dA, dc, rfl, hro, hb2⟩
    have hS2 : (fun ww => Below q9.heap.size q9 ww) q2 := Below.trans hS1 (hb2.mono hS1.size)
    refine hK.out _ _ hS2 (fun hT2 => ?_)
    clear hK K hrb
    try simp only [Act.put, List.setIfInBounds_toArray, List.set_cons_zero, List.set_cons_succ, List.getElem_toArray, List.getElem_cons_succ, List.getElem_cons_zero]
    refine wpAnyH_take (i := 5) (v := .slice dA 10 dc) rfl (by kernel_rfl) (by kernel_rfl) (by kernel_rfl) (fun _ _ _ h => h) (Or.inl ⟨by kernel_rfl, ?_⟩) (by assumption) ?_
    · intro ww hSw
      clear hSw
      go_simp
      all_goals (try omega)
      all_goals (try assumption)
      all_goals (try rfl)
    try simp only [Act.put, List.setIfInBounds_toArray, List.set_cons_zero, List.set_cons_succ, List.getElem_toArray, List.getElem_cons_succ, List.getElem_cons_zero]
    have dB := Lib.hid hS2
    have dR := Lib.hid hro
    clear hSA hS1 hT1 hS2 hT2 hb1 hb2 hro
    refine wpAnyH_done (by kernel_rfl) ?_ _
    replace HR := Lib.hid ((dB.out.block _ (lt_of_some HR.out)).trans HR.out)
    replace HE := Lib.hid ((dB.out.block _ (lt_of_some HE.out)).trans HE.out)
    replace HB := Lib.hid (HB.out.trans (dB.out.mono HB.out.size))
    replace lR := Lib.hid (lR.out.below dB.out)
    obtain ⟨dg, rfl⟩ := dR.out.slice (by simp)
    clear dB HRW h18b h18c m2 mR h15 hnl
    generalize q2 = q10 at *
    obtain ⟨E, hE⟩ : ∃ E, D - 12 = E := ⟨_, rfl⟩
    have h19a : IntKind.i64.wrap ((D : Int) - 12) = (E : Int) := by rw [IntKind.wrap_i64]; have := HDD.out; omega
    have h19b : IntKind.u64.wrap (E : Int) = (E : Int) := by rw [IntKind.wrap_u64]; have := HDD.out; omega
    rw [hE] at HWD
    clear hE
    have H56 := Lib.hid h56
    clear h56
    have e0 := dR.out.at (i := 0) rfl
    have e1 := dR.out.at (i := 1) rfl
    have e4 := dR.out.at (i := 4) rfl
    have e5 := dR.out.at (i := 5) rfl
    have e6 := dR.out.at (i := 6) rfl
    have e7 := dR.out.at (i := 7) rfl
    obtain ⟨M2, hM2⟩ : ∃ M, M = (decide (d0 = 101075792) && (decide (d1 = E) && alB d4 d5 d6 d7)) := ⟨_, rfl⟩
    have HMI : Hid (M2 = true ↔ (d0 = 101075792 ∧ d1 = E ∧ alB d4 d5 d6 d7 = true)) := by
      show _ ↔ _
      rw [hM2, Bool.and_eq_true, Bool.and_eq_true, decide_eq_true_iff, decide_eq_true_iff]
    have HM : Hid (M2 = (decide (d0 = 101075792) && (decide (d1 = E) && (decide (d4 = 0) && (decide (d5 = 0) && decide (d6 = d7)))))) := hM2
    clear hM2
    go_upto_region 19 with fail
    go_cut [158] from 122 to 158 (fun b wx => b = .bool (!M2) ∧ ∃ n, wx = q10.drewN n)
    case first =>
      have t0 : (((d0 : Nat) : Int) != 101075792) = !decide (d0 = 101075792) := bneL (beqL d0 101075792)
      have t1 : (((d1 : Nat) : Int) != (E : Nat)) = !decide (d1 = E) := bneL (beqN d1 E)
      have t2 : (((d4 : Nat) : Int) != 0) = !decide (d4 = 0) := bneL (beqL d4 0)
      have t3 : (((d5 : Nat) : Int) != 0) = !decide (d5 = 0) := bneL (beqL d5 0)
      have t4 : (((d6 : Nat) : Int) != (d7 : Nat)) = !decide (d6 = d7) := bneL (beqN d6 d7)
      replace HM := Lib.hid HM.out
      generalize decide (d0 = 101075792) = p0 at *
      generalize decide (d1 = E) = p1 at *
      generalize decide (d4 = 0) = p2 at *
      generalize decide (d5 = 0) = p3 at *
      generalize decide (d6 = d7) = p4 at *
      clear HMI HWD
      cases p0 with
      | false =>
        simp only [Bool.not_true, Bool.not_false] at t0 t1 t2 t3 t4
        go_quiet (fail)
        go_wp2_with fail
        go_meet
        exact ⟨by rw [HM.out]; rfl, _, rfl⟩
      | true =>
        cases p1 with
        | false =>
          simp only [Bool.not_true, Bool.not_false] at t0 t1 t2 t3 t4
          go_quiet (fail)
          go_wp2_with fail
          go_meet
          exact ⟨by rw [HM.out]; rfl, _, rfl⟩
        | true =>
          cases p2 with
          | false =>
            simp only [Bool.not_true, Bool.not_false] at t0 t1 t2 t3 t4
            go_quiet (fail)
            go_wp2_with fail
            go_meet
            exact ⟨by rw [HM.out]; rfl, _, rfl⟩
          | true =>
            cases p3 with
            | false =>
              simp only [Bool.not_true, Bool.not_false] at t0 t1 t2 t3 t4
              go_quiet (fail)
              go_wp2_with fail
              go_meet
              exact ⟨by rw [HM.out]; rfl, _, rfl⟩
            | true =>
              cases p4 with
              | false =>
                simp only [Bool.not_true, Bool.not_false] at t0 t1 t2 t3 t4
                go_quiet (fail)
                go_wp2_with fail
                go_meet
                exact ⟨by rw [HM.out]; rfl, _, rfl⟩
              | true =>
                simp only [Bool.not_true, Bool.not_false] at t0 t1 t2 t3 t4
                go_quiet (fail)
                go_wp2_with fail
                go_meet
                exact ⟨by rw [HM.out]; rfl, _, rfl⟩
    case rest =>
    obtain ⟨rfl, nn19, hwc⟩ := hcut
    subst hwc
    clear e0 e1 e4 e5 e6 e7 h12a h16 h19a h19b HM
    replace HR : Hid ((q10.drewN nn19).heap[w.heap.size]? = some (.cells #[.int .i64 0, .int .u64 0, .int .u64 0, .int .u64 0, .string ⟨#[]⟩, .bool false] 64 (0, 0))) := HR.out
    replace HB : Hid (Below w.heap.size w (q10.drewN nn19)) := below_drewN HB.out nn19
    replace lR := Lib.hid (lR.out.drewN nn19)
    replace dR := Lib.hid (dR.out.drewN nn19)
    replace HE : Hid ((q10.drewN nn19).heap[ge]? = some (.cells #[.int .i64 (a : Nat), .int .u64 (r4 : Nat), .int .u64 (r5 : Nat), .int .u64 (r6 : Nat), .string (s.extract (a + 22) s.size), .bool false] 64 (0, 0))) := HE.out
    generalize q10.drewN nn19 = q11 at *
    cases M2 with
    | false =>
      have HN := Lib.hid (show ¬ _ from fun h => Bool.noConfusion (HMI.out.2 ⟨(HWD.out.1 h).2.2.1.1, (HWD.out.1 h).2.2.1.2, (HWD.out.1 h).2.2.2.1⟩))
      have HV : Hid (fdV X = .tuple #[.agg #[.int .i64 0, .int .u64 0, .int .u64 0, .int .u64 0, .string ⟨#[]⟩, .bool false], .int .i64 31]) := by show _ = _; rw [HD.out.2 (HN.out)]; rfl
      go_wp2_with (refine wpList_store_row rfl 64 (.tmp 2) (.tmp 159) rfl w.heap.size #[.int .i64 0, .int .u64 0, .int .u64 0, .int .u64 0, .string ⟨#[]⟩, .bool false] rfl rfl 64 #[.int .i64 0, .int .u64 0, .int .u64 0, .int .u64 0, .string ⟨#[]⟩, .bool false] HR.out info_rend rfl (by simp [Value.oneCell']) ?_)
      rw [HV.out]
      exact bodyPost_ret (results_ct_row' rfl _ _ w.heap.size 64 #[.int .i64 0, .int .u64 0, .int .u64 0, .int .u64 0, .string ⟨#[]⟩, .bool false] (0, 0) _ rfl (heap_setRow_same _ _ _ _ _ HR.out) Try.underlying64 rfl info_rend) rfl ⟨rfl, below_setRow HB.out (Nat.le_refl _) _⟩
    | true =>
    replace HMI := Lib.hid (HMI.out.1 rfl)
    have n4 := lR.out.at (i := 4) rfl
    have n5 := lR.out.at (i := 5) rfl
    have n6 := lR.out.at (i := 6) rfl
    have e7 := dR.out.at (i := 7) rfl
    have e8 := dR.out.at (i := 8) rfl
    have e9 := dR.out.at (i := 9) rfl
    obtain ⟨M3, hM3⟩ : ∃ M, M = agB r4 r5 r6 d7 d8 d9 := ⟨_, rfl⟩
    rw [← hM3] at HWD
    have HM : Hid (M3 = ((decide (r4 = 65535) || decide (r4 = d7)) && ((decide (r5 = 4294967295) || decide (r5 = d8)) && (decide (r6 = 4294967295) || decide (r6 = d9))))) := hM3
    clear hM3
    go_upto_region 21 with fail
    go_cut [202] from 160 to 202 (fun b wx => b = .bool (!M3) ∧ ∃ n, wx = q11.drewN n)
    case first =>
      have t0 : (((r4 : Nat) : Int) != 65535) = !decide (r4 = 65535) := bneL (beqL r4 65535)
      have y0 : (((r4 : Nat) : Int) != (d7 : Nat)) = !decide (r4 = d7) := bneL (beqN r4 d7)
      have t1 : (((r5 : Nat) : Int) != 4294967295) = !decide (r5 = 4294967295) := bneL (beqL r5 4294967295)
      have y1 : (((r5 : Nat) : Int) != (d8 : Nat)) = !decide (r5 = d8) := bneL (beqN r5 d8)
      have t2 : (((r6 : Nat) : Int) != 4294967295) = !decide (r6 = 4294967295) := bneL (beqL r6 4294967295)
      have y2 : (((r6 : Nat) : Int) != (d9 : Nat)) = !decide (r6 = d9) := bneL (beqN r6 d9)
      replace HM := Lib.hid HM.out
      generalize decide (r4 = 65535) = p0 at *
      generalize decide (r4 = d7) = o0 at *
      generalize decide (r5 = 4294967295) = p1 at *
      generalize decide (r5 = d8) = o1 at *
      generalize decide (r6 = 4294967295) = p2 at *
      generalize decide (r6 = d9) = o2 at *
      clear HMI HWD
      cases p0 with
      | true =>
        cases p1 with
        | true =>
          cases p2 with
          | true =>
            simp only [Bool.not_true, Bool.not_false] at t0 y0 t1 y1 t2 y2
            go_quiet (fail)
            go_wp2_with fail
            go_meet
            exact ⟨by rw [HM.out]; rfl, _, rfl⟩
          | false =>
            cases o2 with
            | false =>
              simp only [Bool.not_true, Bool.not_false] at t0 y0 t1 y1 t2 y2
              go_quiet (fail)
              go_wp2_with fail
              go_meet
              exact ⟨by rw [HM.out]; rfl, _, rfl⟩
            | true =>
              simp only [Bool.not_true, Bool.not_false] at t0 y0 t1 y1 t2 y2
              go_quiet (fail)
              go_wp2_with fail
              go_meet
              exact ⟨by rw [HM.out]; rfl, _, rfl⟩
        | false =>
          cases o1 with
          | false =>
            simp only [Bool.not_true, Bool.not_false] at t0 y0 t1 y1 t2 y2
            go_quiet (fail)
            go_wp2_with fail
            go_meet
            exact ⟨by rw [HM.out]; rfl, _, rfl⟩
          | true =>
            cases p2 with
            | true =>
              simp only [Bool.not_true, Bool.not_false] at t0 y0 t1 y1 t2 y2
              go_quiet (fail)
              go_wp2_with fail
              go_meet
              exact ⟨by rw [HM.out]; rfl, _, rfl⟩
            | false =>
              cases o2 with
              | false =>
                simp only [Bool.not_true, Bool.not_false] at t0 y0 t1 y1 t2 y2
                go_quiet (fail)
                go_wp2_with fail
                go_meet
                exact ⟨by rw [HM.out]; rfl, _, rfl⟩
              | true =>
                simp only [Bool.not_true, Bool.not_false] at t0 y0 t1 y1 t2 y2
                go_quiet (fail)
                go_wp2_with fail
                go_meet
                exact ⟨by rw [HM.out]; rfl, _, rfl⟩
      | false =>
        cases o0 with
        | false =>
          simp only [Bool.not_true, Bool.not_false] at t0 y0 t1 y1 t2 y2
          go_quiet (fail)
          go_wp2_with fail
          go_meet
          exact ⟨by rw [HM.out]; rfl, _, rfl⟩
        | true =>
          cases p1 with
          | true =>
            cases p2 with
            | true =>
              simp only [Bool.not_true, Bool.not_false] at t0 y0 t1 y1 t2 y2
              go_quiet (fail)
              go_wp2_with fail
              go_meet
              exact ⟨by rw [HM.out]; rfl, _, rfl⟩
            | false =>
              cases o2 with
              | false =>
                simp only [Bool.not_true, Bool.not_false] at t0 y0 t1 y1 t2 y2
                go_quiet (fail)
                go_wp2_with fail
                go_meet
                exact ⟨by rw [HM.out]; rfl, _, rfl⟩
              | true =>
                simp only [Bool.not_true, Bool.not_false] at t0 y0 t1 y1 t2 y2
                go_quiet (fail)
                go_wp2_with fail
                go_meet
                exact ⟨by rw [HM.out]; rfl, _, rfl⟩
          | false =>
            cases o1 with
            | false =>
              simp only [Bool.not_true, Bool.not_false] at t0 y0 t1 y1 t2 y2
              go_quiet (fail)
              go_wp2_with fail
              go_meet
              exact ⟨by rw [HM.out]; rfl, _, rfl⟩
            | true =>
              cases p2 with
              | true =>
                simp only [Bool.not_true, Bool.not_false] at t0 y0 t1 y1 t2 y2
                go_quiet (fail)
                go_wp2_with fail
                go_meet
                exact ⟨by rw [HM.out]; rfl, _, rfl⟩
              | false =>
                cases o2 with
                | false =>
                  simp only [Bool.not_true, Bool.not_false] at t0 y0 t1 y1 t2 y2
                  go_quiet (fail)
                  go_wp2_with fail
                  go_meet
                  exact ⟨by rw [HM.out]; rfl, _, rfl⟩
                | true =>
                  simp only [Bool.not_true, Bool.not_false] at t0 y0 t1 y1 t2 y2
                  go_quiet (fail)
                  go_wp2_with fail
                  go_meet
                  exact ⟨by rw [HM.out]; rfl, _, rfl⟩
    case rest =>
    obtain ⟨rfl, nn21, hwc⟩ := hcut
    subst hwc
    clear n4 n5 n6 e7 e8 e9 HM
    replace HR : Hid ((q11.drewN nn21).heap[w.heap.size]? = some (.cells #[.int .i64 0, .int .u64 0, .int .u64 0, .int .u64 0, .string ⟨#[]⟩, .bool false] 64 (0, 0))) := HR.out
    replace HB : Hid (Below w.heap.size w (q11.drewN nn21)) := below_drewN HB.out nn21
    replace dR := Lib.hid (dR.out.drewN nn21)
    replace HE : Hid ((q11.drewN nn21).heap[ge]? = some (.cells #[.int .i64 (a : Nat), .int .u64 (r4 : Nat), .int .u64 (r5 : Nat), .int .u64 (r6 : Nat), .string (s.extract (a + 22) s.size), .bool false] 64 (0, 0))) := HE.out
    clear lR
    generalize q11.drewN nn21 = q12 at *
    cases M3 with
    | false =>
      have HN := Lib.hid (show ¬ _ from fun h => Bool.noConfusion (HWD.out.1 h).2.2.2.2)
      have HV : Hid (fdV X = .tuple #[.agg #[.int .i64 0, .int .u64 0, .int .u64 0, .int .u64 0, .string ⟨#[]⟩, .bool false], .int .i64 31]) := by show _ = _; rw [HD.out.2 (HN.out)]; rfl
      go_wp2_with (refine wpList_store_row rfl 64 (.tmp 2) (.tmp 203) rfl w.heap.size #[.int .i64 0, .int .u64 0, .int .u64 0, .int .u64 0, .string ⟨#[]⟩, .bool false] rfl rfl 64 #[.int .i64 0, .int .u64 0, .int .u64 0, .int .u64 0, .string ⟨#[]⟩, .bool false] HR.out info_rend rfl (by simp [Value.oneCell']) ?_)
      rw [HV.out]
      exact bodyPost_ret (results_ct_row' rfl _ _ w.heap.size 64 #[.int .i64 0, .int .u64 0, .int .u64 0, .int .u64 0, .string ⟨#[]⟩, .bool false] (0, 0) _ rfl (heap_setRow_same _ _ _ _ _ HR.out) Try.underlying64 rfl info_rend) rfl ⟨rfl, below_setRow HB.out (Nat.le_refl _) _⟩
    | true =>
    have HV : Hid (fdV X = .tuple #[.agg #[.int .i64 (c2 : Nat), .int .u64 (d7 : Nat), .int .u64 (d8 : Nat), .int .u64 (d9 : Nat), .string (s.extract (a + 22) s.size), .bool true], .int .i64 0]) := by show _ = _; rw [HD.out.1 (HWD.out.2 ⟨HP.out, H56.out, ⟨HMI.out.1, HMI.out.2.1⟩, HMI.out.2.2, rfl⟩)]; rfl
    clear HD HWD HP H56 HMI
    have e7 := dR.out.at (i := 7) rfl
    have e8 := dR.out.at (i := 8) rfl
    have e9 := dR.out.at (i := 9) rfl
    have x4 : q12.cell? ⟨ge, 4, none⟩ = some (.string (s.extract (a + 22) s.size)) := by rw [Lib.cell_of_heap HE.out]; rfl
    go_upto_region 23 with fail
    go_still_tail 13, (by kernel_rfl)
    change wpList _ _ _ _ _ q12.drew
    replace HR : Hid (q12.drew.heap[w.heap.size]? = some (.cells #[.int .i64 0, .int .u64 0, .int .u64 0, .int .u64 0, .string ⟨#[]⟩, .bool false] 64 (0, 0))) := HR.out
    replace HB : Hid (Below w.heap.size w q12.drew) := HB.out.drew
    clear e7 e8 e9 x4 dR HE
    generalize q12.drew = q13 at *
    go_wp2_with (refine wpList_store_row rfl 64 (.tmp 2) (.tmp 216) rfl w.heap.size #[.int .i64 (c2 : Nat), .int .u64 (d7 : Nat), .int .u64 (d8 : Nat), .int .u64 (d9 : Nat), .string (s.extract (a + 22) s.size), .bool true] rfl rfl 64 #[.int .i64 0, .int .u64 0, .int .u64 0, .int .u64 0, .string ⟨#[]⟩, .bool false] HR.out info_rend rfl (by simp [Value.oneCell']) ?_)
    rw [HV.out]
    exact bodyPost_ret (results_ct_row' rfl _ _ w.heap.size 64 #[.int .i64 (c2 : Nat), .int .u64 (d7 : Nat), .int .u64 (d8 : Nat), .int .u64 (d9 : Nat), .string (s.extract (a + 22) s.size), .bool true] (0, 0) _ rfl (heap_setRow_same _ _ _ _ _ HR.out) Try.underlying64 rfl info_rend) rfl ⟨rfl, below_setRow HB.out (Nat.le_refl _) _⟩
end Go.Proofs.Ytklmfncljebgnaa
