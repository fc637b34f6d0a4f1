/-
  The walk of ExtraDoes.
-/
import Derived.Test.YtkiecgcjnlgbnaaExR
import Derived.Test.YtkiecgcjnlgbnaaExtraBackWalk
namespace Go.Proofs.Ytkiecgcjnlgbnaa
set_option maxRecDepth 100000
set_option linter.unusedSimpArgs false
open Go.RowKit Go.Joins Go.Deep

set_option maxHeartbeats 40000000 in
theorem extraDoes_walk (A : Option Addr) (cap : Nat) (l : List Fd) (fi : Int) (fd : ByteArray) (I : Option Addr) (cI : Nat) (ids : List Nat) (id : Int) (hfi : (Lit.int .u16 fi).wf = true) (_hfd : fd.size ≤ maxLen) (hid : (Lit.int .u16 id).wf = true) (w : World) (hF : Fds w A l) (hok : ∀ f ∈ l, FdOk f) (hn : A = none → l.length = 0 ∧ cap = 0) (hc : l.length ≤ cap) (hI : Ids w I ids) (_hiok : ∀ f ∈ ids, f < 65536) (_hin : I = none → ids.length = 0 ∧ cI = 0) (_hic : ids.length ≤ cI) :
    Calls Try.prog 4 #[.slice A l.length cap, .agg #[.int .u16 fi, .string fd], .slice I ids.length cI, .int .u16 id] w fun e w' => e = .returned (.bool true) ∧ Below w.heap.size w w' := by
  have hit := info_fd2
  have hb0 : IntKind.u16.min ≤ fi ∧ fi ≤ IntKind.u16.max := by simpa [Lit.wf] using hfi
  have hb1 : IntKind.u16.min ≤ id ∧ id ≤ IntKind.u16.max := by simpa [Lit.wf] using hid
  rw [show IntKind.u16.min = 0 by decide, show IntKind.u16.max = 65535 by decide] at hb0 hb1
  obtain ⟨fid, rfl⟩ : ∃ n : Nat, fi = (n : Nat) := ⟨fi.toNat, by omega⟩
  obtain ⟨qid, rfl⟩ : ∃ n : Nat, id = (n : Nat) := ⟨id.toNat, by omega⟩
  have HOK := Lib.hid hok
  have HFE := Lib.hid (fun (w1 : World) h => few_any A cap l w1 h)
  have HN := Lib.hid hn
  have HCC := Lib.hid hc
  have HAW := Lib.hid (fun w1 => awake13_any w1)
  have HW00 := Lib.hid (show DoW w (w.alloc (.cells #[.int .u16 (fid : Nat), .string fd] 38)) A l I ids fid fd from ⟨(Below.refl _ _).alloc (Nat.le_refl _) _, hF.below (Nat.le_refl _) ((Below.refl _ _).alloc (Nat.le_refl _) _), hI.below (Nat.le_refl _) ((Below.refl _ _).alloc (Nat.le_refl _) _), heap_alloc_new w _⟩)
  clear hF hok hfi hid hb0 hb1 hn hI hc _hin _hic _hiok
  go_enter Try.func4, Try.ntmps4
  go_wp2_with fail
  generalize w.alloc (.cells #[.int .u16 (fid : Nat), .string fd] 38) = w0 at *
  refine (HAW.out _).mono ?_
  rintro e w1 ⟨rfl, hb1⟩
  have HW1 := Lib.hid (HW00.out.next hb1)
  clear hb1 HAW HW00
  go_wp2_with fail
  refine (HFE.out _ HW1.out.fds).mono ?_
  rintro e w2 ⟨rfl, hb2⟩
  have HW2 := Lib.hid (HW1.out.next hb2)
  clear hb2 HW1
  cases hfew : fewB l with
  | false =>
    go_wp2_with fail
    go_ret
    exact ⟨rfl, HW2.out.bel⟩
  | true =>
    have hl60 := fewB_len hfew
    by_cases hi20 : 20 < ids.length
    · have hib : decide ((20 : Int) < (ids.length : Int)) = true := decide_eq_true (by omega)
      go_wp2_with fail
      go_ret
      exact ⟨rfl, HW2.out.bel⟩
    · have hib : decide ((20 : Int) < (ids.length : Int)) = false := decide_eq_false (by omega)
      have HF1 := Lib.hid (fun (w1 : World) h => find13_any A cap l qid w1 h (by omega))
      have HF2 := Lib.hid (fun (w1 : World) h => rfind13_any A cap l qid w1 h (by omega))
      have HT1 := Lib.hid (fun (w1 : World) h => twice_any A cap l w1 h (fun f hf => (HOK.out f hf).1) (by omega))
      have HT2 := Lib.hid (fun (w1 : World) h => rtwice_any A cap l w1 h (by omega))
      have HWA := Lib.hid (fun (w1 : World) h h2 => without_any A I cap cI l ids w1 h h2 (by omega) (by omega))
      have HWB := Lib.hid (fun (w1 : World) h h2 => rwithout_any A I cap cI l ids w1 h h2 (by omega) (by omega))
      have HPU := Lib.hid (fun (w1 : World) h => put_any A cap l ⟨fid, fd⟩ w1 h (by omega) HN.out HCC.out)
      have HRP := Lib.hid (fun (w1 : World) h => rput_any A cap l ⟨fid, fd⟩ w1 h (by omega))
      have hwl : (woL l ids).length ≤ 1000000 := by
        have := List.length_filter_le (fun f : Fd => !ids.contains f.id) l
        unfold woL
        omega
      have hpl := put_le l ⟨fid, fd⟩
      have HSW := Lib.hid (fun A1 A2 c1 c2 (w1 : World) h h2 => same_any A1 A2 c1 c2 (woL l ids) w1 h h2 hwl)
      have HSP := Lib.hid (fun A1 A2 c1 c2 (w1 : World) h h2 => same_any A1 A2 c1 c2 (putL l ⟨fid, fd⟩) w1 h h2 (by omega))
      have HSL := Lib.hid (fun A1 A2 c1 c2 (w1 : World) h h2 => same_any A1 A2 c1 c2 l w1 h h2 (by omega))
      obtain ⟨Aw, cw, w3, hrun, hfw, hbw⟩ := append_nil_fds A cap l w2 HW2.out.fds HN.out (by omega) 22
      have HRUN := Lib.hid hrun
      have HW3 := Lib.hid (HW2.out.next hbw)
      have HWS3 := Lib.hid hfw
      clear hrun hfw hbw hfew HFE hwl hpl HW2
      generalize putL l ⟨fid, fd⟩ = pl at *
      generalize woL l ids = wl at *
      generalize fndD l qid = fD at *
      generalize fndB l qid = fB at *
      generalize twI l = tI at *
      generalize twB l = tB at *
      go_wp2_with (at_builtin; refine Lib.wpList_append_run _ rfl _ _ _ _ rfl _ _ rfl rfl _ _ HRUN.out ?_)
      refine (HF1.out _ HW3.out.fds).mono ?_
      rintro e w4 ⟨rfl, hb4⟩
      have HW4 := Lib.hid (HW3.out.next hb4)
      have HWS4 := Lib.hid (HWS3.out.next hb4)
      clear hb4 HW3 HWS3 HRUN
      go_wp2_with fail
      refine (HF2.out _ HW4.out.fds).mono ?_
      rintro e w5 ⟨rfl, hb5⟩
      have HW5 := Lib.hid (HW4.out.next hb5)
      have HWS5 := Lib.hid (HWS4.out.next hb5)
      clear hb5 HW4 HWS4
      go_wp2_with fail
      refine (HT1.out _ HW5.out.fds).mono ?_
      rintro e w6 ⟨rfl, hb6⟩
      have HW6 := Lib.hid (HW5.out.next hb6)
      have HWS6 := Lib.hid (HWS5.out.next hb6)
      clear hb6 HW5 HWS5
      go_wp2_with fail
      refine (HT2.out _ HW6.out.fds).mono ?_
      rintro e w7 ⟨rfl, d7, rfl⟩
      have HW0 := Lib.hid (HW6.out.next (below_drewN (Below.refl _ _) d7))
      have HWAS := Lib.hid (HWS6.out.next (below_drewN (Below.refl _ _) d7))
      clear HW6 HWS6 HF1 HF2 HT1 HT2
      generalize w6.drewN d7 = w9 at *
      go_upto_region 10 with fail
      try simp only [List.append_eq, List.cons_append, List.nil_append]
      have HV := Lib.hid (HW0.out.next (w2 := w9.drew) (Below.refl _ _).drew)
      have HZ := Lib.hid (HWAS.out.next (w2 := w9.drew) (Below.refl _ _).drew)
      refine wp_region_held_drew (S := (fun ww => ww.cell? ⟨w.heap.size, 0, none⟩ = some (.int .u16 (fid : Nat)) ∧ ww.cell? ⟨w.heap.size, 1, none⟩ = some (.string fd))) (by kernel_rfl) ⟨HV.out.c0, HV.out.c1⟩ (fun hH1 => ?_)
      generalize w9.drew = v at *
      clear HW0 HWAS
      refine wpAnyH_take (i := 0) (v := ?_) rfl (by kernel_rfl) (by kernel_rfl) (by kernel_rfl) (fun _ _ _ h => h) (Or.inl ⟨by kernel_rfl, ?_⟩) (by assumption) ?_
      rotate_left
      · intro ww hSw
        obtain ⟨s0, s1⟩ := hSw
        go_simp
        try with_reducible rfl
      try simp only [Act.put, List.setIfInBounds_toArray, List.set_cons_zero, List.set_cons_succ, List.getElem_toArray, List.getElem_cons_succ, List.getElem_cons_zero]
      refine wpAnyH_take (i := 1) (v := ?_) rfl (by kernel_rfl) (by kernel_rfl) (by kernel_rfl) (fun _ _ _ h => h) (Or.inl ⟨by kernel_rfl, ?_⟩) (by assumption) ?_
      rotate_left
      · intro ww hSw
        obtain ⟨s0, s1⟩ := hSw
        go_simp
        try with_reducible rfl
      try simp only [Act.put, List.setIfInBounds_toArray, List.set_cons_zero, List.set_cons_succ, List.getElem_toArray, List.getElem_cons_succ, List.getElem_cons_zero]
      refine wpAnyH_take (i := 2) (v := ?_) rfl (by kernel_rfl) (by kernel_rfl) (by kernel_rfl) (fun _ _ _ h => h) (Or.inl ⟨by kernel_rfl, ?_⟩) (by assumption) ?_
      rotate_left
      · intro ww hSw
        obtain ⟨s0, s1⟩ := hSw
        go_simp
        try with_reducible rfl
      try simp only [Act.put, List.setIfInBounds_toArray, List.set_cons_zero, List.set_cons_succ, List.getElem_toArray, List.getElem_cons_succ, List.getElem_cons_zero]
      refine wpAnyH_take (i := 3) (v := ?_) rfl (by kernel_rfl) (by kernel_rfl) (by kernel_rfl) (fun _ _ _ h => h) (Or.inl ⟨by kernel_rfl, ?_⟩) (by assumption) ?_
      rotate_left
      · intro ww hSw
        obtain ⟨s0, s1⟩ := hSw
        go_simp
        try with_reducible rfl
      try simp only [Act.put, List.setIfInBounds_toArray, List.set_cons_zero, List.set_cons_succ, List.getElem_toArray, List.getElem_cons_succ, List.getElem_cons_zero]
      refine wpAnyH_take (i := 4) (v := ?_) rfl (by kernel_rfl) (by kernel_rfl) (by kernel_rfl) (fun _ _ _ h => h) (Or.inl ⟨by kernel_rfl, ?_⟩) (by assumption) ?_
      rotate_left
      · intro ww hSw
        obtain ⟨s0, s1⟩ := hSw
        go_simp
        try with_reducible rfl
      try simp only [Act.put, List.setIfInBounds_toArray, List.set_cons_zero, List.set_cons_succ, List.getElem_toArray, List.getElem_cons_succ, List.getElem_cons_zero]
      refine wpAnyH_take (i := 5) (v := ?_) rfl (by kernel_rfl) (by kernel_rfl) (by kernel_rfl) (fun _ _ _ h => h) (Or.inl ⟨by kernel_rfl, ?_⟩) (by assumption) ?_
      rotate_left
      · intro ww hSw
        obtain ⟨s0, s1⟩ := hSw
        go_simp
        try with_reducible rfl
      try simp only [Act.put, List.setIfInBounds_toArray, List.set_cons_zero, List.set_cons_succ, List.getElem_toArray, List.getElem_cons_succ, List.getElem_cons_zero]
      refine wpAnyH_take (i := 6) (v := ?_) rfl (by kernel_rfl) (by kernel_rfl) (by kernel_rfl) (fun _ _ _ h => h) (Or.inl ⟨by kernel_rfl, ?_⟩) (by assumption) ?_
      rotate_left
      · intro ww hSw
        obtain ⟨s0, s1⟩ := hSw
        go_simp
        try with_reducible rfl
      try simp only [Act.put, List.setIfInBounds_toArray, List.set_cons_zero, List.set_cons_succ, List.getElem_toArray, List.getElem_cons_succ, List.getElem_cons_zero]
      refine wpAnyH_take (i := 7) (v := ?_) rfl (by kernel_rfl) (by kernel_rfl) (by kernel_rfl) (fun _ _ _ h => h) (Or.inl ⟨by kernel_rfl, ?_⟩) (by assumption) ?_
      rotate_left
      · intro ww hSw
        obtain ⟨s0, s1⟩ := hSw
        go_simp
        try with_reducible rfl
      try simp only [Act.put, List.setIfInBounds_toArray, List.set_cons_zero, List.set_cons_succ, List.getElem_toArray, List.getElem_cons_succ, List.getElem_cons_zero]
      refine wpAnyH_take (i := 8) (v := ?_) rfl (by kernel_rfl) (by kernel_rfl) (by kernel_rfl) (fun _ _ _ h => h) (Or.inl ⟨by kernel_rfl, ?_⟩) (by assumption) ?_
      rotate_left
      · intro ww hSw
        obtain ⟨s0, s1⟩ := hSw
        go_simp
        try with_reducible rfl
      try simp only [Act.put, List.setIfInBounds_toArray, List.set_cons_zero, List.set_cons_succ, List.getElem_toArray, List.getElem_cons_succ, List.getElem_cons_zero]
      refine wpAnyH_take (i := 9) (v := ?_) rfl (by kernel_rfl) (by kernel_rfl) (by kernel_rfl) (fun _ _ _ h => h) (Or.inl ⟨by kernel_rfl, ?_⟩) (by assumption) ?_
      rotate_left
      · intro ww hSw
        obtain ⟨s0, s1⟩ := hSw
        go_simp
        try with_reducible rfl
      try simp only [Act.put, List.setIfInBounds_toArray, List.set_cons_zero, List.set_cons_succ, List.getElem_toArray, List.getElem_cons_succ, List.getElem_cons_zero]
      refine wpAnyH_take (i := 10) (v := ?_) rfl (by kernel_rfl) (by kernel_rfl) (by kernel_rfl) (fun _ _ _ h => h) (Or.inl ⟨by kernel_rfl, ?_⟩) (by assumption) ?_
      rotate_left
      · intro ww hSw
        obtain ⟨s0, s1⟩ := hSw
        go_simp
        try with_reducible rfl
      try simp only [Act.put, List.setIfInBounds_toArray, List.set_cons_zero, List.set_cons_succ, List.getElem_toArray, List.getElem_cons_succ, List.getElem_cons_zero]
      refine wpAnyH_take (i := 11) (v := ?_) rfl (by kernel_rfl) (by kernel_rfl) (by kernel_rfl) (fun _ _ _ h => h) (Or.inl ⟨by kernel_rfl, ?_⟩) (by assumption) ?_
      rotate_left
      · intro ww hSw
        obtain ⟨s0, s1⟩ := hSw
        go_simp
        try with_reducible rfl
      try simp only [Act.put, List.setIfInBounds_toArray, List.set_cons_zero, List.set_cons_succ, List.getElem_toArray, List.getElem_cons_succ, List.getElem_cons_zero]
      refine wpAnyH_take (i := 12) (v := ?_) rfl (by kernel_rfl) (by kernel_rfl) (by kernel_rfl) (fun _ _ _ h => h) (Or.inl ⟨by kernel_rfl, ?_⟩) (by assumption) ?_
      rotate_left
      · intro ww hSw
        obtain ⟨s0, s1⟩ := hSw
        go_simp
        try with_reducible rfl
      try simp only [Act.put, List.setIfInBounds_toArray, List.set_cons_zero, List.set_cons_succ, List.getElem_toArray, List.getElem_cons_succ, List.getElem_cons_zero]
      refine wpAnyH_take (i := 13) (v := ?_) rfl (by kernel_rfl) (by kernel_rfl) (by kernel_rfl) (fun _ _ _ h => h) (Or.inl ⟨by kernel_rfl, ?_⟩) (by assumption) ?_
      rotate_left
      · intro ww hSw
        obtain ⟨s0, s1⟩ := hSw
        go_simp
        try with_reducible rfl
      try simp only [Act.put, List.setIfInBounds_toArray, List.set_cons_zero, List.set_cons_succ, List.getElem_toArray, List.getElem_cons_succ, List.getElem_cons_zero]
      refine wpAnyH_take (i := 14) (v := ?_) rfl (by kernel_rfl) (by kernel_rfl) (by kernel_rfl) (fun _ _ _ h => h) (Or.inl ⟨by kernel_rfl, ?_⟩) (by assumption) ?_
      rotate_left
      · intro ww hSw
        obtain ⟨s0, s1⟩ := hSw
        go_simp
        try with_reducible rfl
      try simp only [Act.put, List.setIfInBounds_toArray, List.set_cons_zero, List.set_cons_succ, List.getElem_toArray, List.getElem_cons_succ, List.getElem_cons_zero]
      refine wpAnyH_take (i := 15) (v := ?_) rfl (by kernel_rfl) (by kernel_rfl) (by kernel_rfl) (fun _ _ _ h => h) (Or.inl ⟨by kernel_rfl, ?_⟩) (by assumption) ?_
      rotate_left
      · intro ww hSw
        obtain ⟨s0, s1⟩ := hSw
        go_simp
        try with_reducible rfl
      try simp only [Act.put, List.setIfInBounds_toArray, List.set_cons_zero, List.set_cons_succ, List.getElem_toArray, List.getElem_cons_succ, List.getElem_cons_zero]
      refine wpAnyH_take (i := 16) (v := ?_) rfl (by kernel_rfl) (by kernel_rfl) (by kernel_rfl) (fun _ _ _ h => h) (Or.inl ⟨by kernel_rfl, ?_⟩) (by assumption) ?_
      rotate_left
      · intro ww hSw
        obtain ⟨s0, s1⟩ := hSw
        go_simp
        try with_reducible rfl
      try simp only [Act.put, List.setIfInBounds_toArray, List.set_cons_zero, List.set_cons_succ, List.getElem_toArray, List.getElem_cons_succ, List.getElem_cons_zero]
      refine wpAnyH_take (i := 17) (v := ?_) rfl (by kernel_rfl) (by kernel_rfl) (by kernel_rfl) (fun _ _ _ h => h) (Or.inl ⟨by kernel_rfl, ?_⟩) (by assumption) ?_
      rotate_left
      · intro ww hSw
        obtain ⟨s0, s1⟩ := hSw
        go_simp
        try with_reducible rfl
      try simp only [Act.put, List.setIfInBounds_toArray, List.set_cons_zero, List.set_cons_succ, List.getElem_toArray, List.getElem_cons_succ, List.getElem_cons_zero]
      refine wpAnyH_take (i := 18) (v := ?_) rfl (by kernel_rfl) (by kernel_rfl) (by kernel_rfl) (fun _ _ _ h => h) (Or.inl ⟨by kernel_rfl, ?_⟩) (by assumption) ?_
      rotate_left
      · intro ww hSw
        obtain ⟨s0, s1⟩ := hSw
        go_simp
        try with_reducible rfl
      try simp only [Act.put, List.setIfInBounds_toArray, List.set_cons_zero, List.set_cons_succ, List.getElem_toArray, List.getElem_cons_succ, List.getElem_cons_zero]
      refine wpAnyH_take (i := 19) (v := ?_) rfl (by kernel_rfl) (by kernel_rfl) (by kernel_rfl) (fun _ _ _ h => h) (Or.inl ⟨by kernel_rfl, ?_⟩) (by assumption) ?_
      rotate_left
      · intro ww hSw
        obtain ⟨s0, s1⟩ := hSw
        go_simp
        try with_reducible rfl
      try simp only [Act.put, List.setIfInBounds_toArray, List.set_cons_zero, List.set_cons_succ, List.getElem_toArray, List.getElem_cons_succ, List.getElem_cons_zero]
      refine wpAnyH_take (i := 20) (v := ?_) rfl (by kernel_rfl) (by kernel_rfl) (by kernel_rfl) (fun _ _ _ h => h) (Or.inl ⟨by kernel_rfl, ?_⟩) (by assumption) ?_
      rotate_left
      · intro ww hSw
        obtain ⟨s0, s1⟩ := hSw
        go_simp
        try with_reducible rfl
      try simp only [Act.put, List.setIfInBounds_toArray, List.set_cons_zero, List.set_cons_succ, List.getElem_toArray, List.getElem_cons_succ, List.getElem_cons_zero]
      refine wpAnyH_take (i := 22) (v := ?_) rfl (by kernel_rfl) (by kernel_rfl) (by kernel_rfl) (fun _ _ _ h => h) (Or.inl ⟨by kernel_rfl, ?_⟩) (by assumption) ?_
      rotate_left
      · intro ww hSw
        obtain ⟨s0, s1⟩ := hSw
        go_simp
        try with_reducible rfl
      try simp only [Act.put, List.setIfInBounds_toArray, List.set_cons_zero, List.set_cons_succ, List.getElem_toArray, List.getElem_cons_succ, List.getElem_cons_zero]
      refine wpAnyH_take (i := 23) (v := ?_) rfl (by kernel_rfl) (by kernel_rfl) (by kernel_rfl) (fun _ _ _ h => h) (Or.inl ⟨by kernel_rfl, ?_⟩) (by assumption) ?_
      rotate_left
      · intro ww hSw
        obtain ⟨s0, s1⟩ := hSw
        go_simp
        try with_reducible rfl
      try simp only [Act.put, List.setIfInBounds_toArray, List.set_cons_zero, List.set_cons_succ, List.getElem_toArray, List.getElem_cons_succ, List.getElem_cons_zero]
      refine wpAnyH_ready (rs := [21]) (by kernel_rfl) (by simp) ?_
      refine AllReadyH.cons rfl (fun K hK => ?_) (AllReadyH.nil)
      go_simp
      refine (HWA.out _ HV.out.fds HV.out.ids).mono ?_
      rintro e W1aw ⟨A1, c1, rfl, hf1, _, hbW1a⟩
      have W1a := Lib.hid (HV.out.next hbW1a)
      have ZW1a := Lib.hid (HZ.out.next hbW1a)
      refine hK.out _ _ ⟨W1a.out.c0, W1a.out.c1⟩ (fun hHW1a => ?_)
      clear hK K
      try simp only [Act.put, List.setIfInBounds_toArray, List.set_cons_zero, List.set_cons_succ, List.getElem_toArray, List.getElem_cons_succ, List.getElem_cons_zero]
      have R10 := Lib.hid hf1
      clear hf1 hbW1a
      refine wpAnyH_ready (rs := [24]) (by kernel_rfl) (by simp) ?_
      refine AllReadyH.cons rfl (fun K hK => ?_) (AllReadyH.nil)
      go_simp
      refine (HWB.out _ W1a.out.fds W1a.out.ids).mono ?_
      rintro e W1bw ⟨A2, c2, rfl, hf2, hbW1b⟩
      have W1b := Lib.hid (W1a.out.next hbW1b)
      have ZW1b := Lib.hid (ZW1a.out.next hbW1b)
      have R1 := Lib.hid (R10.out.next hbW1b)
      refine hK.out _ _ ⟨W1b.out.c0, W1b.out.c1⟩ (fun hHW1b => ?_)
      clear hK K
      try simp only [Act.put, List.setIfInBounds_toArray, List.set_cons_zero, List.set_cons_succ, List.getElem_toArray, List.getElem_cons_succ, List.getElem_cons_zero]
      have R2 := Lib.hid hf2
      clear hf2 hbW1b
      refine wpAnyH_ready (rs := [25]) (by kernel_rfl) (by simp) ?_
      refine AllReadyH.cons rfl (fun K hK => ?_) (AllReadyH.nil)
      go_simp
      refine (HSW.out _ _ _ _ _ R1.out R2.out).mono ?_
      rintro e wW2 ⟨rfl, dW2, rfl⟩
      have W2 := Lib.hid (W1b.out.next (below_drewN (Below.refl _ _) dW2))
      have ZW2 := Lib.hid (ZW1b.out.next (below_drewN (Below.refl _ _) dW2))
      refine hK.out _ _ ⟨W2.out.c0, W2.out.c1⟩ (fun hHW2 => ?_)
      clear hK K
      try simp only [Act.put, List.setIfInBounds_toArray, List.set_cons_zero, List.set_cons_succ, List.getElem_toArray, List.getElem_cons_succ, List.getElem_cons_zero]
      refine wpAnyH_take (i := 26) (v := ?_) rfl (by kernel_rfl) (by kernel_rfl) (by kernel_rfl) (fun _ _ _ h => h) (Or.inl ⟨by kernel_rfl, ?_⟩) (by assumption) ?_
      rotate_left
      · intro ww hSw
        obtain ⟨s0, s1⟩ := hSw
        go_simp
        try with_reducible rfl
      try simp only [Act.put, List.setIfInBounds_toArray, List.set_cons_zero, List.set_cons_succ, List.getElem_toArray, List.getElem_cons_succ, List.getElem_cons_zero]
      refine wpAnyH_take (i := 27) (v := ?_) rfl (by kernel_rfl) (by kernel_rfl) (by kernel_rfl) (fun _ _ _ h => h) (Or.inl ⟨by kernel_rfl, ?_⟩) (by assumption) ?_
      rotate_left
      · intro ww hSw
        obtain ⟨s0, s1⟩ := hSw
        go_simp
        try with_reducible rfl
      try simp only [Act.put, List.setIfInBounds_toArray, List.set_cons_zero, List.set_cons_succ, List.getElem_toArray, List.getElem_cons_succ, List.getElem_cons_zero]
      refine wpAnyH_take (i := 28) (v := ?_) rfl (by kernel_rfl) (by kernel_rfl) (by kernel_rfl) (fun _ _ _ h => h) (Or.inl ⟨by kernel_rfl, ?_⟩) (by assumption) ?_
      rotate_left
      · intro ww hSw
        obtain ⟨s0, s1⟩ := hSw
        go_simp
        try with_reducible rfl
      try simp only [Act.put, List.setIfInBounds_toArray, List.set_cons_zero, List.set_cons_succ, List.getElem_toArray, List.getElem_cons_succ, List.getElem_cons_zero]
      refine wpAnyH_take (i := 29) (v := ?_) rfl (by kernel_rfl) (by kernel_rfl) (by kernel_rfl) (fun _ _ _ h => h) (Or.inl ⟨by kernel_rfl, ?_⟩) (by assumption) ?_
      rotate_left
      · intro ww hSw
        obtain ⟨s0, s1⟩ := hSw
        go_simp
        try with_reducible rfl
      try simp only [Act.put, List.setIfInBounds_toArray, List.set_cons_zero, List.set_cons_succ, List.getElem_toArray, List.getElem_cons_succ, List.getElem_cons_zero]
      refine wpAnyH_take (i := 31) (v := ?_) rfl (by kernel_rfl) (by kernel_rfl) (by kernel_rfl) (fun _ _ _ h => h) (Or.inl ⟨by kernel_rfl, ?_⟩) (by assumption) ?_
      rotate_left
      · intro ww hSw
        obtain ⟨s0, s1⟩ := hSw
        go_simp
        try with_reducible rfl
      try simp only [Act.put, List.setIfInBounds_toArray, List.set_cons_zero, List.set_cons_succ, List.getElem_toArray, List.getElem_cons_succ, List.getElem_cons_zero]
      refine wpAnyH_take (i := 32) (v := ?_) rfl (by kernel_rfl) (by kernel_rfl) (by kernel_rfl) (fun _ _ _ h => h) (Or.inl ⟨by kernel_rfl, ?_⟩) (by assumption) ?_
      rotate_left
      · intro ww hSw
        obtain ⟨s0, s1⟩ := hSw
        go_simp
        try with_reducible rfl
      try simp only [Act.put, List.setIfInBounds_toArray, List.set_cons_zero, List.set_cons_succ, List.getElem_toArray, List.getElem_cons_succ, List.getElem_cons_zero]
      refine wpAnyH_ready (rs := [30]) (by kernel_rfl) (by simp) ?_
      refine AllReadyH.cons rfl (fun K hK => ?_) (AllReadyH.nil)
      go_simp
      refine (HPU.out _ W2.out.fds).mono ?_
      rintro e W3aw ⟨A3, c3, rfl, hf3, _, hbW3a⟩
      have W3a := Lib.hid (W2.out.next hbW3a)
      have ZW3a := Lib.hid (ZW2.out.next hbW3a)
      refine hK.out _ _ ⟨W3a.out.c0, W3a.out.c1⟩ (fun hHW3a => ?_)
      clear hK K
      try simp only [Act.put, List.setIfInBounds_toArray, List.set_cons_zero, List.set_cons_succ, List.getElem_toArray, List.getElem_cons_succ, List.getElem_cons_zero]
      have R30 := Lib.hid hf3
      clear hf3 hbW3a
      refine wpAnyH_ready (rs := [33]) (by kernel_rfl) (by simp) ?_
      refine AllReadyH.cons rfl (fun K hK => ?_) (AllReadyH.nil)
      go_simp
      refine (HRP.out _ W3a.out.fds).mono ?_
      rintro e W3bw ⟨A4, c4, rfl, hf4, hbW3b⟩
      have W3b := Lib.hid (W3a.out.next hbW3b)
      have ZW3b := Lib.hid (ZW3a.out.next hbW3b)
      have R3 := Lib.hid (R30.out.next hbW3b)
      refine hK.out _ _ ⟨W3b.out.c0, W3b.out.c1⟩ (fun hHW3b => ?_)
      clear hK K
      try simp only [Act.put, List.setIfInBounds_toArray, List.set_cons_zero, List.set_cons_succ, List.getElem_toArray, List.getElem_cons_succ, List.getElem_cons_zero]
      have R4 := Lib.hid hf4
      clear hf4 hbW3b
      refine wpAnyH_ready (rs := [34]) (by kernel_rfl) (by simp) ?_
      refine AllReadyH.cons rfl (fun K hK => ?_) (AllReadyH.nil)
      go_simp
      refine (HSP.out _ _ _ _ _ R3.out R4.out).mono ?_
      rintro e wW4 ⟨rfl, dW4, rfl⟩
      have W4 := Lib.hid (W3b.out.next (below_drewN (Below.refl _ _) dW4))
      have ZW4 := Lib.hid (ZW3b.out.next (below_drewN (Below.refl _ _) dW4))
      refine hK.out _ _ ⟨W4.out.c0, W4.out.c1⟩ (fun hHW4 => ?_)
      clear hK K
      try simp only [Act.put, List.setIfInBounds_toArray, List.set_cons_zero, List.set_cons_succ, List.getElem_toArray, List.getElem_cons_succ, List.getElem_cons_zero]
      refine wpAnyH_take (i := 35) (v := ?_) rfl (by kernel_rfl) (by kernel_rfl) (by kernel_rfl) (fun _ _ _ h => h) (Or.inl ⟨by kernel_rfl, ?_⟩) (by assumption) ?_
      rotate_left
      · intro ww hSw
        obtain ⟨s0, s1⟩ := hSw
        go_simp
        try with_reducible rfl
      try simp only [Act.put, List.setIfInBounds_toArray, List.set_cons_zero, List.set_cons_succ, List.getElem_toArray, List.getElem_cons_succ, List.getElem_cons_zero]
      refine wpAnyH_take (i := 36) (v := ?_) rfl (by kernel_rfl) (by kernel_rfl) (by kernel_rfl) (fun _ _ _ h => h) (Or.inl ⟨by kernel_rfl, ?_⟩) (by assumption) ?_
      rotate_left
      · intro ww hSw
        obtain ⟨s0, s1⟩ := hSw
        go_simp
        try with_reducible rfl
      try simp only [Act.put, List.setIfInBounds_toArray, List.set_cons_zero, List.set_cons_succ, List.getElem_toArray, List.getElem_cons_succ, List.getElem_cons_zero]
      refine wpAnyH_take (i := 37) (v := ?_) rfl (by kernel_rfl) (by kernel_rfl) (by kernel_rfl) (fun _ _ _ h => h) (Or.inl ⟨by kernel_rfl, ?_⟩) (by assumption) ?_
      rotate_left
      · intro ww hSw
        obtain ⟨s0, s1⟩ := hSw
        go_simp
        try with_reducible rfl
      try simp only [Act.put, List.setIfInBounds_toArray, List.set_cons_zero, List.set_cons_succ, List.getElem_toArray, List.getElem_cons_succ, List.getElem_cons_zero]
      refine wpAnyH_take (i := 38) (v := ?_) rfl (by kernel_rfl) (by kernel_rfl) (by kernel_rfl) (fun _ _ _ h => h) (Or.inl ⟨by kernel_rfl, ?_⟩) (by assumption) ?_
      rotate_left
      · intro ww hSw
        obtain ⟨s0, s1⟩ := hSw
        go_simp
        try with_reducible rfl
      try simp only [Act.put, List.setIfInBounds_toArray, List.set_cons_zero, List.set_cons_succ, List.getElem_toArray, List.getElem_cons_succ, List.getElem_cons_zero]
      refine wpAnyH_ready (rs := [39]) (by kernel_rfl) (by simp) ?_
      refine AllReadyH.cons rfl (fun K hK => ?_) (AllReadyH.nil)
      go_simp
      refine (HSL.out _ _ _ _ _ W4.out.fds ZW4.out).mono ?_
      rintro e w5 ⟨rfl, d5, rfl⟩
      have W5 := Lib.hid (W4.out.next (below_drewN (Below.refl _ _) d5))
      refine hK.out _ _ ⟨W5.out.c0, W5.out.c1⟩ (fun hH5 => ?_)
      clear hK K
      try simp only [Act.put, List.setIfInBounds_toArray, List.set_cons_zero, List.set_cons_succ, List.getElem_toArray, List.getElem_cons_succ, List.getElem_cons_zero]
      refine wpAnyH_take (i := 40) (v := ?_) rfl (by kernel_rfl) (by kernel_rfl) (by kernel_rfl) (fun _ _ _ h => h) (Or.inl ⟨by kernel_rfl, ?_⟩) (by assumption) ?_
      rotate_left
      · intro ww hSw
        obtain ⟨s0, s1⟩ := hSw
        go_simp
        try with_reducible rfl
      try simp only [Act.put, List.setIfInBounds_toArray, List.set_cons_zero, List.set_cons_succ, List.getElem_toArray, List.getElem_cons_succ, List.getElem_cons_zero]
      refine wpAnyH_take (i := 41) (v := ?_) rfl (by kernel_rfl) (by kernel_rfl) (by kernel_rfl) (fun _ _ _ h => h) (Or.inl ⟨by kernel_rfl, ?_⟩) (by assumption) ?_
      rotate_left
      · intro ww hSw
        obtain ⟨s0, s1⟩ := hSw
        go_simp
        try with_reducible rfl
      try simp only [Act.put, List.setIfInBounds_toArray, List.set_cons_zero, List.set_cons_succ, List.getElem_toArray, List.getElem_cons_succ, List.getElem_cons_zero]
      refine wpAnyH_done (by kernel_rfl) ?_ _
      have HFI := Lib.hid W5.out.bel
      go_wp2_with fail
      go_ret
      exact ⟨rfl, HFI.out⟩
end Go.Proofs.Ytkiecgcjnlgbnaa
