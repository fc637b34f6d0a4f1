/-
  Contracts of package tail: Find.
-/
import Derived.Test.YtlojhklhhdgkcaaTlI
namespace Go.Proofs.Ytlojhklhhdgkcaa
set_option maxRecDepth 100000
set_option linter.unusedSimpArgs false
set_option linter.unusedVariables false
open Go.RowKit Go.Joins Go.Deep Go.Op
/-- What Find tells: the end's fields, the error. -/
def fdE (s : ByteArray) : (Nat × Nat × Nat × Nat × ByteArray × Bool) × Nat :=
  match lastE s with
  | none => ((0, 0, 0, 0, ⟨#[]⟩, false), 30)
  | some a =>
    if alB (nAt s (a + 4) 2) (nAt s (a + 6) 2) (nAt s (a + 8) 2) (nAt s (a + 10) 2) = true then
      if asB (nAt s (a + 10) 2) (nAt s (a + 12) 4) (nAt s (a + 16) 4) = true then
        if (lcB (s.extract 0 a) && (alB (nAt (lcT (s.extract 0 a)) 16 4) (nAt (lcT (s.extract 0 a)) 20 4) (nAt (lcT (s.extract 0 a)) 24 8) (nAt (lcT (s.extract 0 a)) 32 8) && agB (nAt s (a + 10) 2) (nAt s (a + 12) 4) (nAt s (a + 16) 4) (nAt (lcT (s.extract 0 a)) 32 8) (nAt (lcT (s.extract 0 a)) 40 8) (nAt (lcT (s.extract 0 a)) 48 8))) = true then ((lcP (s.extract 0 a), nAt (lcT (s.extract 0 a)) 32 8, nAt (lcT (s.extract 0 a)) 40 8, nAt (lcT (s.extract 0 a)) 48 8, s.extract (a + 22) s.size, true), 0)
        else ((0, 0, 0, 0, ⟨#[]⟩, false), 31)
      else ((a, nAt s (a + 10) 2, nAt s (a + 12) 4, nAt s (a + 16) 4, s.extract (a + 22) s.size, false), 0)
    else ((0, 0, 0, 0, ⟨#[]⟩, false), 30)
def fdV (x : (Nat × Nat × Nat × Nat × ByteArray × Bool) × Nat) : Value := .tuple #[.agg #[.int .i64 (x.1.1 : Nat), .int .u64 (x.1.2.1 : Nat), .int .u64 (x.1.2.2.1 : Nat), .int .u64 (x.1.2.2.2.1 : Nat), .string x.1.2.2.2.2.1, .bool x.1.2.2.2.2.2], .int .i64 (x.2 : Nat)]
theorem lastI_some {s : ByteArray} {a : Nat} (h : lastE s = some a) : lastI s = (a : Int) := by unfold lastI; rw [h]
theorem lastI_none {s : ByteArray} (h : lastE s = none) : lastI s = -1 := by unfold lastI; rw [h]
theorem lastE_le {s : ByteArray} {a : Nat} (h : lastE s = some a) : a + 22 ≤ s.size := by
  unfold lastE at h
  split at h
  · have := (seekE_some s _ a h).1
    omega
  · cases h
set_option maxHeartbeats 16000000 in
theorem find_any (s : ByteArray) (hs : s.size ≤ 60000) (w : World) :
    Calls Try.prog 6 #[.string s] w fun e w' => e = .returned (fdV (fdE s)) ∧ Below w.heap.size w w' := by
  have hr0 := heap_alloc_new w (.cells #[.int .i64 0, .int .u64 0, .int .u64 0, .int .u64 0, .string ⟨#[]⟩, .bool false] 29)
  have HB : Hid (Below w.heap.size w (w.alloc (.cells #[.int .i64 0, .int .u64 0, .int .u64 0, .int .u64 0, .string ⟨#[]⟩, .bool false] 29))) := (Below.refl _ _).alloc (Nat.le_refl _) _
  have HR := Lib.hid hr0
  clear hr0
  have HLA := Lib.hid (fun w => last_any s hs w)
  obtain ⟨X, hX⟩ : ∃ X, X = fdE s := ⟨_, rfl⟩
  rw [← hX]
  have HX := Lib.hid hX
  clear hX
  cases hla : lastE s with
  | none =>
    have HI := Lib.hid (lastI_none hla)
    have HV : Hid (fdV X = .tuple #[.agg #[.int .i64 0, .int .u64 0, .int .u64 0, .int .u64 0, .string ⟨#[]⟩, .bool false], .int .i64 30]) := by show _ = _; rw [HX.out]; unfold fdE; rw [hla]; rfl
    clear hla
    go_enter Try.func6, Try.ntmps6
    go_wp2_with fail
    refine (HLA.out _).mono ?_; rintro r w1 ⟨rfl, rfl⟩
    rw [HI.out]
    go_wp2_with (refine wpList_store_row rfl 29 (.tmp 2) (.tmp 14) rfl w.heap.size #[.int .i64 0, .int .u64 0, .int .u64 0, .int .u64 0, .string ⟨#[]⟩, .bool false] rfl rfl 29 #[.int .i64 0, .int .u64 0, .int .u64 0, .int .u64 0, .string ⟨#[]⟩, .bool false] HR.out info_endv rfl (by simp [Value.oneCell']) ?_)
    rw [HV.out]
    exact bodyPost_ret (results_ct_row' rfl _ _ w.heap.size 29 #[.int .i64 0, .int .u64 0, .int .u64 0, .int .u64 0, .string ⟨#[]⟩, .bool false] (0, 0) _ rfl (heap_setRow_same _ _ _ _ _ HR.out) Try.underlying29 rfl info_endv) rfl ⟨rfl, below_setRow HB.out (Nat.le_refl _) _⟩
  | some a =>
    have hle := lastE_le hla
    have HI := Lib.hid (lastI_some hla)
    have hts : (s.extract a s.size).size = s.size - a := by rw [ByteArray.size_extract]; omega
    have HRE := Lib.hid (fun w => readEnd_any (s.extract a s.size) (by omega) (by omega) w)
    have hrd : rdE (s.extract a s.size) = .agg #[.int .u32 (nAt s (a + 4) 2 : Nat), .int .u32 (nAt s (a + 6) 2 : Nat), .int .u64 (nAt s (a + 8) 2 : Nat), .int .u64 (nAt s (a + 10) 2 : Nat), .int .u64 (nAt s (a + 12) 4 : Nat), .int .u64 (nAt s (a + 16) 4 : Nat)] := by
      unfold rdE
      simp only [nAt_from]
    rw [hrd] at HRE
    have HLO := Lib.hid (fun w => located_any (s.extract 0 a) (by rw [ByteArray.size_extract]; omega) w)
    have HXS : Hid (X = (if alB (nAt s (a + 4) 2) (nAt s (a + 6) 2) (nAt s (a + 8) 2) (nAt s (a + 10) 2) = true then
      if asB (nAt s (a + 10) 2) (nAt s (a + 12) 4) (nAt s (a + 16) 4) = true then
        if (lcB (s.extract 0 a) && (alB (nAt (lcT (s.extract 0 a)) 16 4) (nAt (lcT (s.extract 0 a)) 20 4) (nAt (lcT (s.extract 0 a)) 24 8) (nAt (lcT (s.extract 0 a)) 32 8) && agB (nAt s (a + 10) 2) (nAt s (a + 12) 4) (nAt s (a + 16) 4) (nAt (lcT (s.extract 0 a)) 32 8) (nAt (lcT (s.extract 0 a)) 40 8) (nAt (lcT (s.extract 0 a)) 48 8))) = true then ((lcP (s.extract 0 a), nAt (lcT (s.extract 0 a)) 32 8, nAt (lcT (s.extract 0 a)) 40 8, nAt (lcT (s.extract 0 a)) 48 8, s.extract (a + 22) s.size, true), 0)
        else ((0, 0, 0, 0, ⟨#[]⟩, false), 31)
      else ((a, nAt s (a + 10) 2, nAt s (a + 12) 4, nAt s (a + 16) 4, s.extract (a + 22) s.size, false), 0)
    else ((0, 0, 0, 0, ⟨#[]⟩, false), 30))) := by show _ = _; rw [HX.out]; unfold fdE; rw [hla]
    clear hla hrd hts HX
    have HA1 := Lib.hid (alone_any (nAt s (a + 4) 2) (nAt s (a + 6) 2) (nAt s (a + 8) 2) (nAt s (a + 10) 2) (nAt s (a + 12) 4) (nAt s (a + 16) 4))
    have HAS := Lib.hid (asks_any (nAt s (a + 4) 2) (nAt s (a + 6) 2) (nAt s (a + 8) 2) (nAt s (a + 10) 2) (nAt s (a + 12) 4) (nAt s (a + 16) 4))
    have HAG := Lib.hid (agrees_any (nAt s (a + 4) 2) (nAt s (a + 6) 2) (nAt s (a + 8) 2) (nAt s (a + 10) 2) (nAt s (a + 12) 4) (nAt s (a + 16) 4))
    have HEN := Lib.hid (end_any (nAt s (a + 4) 2) (nAt s (a + 6) 2) (nAt s (a + 8) 2) (nAt s (a + 10) 2) (nAt s (a + 12) 4) (nAt s (a + 16) 4))
    generalize nAt s (a + 4) 2 = r1 at *
    generalize nAt s (a + 6) 2 = r2 at *
    generalize nAt s (a + 8) 2 = r3 at *
    generalize nAt s (a + 10) 2 = r4 at *
    generalize nAt s (a + 12) 4 = r5 at *
    generalize nAt s (a + 16) 4 = r6 at *
    go_enter Try.func6, Try.ntmps6
    go_wp2_with fail
    refine (HLA.out _).mono ?_; rintro r w1 ⟨rfl, rfl⟩
    rw [HI.out]
    go_wp2_with fail
    refine (HRE.out _).mono ?_; rintro r w2 ⟨rfl, hb⟩
    have H5 : Hid ((w2.alloc (.cells #[.int .u32 (r1 : Nat), .int .u32 (r2 : Nat), .int .u64 (r3 : Nat), .int .u64 (r4 : Nat), .int .u64 (r5 : Nat), .int .u64 (r6 : Nat)] 41)).heap[w2.heap.size]? = some (.cells #[.int .u32 (r1 : Nat), .int .u32 (r2 : Nat), .int .u64 (r3 : Nat), .int .u64 (r4 : Nat), .int .u64 (r5 : Nat), .int .u64 (r6 : Nat)] 41 (0, 0))) := heap_alloc_new _ _
    have HR2 : Hid ((w2.alloc (.cells #[.int .u32 (r1 : Nat), .int .u32 (r2 : Nat), .int .u64 (r3 : Nat), .int .u64 (r4 : Nat), .int .u64 (r5 : Nat), .int .u64 (r6 : Nat)] 41)).heap[w.heap.size]? = some (.cells #[.int .i64 0, .int .u64 0, .int .u64 0, .int .u64 0, .string ⟨#[]⟩, .bool false] 29 (0, 0))) := (Below.heap_alloc w2 _ _ (Nat.lt_of_lt_of_le (lt_of_some HR.out) hb.size)).trans ((hb.block _ (lt_of_some HR.out)).trans HR.out)
    have HB2 := Lib.hid ((HB.out.trans (hb.mono HB.out.size)).alloc (Nat.le_trans HB.out.size hb.size) (.cells #[.int .u32 (r1 : Nat), .int .u32 (r2 : Nat), .int .u64 (r3 : Nat), .int .u64 (r4 : Nat), .int .u64 (r5 : Nat), .int .u64 (r6 : Nat)] 41))
    clear hb HR HB HRE HLA HI
    go_upto_region 6 with fail
    generalize w2.alloc (.cells #[.int .u32 (r1 : Nat), .int .u32 (r2 : Nat), .int .u64 (r3 : Nat), .int .u64 (r4 : Nat), .int .u64 (r5 : Nat), .int .u64 (r6 : Nat)] 41) = w3 at *
    generalize w2.heap.size = g5 at *
    go_wp2_with (refine wpList_load_row rfl 41 (.tmp 5) rfl g5 rfl 41 _ (0, 0) _ H5.out Try.underlying41 rfl info_rec ?_)
    refine (HA1.out _).mono ?_; rintro r w4 ⟨rfl, hb⟩
    replace H5 := Lib.hid ((hb.block _ (lt_of_some H5.out)).trans H5.out)
    replace HR2 := Lib.hid ((hb.block _ (lt_of_some HR2.out)).trans HR2.out)
    replace HB2 := Lib.hid (HB2.out.trans (hb.mono HB2.out.size))
    clear hb
    generalize hal : alB r1 r2 r3 r4 = ba at *
    have HAL := Lib.hid hal
    clear hal
    cases ba with
    | false =>
      have HV : Hid (fdV X = .tuple #[.agg #[.int .i64 0, .int .u64 0, .int .u64 0, .int .u64 0, .string ⟨#[]⟩, .bool false], .int .i64 30]) := by show _ = _; rw [HXS.out]; simp [fdV]
      go_wp2_with (refine wpList_store_row rfl 29 (.tmp 2) (.tmp 27) rfl w.heap.size #[.int .i64 0, .int .u64 0, .int .u64 0, .int .u64 0, .string ⟨#[]⟩, .bool false] rfl rfl 29 #[.int .i64 0, .int .u64 0, .int .u64 0, .int .u64 0, .string ⟨#[]⟩, .bool false] HR2.out info_endv rfl (by simp [Value.oneCell']) ?_)
      rw [HV.out]
      exact bodyPost_ret (results_ct_row' rfl _ _ w.heap.size 29 #[.int .i64 0, .int .u64 0, .int .u64 0, .int .u64 0, .string ⟨#[]⟩, .bool false] (0, 0) _ rfl (heap_setRow_same _ _ _ _ _ HR2.out) Try.underlying29 rfl info_endv) rfl ⟨rfl, below_setRow HB2.out (Nat.le_refl _) _⟩
    | true =>
    go_wp2_with (refine wpList_load_row rfl 41 (.tmp 5) rfl g5 rfl 41 _ (0, 0) _ H5.out Try.underlying41 rfl info_rec ?_)
    refine (HAS.out _).mono ?_; rintro r w5 ⟨rfl, hb⟩
    replace H5 := Lib.hid ((hb.block _ (lt_of_some H5.out)).trans H5.out)
    replace HR2 := Lib.hid ((hb.block _ (lt_of_some HR2.out)).trans HR2.out)
    replace HB2 := Lib.hid (HB2.out.trans (hb.mono HB2.out.size))
    clear hb
    generalize hal : asB r4 r5 r6 = bs at *
    have HASB := Lib.hid hal
    clear hal
    cases bs with
    | false =>
      have HV : Hid (fdV X = .tuple #[.agg #[.int .i64 (a : Nat), .int .u64 (r4 : Nat), .int .u64 (r5 : Nat), .int .u64 (r6 : Nat), .string (s.extract (a + 22) s.size), .bool false], .int .i64 0]) := by show _ = _; rw [HXS.out]; simp [fdV]
      go_wp2_with (refine wpList_load_row rfl 41 (.tmp 5) rfl g5 rfl 41 _ (0, 0) _ H5.out Try.underlying41 rfl info_rec ?_)
      refine (HEN.out _ _ _ _).mono ?_; rintro r w6 ⟨rfl, hb⟩
      replace HR2 := Lib.hid ((hb.block _ (lt_of_some HR2.out)).trans HR2.out)
      replace HB2 := Lib.hid (HB2.out.trans (hb.mono HB2.out.size))
      clear hb
      go_wp2_with (refine wpList_store_row rfl 29 (.tmp 2) (.tmp 35) rfl w.heap.size #[.int .i64 (a : Nat), .int .u64 (r4 : Nat), .int .u64 (r5 : Nat), .int .u64 (r6 : Nat), .string (s.extract (a + 22) s.size), .bool false] rfl rfl 29 #[.int .i64 0, .int .u64 0, .int .u64 0, .int .u64 0, .string ⟨#[]⟩, .bool false] HR2.out info_endv rfl (by simp [Value.oneCell']) ?_)
      rw [HV.out]
      exact bodyPost_ret (results_ct_row' rfl _ _ w.heap.size 29 #[.int .i64 (a : Nat), .int .u64 (r4 : Nat), .int .u64 (r5 : Nat), .int .u64 (r6 : Nat), .string (s.extract (a + 22) s.size), .bool false] (0, 0) _ rfl (heap_setRow_same _ _ _ _ _ HR2.out) Try.underlying29 rfl info_endv) rfl ⟨rfl, below_setRow HB2.out (Nat.le_refl _) _⟩
    | true =>
    go_wp2_with fail
    refine (HLO.out _).mono ?_; rintro r w6 ⟨p, v1, v2, v3, v4, v5, v6, b, rfl, hlc, hb⟩
    have H8 : Hid ((w6.alloc (.cells #[.int .u32 (v1 : Nat), .int .u32 (v2 : Nat), .int .u64 (v3 : Nat), .int .u64 (v4 : Nat), .int .u64 (v5 : Nat), .int .u64 (v6 : Nat)] 41)).heap[w6.heap.size]? = some (.cells #[.int .u32 (v1 : Nat), .int .u32 (v2 : Nat), .int .u64 (v3 : Nat), .int .u64 (v4 : Nat), .int .u64 (v5 : Nat), .int .u64 (v6 : Nat)] 41 (0, 0))) := heap_alloc_new _ _
    have HR3 : Hid ((w6.alloc (.cells #[.int .u32 (v1 : Nat), .int .u32 (v2 : Nat), .int .u64 (v3 : Nat), .int .u64 (v4 : Nat), .int .u64 (v5 : Nat), .int .u64 (v6 : Nat)] 41)).heap[w.heap.size]? = some (.cells #[.int .i64 0, .int .u64 0, .int .u64 0, .int .u64 0, .string ⟨#[]⟩, .bool false] 29 (0, 0))) := (Below.heap_alloc w6 _ _ (Nat.lt_of_lt_of_le (lt_of_some HR2.out) hb.size)).trans ((hb.block _ (lt_of_some HR2.out)).trans HR2.out)
    have H53 : Hid ((w6.alloc (.cells #[.int .u32 (v1 : Nat), .int .u32 (v2 : Nat), .int .u64 (v3 : Nat), .int .u64 (v4 : Nat), .int .u64 (v5 : Nat), .int .u64 (v6 : Nat)] 41)).heap[g5]? = some (.cells #[.int .u32 (r1 : Nat), .int .u32 (r2 : Nat), .int .u64 (r3 : Nat), .int .u64 (r4 : Nat), .int .u64 (r5 : Nat), .int .u64 (r6 : Nat)] 41 (0, 0))) := (Below.heap_alloc w6 _ _ (Nat.lt_of_lt_of_le (lt_of_some H5.out) hb.size)).trans ((hb.block _ (lt_of_some H5.out)).trans H5.out)
    have HB3 := Lib.hid ((HB2.out.trans (hb.mono HB2.out.size)).alloc (Nat.le_trans HB2.out.size hb.size) (.cells #[.int .u32 (v1 : Nat), .int .u32 (v2 : Nat), .int .u64 (v3 : Nat), .int .u64 (v4 : Nat), .int .u64 (v5 : Nat), .int .u64 (v6 : Nat)] 41))
    have HLC := Lib.hid hlc
    clear hb hlc H5 HR2 HB2 HLO
    go_upto_region 11 with fail
    generalize w6.alloc (.cells #[.int .u32 (v1 : Nat), .int .u32 (v2 : Nat), .int .u64 (v3 : Nat), .int .u64 (v4 : Nat), .int .u64 (v5 : Nat), .int .u64 (v6 : Nat)] 41) = w7 at *
    generalize w6.heap.size = g8 at *
    have HR2 := HR3; have H5 := H53; have HB2 := HB3
    clear HR3 H53 HB3
    cases b with
    | false =>
      have hlb : lcB (s.extract 0 a) = false := HLC.out.1.symm
      have HV : Hid (fdV X = .tuple #[.agg #[.int .i64 0, .int .u64 0, .int .u64 0, .int .u64 0, .string ⟨#[]⟩, .bool false], .int .i64 31]) := by show _ = _; rw [HXS.out, hlb]; simp [fdV]
      clear hlb
      go_wp2_with (refine wpList_store_row rfl 29 (.tmp 2) (.tmp 57) rfl w.heap.size #[.int .i64 0, .int .u64 0, .int .u64 0, .int .u64 0, .string ⟨#[]⟩, .bool false] rfl rfl 29 #[.int .i64 0, .int .u64 0, .int .u64 0, .int .u64 0, .string ⟨#[]⟩, .bool false] HR2.out info_endv rfl (by simp [Value.oneCell']) ?_)
      rw [HV.out]
      exact bodyPost_ret (results_ct_row' rfl _ _ w.heap.size 29 #[.int .i64 0, .int .u64 0, .int .u64 0, .int .u64 0, .string ⟨#[]⟩, .bool false] (0, 0) _ rfl (heap_setRow_same _ _ _ _ _ HR2.out) Try.underlying29 rfl info_endv) rfl ⟨rfl, below_setRow HB2.out (Nat.le_refl _) _⟩
    | true =>
    obtain ⟨hlb, hv⟩ := HLC.out
    obtain ⟨hp, e1, e2, e3, e4, e5, e6⟩ := hv rfl
    rw [← hlb, ← hp, ← e1, ← e2, ← e3, ← e4, ← e5, ← e6, Bool.true_and] at HXS
    clear hlb hv hp e1 e2 e3 e4 e5 e6 HLC
    have HA2 := Lib.hid (alone_any v1 v2 v3 v4 v5 v6)
    have HAG2 := Lib.hid (HAG.out v1 v2 v3 v4 v5 v6)
    have HEN2 := Lib.hid (end_any v1 v2 v3 v4 v5 v6)
    have m8_0 : w7.cell? ⟨g8, 0, none⟩ = some (.int .u32 (v1 : Nat)) := by rw [Lib.cell_of_heap H8.out]; rfl
    have m8_1 : w7.cell? ⟨g8, 1, none⟩ = some (.int .u32 (v2 : Nat)) := by rw [Lib.cell_of_heap H8.out]; rfl
    have m8_2 : w7.cell? ⟨g8, 2, none⟩ = some (.int .u64 (v3 : Nat)) := by rw [Lib.cell_of_heap H8.out]; rfl
    have m8_3 : w7.cell? ⟨g8, 3, none⟩ = some (.int .u64 (v4 : Nat)) := by rw [Lib.cell_of_heap H8.out]; rfl
    have m8_4 : w7.cell? ⟨g8, 4, none⟩ = some (.int .u64 (v5 : Nat)) := by rw [Lib.cell_of_heap H8.out]; rfl
    have m8_5 : w7.cell? ⟨g8, 5, none⟩ = some (.int .u64 (v6 : Nat)) := by rw [Lib.cell_of_heap H8.out]; rfl
    go_wp2_with fail
    clear m8_0 m8_1 m8_2 m8_3 m8_4 m8_5
    refine (HA2.out _).mono ?_; rintro r w8 ⟨rfl, hb⟩
    replace H8 := Lib.hid ((hb.block _ (lt_of_some H8.out)).trans H8.out)
    replace H5 := Lib.hid ((hb.block _ (lt_of_some H5.out)).trans H5.out)
    replace HR2 := Lib.hid ((hb.block _ (lt_of_some HR2.out)).trans HR2.out)
    replace HB2 := Lib.hid (HB2.out.trans (hb.mono HB2.out.size))
    clear hb
    generalize hal : alB v1 v2 v3 v4 = b2 at *
    have HAL2 := Lib.hid hal
    clear hal
    cases b2 with
    | false =>
      have HV : Hid (fdV X = .tuple #[.agg #[.int .i64 0, .int .u64 0, .int .u64 0, .int .u64 0, .string ⟨#[]⟩, .bool false], .int .i64 31]) := by show _ = _; rw [HXS.out]; simp [fdV]
      go_wp2_with (refine wpList_store_row rfl 29 (.tmp 2) (.tmp 57) rfl w.heap.size #[.int .i64 0, .int .u64 0, .int .u64 0, .int .u64 0, .string ⟨#[]⟩, .bool false] rfl rfl 29 #[.int .i64 0, .int .u64 0, .int .u64 0, .int .u64 0, .string ⟨#[]⟩, .bool false] HR2.out info_endv rfl (by simp [Value.oneCell']) ?_)
      rw [HV.out]
      exact bodyPost_ret (results_ct_row' rfl _ _ w.heap.size 29 #[.int .i64 0, .int .u64 0, .int .u64 0, .int .u64 0, .string ⟨#[]⟩, .bool false] (0, 0) _ rfl (heap_setRow_same _ _ _ _ _ HR2.out) Try.underlying29 rfl info_endv) rfl ⟨rfl, below_setRow HB2.out (Nat.le_refl _) _⟩
    | true =>
    have m8_0 : w8.cell? ⟨g8, 0, none⟩ = some (.int .u32 (v1 : Nat)) := by rw [Lib.cell_of_heap H8.out]; rfl
    have m8_1 : w8.cell? ⟨g8, 1, none⟩ = some (.int .u32 (v2 : Nat)) := by rw [Lib.cell_of_heap H8.out]; rfl
    have m8_2 : w8.cell? ⟨g8, 2, none⟩ = some (.int .u64 (v3 : Nat)) := by rw [Lib.cell_of_heap H8.out]; rfl
    have m8_3 : w8.cell? ⟨g8, 3, none⟩ = some (.int .u64 (v4 : Nat)) := by rw [Lib.cell_of_heap H8.out]; rfl
    have m8_4 : w8.cell? ⟨g8, 4, none⟩ = some (.int .u64 (v5 : Nat)) := by rw [Lib.cell_of_heap H8.out]; rfl
    have m8_5 : w8.cell? ⟨g8, 5, none⟩ = some (.int .u64 (v6 : Nat)) := by rw [Lib.cell_of_heap H8.out]; rfl
    have m5_0 : w8.cell? ⟨g5, 0, none⟩ = some (.int .u32 (r1 : Nat)) := by rw [Lib.cell_of_heap H5.out]; rfl
    have m5_1 : w8.cell? ⟨g5, 1, none⟩ = some (.int .u32 (r2 : Nat)) := by rw [Lib.cell_of_heap H5.out]; rfl
    have m5_2 : w8.cell? ⟨g5, 2, none⟩ = some (.int .u64 (r3 : Nat)) := by rw [Lib.cell_of_heap H5.out]; rfl
    have m5_3 : w8.cell? ⟨g5, 3, none⟩ = some (.int .u64 (r4 : Nat)) := by rw [Lib.cell_of_heap H5.out]; rfl
    have m5_4 : w8.cell? ⟨g5, 4, none⟩ = some (.int .u64 (r5 : Nat)) := by rw [Lib.cell_of_heap H5.out]; rfl
    have m5_5 : w8.cell? ⟨g5, 5, none⟩ = some (.int .u64 (r6 : Nat)) := by rw [Lib.cell_of_heap H5.out]; rfl
    go_wp2_with fail
    clear m8_0 m8_1 m8_2 m8_3 m8_4 m8_5 m5_0 m5_1 m5_2 m5_3 m5_4 m5_5
    refine (HAG2.out _).mono ?_; rintro r w9 ⟨rfl, hb⟩
    replace H8 := Lib.hid ((hb.block _ (lt_of_some H8.out)).trans H8.out)
    replace H5 := Lib.hid ((hb.block _ (lt_of_some H5.out)).trans H5.out)
    replace HR2 := Lib.hid ((hb.block _ (lt_of_some HR2.out)).trans HR2.out)
    replace HB2 := Lib.hid (HB2.out.trans (hb.mono HB2.out.size))
    clear hb
    generalize hal : agB r4 r5 r6 v4 v5 v6 = b3 at *
    have HAG3 := Lib.hid hal
    clear hal
    cases b3 with
    | false =>
      have HV : Hid (fdV X = .tuple #[.agg #[.int .i64 0, .int .u64 0, .int .u64 0, .int .u64 0, .string ⟨#[]⟩, .bool false], .int .i64 31]) := by show _ = _; rw [HXS.out]; simp [fdV]
      go_wp2_with (refine wpList_store_row rfl 29 (.tmp 2) (.tmp 57) rfl w.heap.size #[.int .i64 0, .int .u64 0, .int .u64 0, .int .u64 0, .string ⟨#[]⟩, .bool false] rfl rfl 29 #[.int .i64 0, .int .u64 0, .int .u64 0, .int .u64 0, .string ⟨#[]⟩, .bool false] HR2.out info_endv rfl (by simp [Value.oneCell']) ?_)
      rw [HV.out]
      exact bodyPost_ret (results_ct_row' rfl _ _ w.heap.size 29 #[.int .i64 0, .int .u64 0, .int .u64 0, .int .u64 0, .string ⟨#[]⟩, .bool false] (0, 0) _ rfl (heap_setRow_same _ _ _ _ _ HR2.out) Try.underlying29 rfl info_endv) rfl ⟨rfl, below_setRow HB2.out (Nat.le_refl _) _⟩
    | true =>
      have HV : Hid (fdV X = .tuple #[.agg #[.int .i64 (p : Nat), .int .u64 (v4 : Nat), .int .u64 (v5 : Nat), .int .u64 (v6 : Nat), .string (s.extract (a + 22) s.size), .bool true], .int .i64 0]) := by show _ = _; rw [HXS.out]; simp [fdV]
      go_wp2_with (refine wpList_load_row rfl 41 (.tmp 8) rfl g8 rfl 41 _ (0, 0) _ H8.out Try.underlying41 rfl info_rec ?_)
      refine (HEN2.out _ _ _ _).mono ?_; rintro r wa ⟨rfl, hb⟩
      replace HR2 := Lib.hid ((hb.block _ (lt_of_some HR2.out)).trans HR2.out)
      replace HB2 := Lib.hid (HB2.out.trans (hb.mono HB2.out.size))
      clear hb
      go_wp2_with (refine wpList_store_row rfl 29 (.tmp 2) (.tmp 61) rfl w.heap.size #[.int .i64 (p : Nat), .int .u64 (v4 : Nat), .int .u64 (v5 : Nat), .int .u64 (v6 : Nat), .string (s.extract (a + 22) s.size), .bool true] rfl rfl 29 #[.int .i64 0, .int .u64 0, .int .u64 0, .int .u64 0, .string ⟨#[]⟩, .bool false] HR2.out info_endv rfl (by simp [Value.oneCell']) ?_)
      rw [HV.out]
      exact bodyPost_ret (results_ct_row' rfl _ _ w.heap.size 29 #[.int .i64 (p : Nat), .int .u64 (v4 : Nat), .int .u64 (v5 : Nat), .int .u64 (v6 : Nat), .string (s.extract (a + 22) s.size), .bool true] (0, 0) _ rfl (heap_setRow_same _ _ _ _ _ HR2.out) Try.underlying29 rfl info_endv) rfl ⟨rfl, below_setRow HB2.out (Nat.le_refl _) _⟩
end Go.Proofs.Ytlojhklhhdgkcaa
