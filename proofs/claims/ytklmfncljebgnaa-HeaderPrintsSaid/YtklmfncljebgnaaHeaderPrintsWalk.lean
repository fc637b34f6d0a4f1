/-
  The walk of HeaderPrints.
-/
import Derived.Test.YtklmfncljebgnaaHdU
import Derived.Deep.RegionHeld3
import Derived.Deep.CutRange
namespace Go.Proofs.Ytklmfncljebgnaa
set_option maxRecDepth 100000
set_option linter.unusedSimpArgs false
set_option linter.unusedVariables false
open Go.RowKit Go.Joins Go.Deep Go.Op
theorem rprintD (wide : Bool) (d0 d1 d2 : Nat) (ld0 : d0 < 4294967296) (ld1 : d1 < 18446744073709551616) (ld2 : d2 < 18446744073709551616) (A2 AW : Option Addr) (w : World) (hr : RdI w .u64 A2 (rowDescriptor d0 d1 d2)) (hrw : RdI w .i64 AW (wsD wide)) :
    Calls Try.prog 24 #[.slice A2 4 4, .slice AW 4 4] w fun e w' => e = .returned (.string (text (prN (rowDescriptor d0 d1 d2) (wsD wide)))) ∧ Below w.heap.size w w' := by
  have h := rprint_any A2 4 (rowDescriptor d0 d1 d2) AW 4 (wsD wide) (by cases wide <;> rfl) (by cases wide <;> decide) (by cases wide <;> decide) (by intro x hx; simp [rowDescriptor] at hx; omega) w hr hrw
  have hl : (wsD wide).length = 4 := by cases wide <;> rfl
  have hl2 : (rowDescriptor d0 d1 d2).length = 4 := rfl
  rw [hl, hl2] at h
  exact h
theorem rDescs_any (b : Bool) (w : World) : Calls Try.prog 20 #[.bool b] w fun e w' => e = .returned (.slice (some ⟨w.heap.size, 0, none⟩) 4 4) ∧ RdI w' .i64 (some ⟨w.heap.size, 0, none⟩) (wsD b) ∧ Below w.heap.size w w' := by
  cases b
  · exact rDesc_false w
  · exact rDesc_true w
set_option maxHeartbeats 40000000 in
theorem headerPrints_walk (ia0 : Int) (ia1 : Int) (ia2 : Int) (ia3 : Int) (ia4 : Int) (ia5 : Int) (ia6 : Int) (as7 : ByteArray) (as8 : ByteArray) (ib0 : Int) (ib1 : Int) (ib2 : Int) (ib3 : Int) (ib4 : Int) (ib5 : Int) (ib6 : Int) (ib7 : Int) (ib8 : Int) (ib9 : Int) (ib10 : Int) (ib11 : Int) (bs12 : ByteArray) (bs13 : ByteArray) (bs14 : ByteArray) (id0 : Int) (id1 : Int) (id2 : Int) (wide : Bool) (imore : Int) (fa0 : (Lit.int .u16 ia0).wf = true) (fa1 : (Lit.int .u16 ia1).wf = true) (fa2 : (Lit.int .u16 ia2).wf = true) (fa3 : (Lit.int .u32 ia3).wf = true) (fa4 : (Lit.int .u32 ia4).wf = true) (fa5 : (Lit.int .u32 ia5).wf = true) (fa6 : (Lit.int .u32 ia6).wf = true) (fas7 : as7.size ≤ maxLen) (fas8 : as8.size ≤ maxLen) (fb0 : (Lit.int .u16 ib0).wf = true) (fb1 : (Lit.int .u16 ib1).wf = true) (fb2 : (Lit.int .u16 ib2).wf = true) (fb3 : (Lit.int .u16 ib3).wf = true) (fb4 : (Lit.int .u32 ib4).wf = true) (fb5 : (Lit.int .u32 ib5).wf = true) (fb6 : (Lit.int .u32 ib6).wf = true) (fb7 : (Lit.int .u32 ib7).wf = true) (fb8 : (Lit.int .u16 ib8).wf = true) (fb9 : (Lit.int .u16 ib9).wf = true) (fb10 : (Lit.int .u32 ib10).wf = true) (fb11 : (Lit.int .u32 ib11).wf = true) (fbs12 : bs12.size ≤ maxLen) (fbs13 : bs13.size ≤ maxLen) (fbs14 : bs14.size ≤ maxLen) (fd0 : (Lit.int .u32 id0).wf = true) (fd1 : (Lit.int .u64 id1).wf = true) (fd2 : (Lit.int .u64 id2).wf = true) (fmore : (Lit.int .u8 imore).wf = true) (w : World) :
    Calls Try.prog 4 #[.agg #[.int .u16 ia0, .int .u16 ia1, .int .u16 ia2, .int .u32 ia3, .int .u32 ia4, .int .u32 ia5, .int .u32 ia6, .string as7, .string as8], .agg #[.int .u16 ib0, .int .u16 ib1, .int .u16 ib2, .int .u16 ib3, .int .u32 ib4, .int .u32 ib5, .int .u32 ib6, .int .u32 ib7, .int .u16 ib8, .int .u16 ib9, .int .u32 ib10, .int .u32 ib11, .string bs12, .string bs13, .string bs14], .agg #[.int .u32 id0, .int .u64 id1, .int .u64 id2], .bool wide, .int .u8 imore] w fun e w' => e = .returned (.bool true) ∧ Below w.heap.size w w' := by
  obtain ⟨a0, rfl, la0⟩ := nat_u16 fa0
  obtain ⟨a1, rfl, la1⟩ := nat_u16 fa1
  obtain ⟨a2, rfl, la2⟩ := nat_u16 fa2
  obtain ⟨a3, rfl, la3⟩ := nat_u32 fa3
  obtain ⟨a4, rfl, la4⟩ := nat_u32 fa4
  obtain ⟨a5, rfl, la5⟩ := nat_u32 fa5
  obtain ⟨a6, rfl, la6⟩ := nat_u32 fa6
  obtain ⟨b0, rfl, lb0⟩ := nat_u16 fb0
  obtain ⟨b1, rfl, lb1⟩ := nat_u16 fb1
  obtain ⟨b2, rfl, lb2⟩ := nat_u16 fb2
  obtain ⟨b3, rfl, lb3⟩ := nat_u16 fb3
  obtain ⟨b4, rfl, lb4⟩ := nat_u32 fb4
  obtain ⟨b5, rfl, lb5⟩ := nat_u32 fb5
  obtain ⟨b6, rfl, lb6⟩ := nat_u32 fb6
  obtain ⟨b7, rfl, lb7⟩ := nat_u32 fb7
  obtain ⟨b8, rfl, lb8⟩ := nat_u16 fb8
  obtain ⟨b9, rfl, lb9⟩ := nat_u16 fb9
  obtain ⟨b10, rfl, lb10⟩ := nat_u32 fb10
  obtain ⟨b11, rfl, lb11⟩ := nat_u32 fb11
  obtain ⟨d0, rfl, ld0⟩ := nat_u32 fd0
  obtain ⟨d1, rfl, ld1⟩ := nat_u64 fd1
  obtain ⟨d2, rfl, ld2⟩ := nat_u64 fd2
  obtain ⟨more, rfl, lmore⟩ := nat_u8 fmore
  unfold maxLen at *
  obtain ⟨M, hmx, hM7, hM8, hM12, hM13, hM14⟩ := max5 Try.prog #[3, 3, 3, 3, 3] 3 as7.size as8.size bs12.size bs13.size bs14.size
  have hA0 : (((w.alloc (.cells #[.int .u16 (a0 : Nat), .int .u16 (a1 : Nat), .int .u16 (a2 : Nat), .int .u32 (a3 : Nat), .int .u32 (a4 : Nat), .int .u32 (a5 : Nat), .int .u32 (a6 : Nat), .string as7, .string as8] 26)).alloc (.cells #[.int .u16 (b0 : Nat), .int .u16 (b1 : Nat), .int .u16 (b2 : Nat), .int .u16 (b3 : Nat), .int .u32 (b4 : Nat), .int .u32 (b5 : Nat), .int .u32 (b6 : Nat), .int .u32 (b7 : Nat), .int .u16 (b8 : Nat), .int .u16 (b9 : Nat), .int .u32 (b10 : Nat), .int .u32 (b11 : Nat), .string bs12, .string bs13, .string bs14] 40)).alloc (.cells #[.int .u32 (d0 : Nat), .int .u64 (d1 : Nat), .int .u64 (d2 : Nat)] 45)).heap[w.heap.size]? = some (.cells #[.int .u16 (a0 : Nat), .int .u16 (a1 : Nat), .int .u16 (a2 : Nat), .int .u32 (a3 : Nat), .int .u32 (a4 : Nat), .int .u32 (a5 : Nat), .int .u32 (a6 : Nat), .string as7, .string as8] 26 (0, 0)) := (Below.heap_alloc _ _ _ (by simp; omega)).trans ((Below.heap_alloc _ _ _ (by simp)).trans (heap_alloc_new _ _))
  have hB0 : (((w.alloc (.cells #[.int .u16 (a0 : Nat), .int .u16 (a1 : Nat), .int .u16 (a2 : Nat), .int .u32 (a3 : Nat), .int .u32 (a4 : Nat), .int .u32 (a5 : Nat), .int .u32 (a6 : Nat), .string as7, .string as8] 26)).alloc (.cells #[.int .u16 (b0 : Nat), .int .u16 (b1 : Nat), .int .u16 (b2 : Nat), .int .u16 (b3 : Nat), .int .u32 (b4 : Nat), .int .u32 (b5 : Nat), .int .u32 (b6 : Nat), .int .u32 (b7 : Nat), .int .u16 (b8 : Nat), .int .u16 (b9 : Nat), .int .u32 (b10 : Nat), .int .u32 (b11 : Nat), .string bs12, .string bs13, .string bs14] 40)).alloc (.cells #[.int .u32 (d0 : Nat), .int .u64 (d1 : Nat), .int .u64 (d2 : Nat)] 45)).heap[w.heap.size + 1]? = some (.cells #[.int .u16 (b0 : Nat), .int .u16 (b1 : Nat), .int .u16 (b2 : Nat), .int .u16 (b3 : Nat), .int .u32 (b4 : Nat), .int .u32 (b5 : Nat), .int .u32 (b6 : Nat), .int .u32 (b7 : Nat), .int .u16 (b8 : Nat), .int .u16 (b9 : Nat), .int .u32 (b10 : Nat), .int .u32 (b11 : Nat), .string bs12, .string bs13, .string bs14] 40 (0, 0)) := (Below.heap_alloc _ _ _ (by simp)).trans (heap_alloc_at (alloc_size _ _).symm)
  have hD0 : (((w.alloc (.cells #[.int .u16 (a0 : Nat), .int .u16 (a1 : Nat), .int .u16 (a2 : Nat), .int .u32 (a3 : Nat), .int .u32 (a4 : Nat), .int .u32 (a5 : Nat), .int .u32 (a6 : Nat), .string as7, .string as8] 26)).alloc (.cells #[.int .u16 (b0 : Nat), .int .u16 (b1 : Nat), .int .u16 (b2 : Nat), .int .u16 (b3 : Nat), .int .u32 (b4 : Nat), .int .u32 (b5 : Nat), .int .u32 (b6 : Nat), .int .u32 (b7 : Nat), .int .u16 (b8 : Nat), .int .u16 (b9 : Nat), .int .u32 (b10 : Nat), .int .u32 (b11 : Nat), .string bs12, .string bs13, .string bs14] 40)).alloc (.cells #[.int .u32 (d0 : Nat), .int .u64 (d1 : Nat), .int .u64 (d2 : Nat)] 45)).heap[w.heap.size + 2]? = some (.cells #[.int .u32 (d0 : Nat), .int .u64 (d1 : Nat), .int .u64 (d2 : Nat)] 45 (0, 0)) := heap_alloc_at (by simp)
  have HA := Lib.hid hA0
  have HBB := Lib.hid hB0
  have HD := Lib.hid hD0
  have HB0 : Hid (Below w.heap.size w (((w.alloc (.cells #[.int .u16 (a0 : Nat), .int .u16 (a1 : Nat), .int .u16 (a2 : Nat), .int .u32 (a3 : Nat), .int .u32 (a4 : Nat), .int .u32 (a5 : Nat), .int .u32 (a6 : Nat), .string as7, .string as8] 26)).alloc (.cells #[.int .u16 (b0 : Nat), .int .u16 (b1 : Nat), .int .u16 (b2 : Nat), .int .u16 (b3 : Nat), .int .u32 (b4 : Nat), .int .u32 (b5 : Nat), .int .u32 (b6 : Nat), .int .u32 (b7 : Nat), .int .u16 (b8 : Nat), .int .u16 (b9 : Nat), .int .u32 (b10 : Nat), .int .u32 (b11 : Nat), .string bs12, .string bs13, .string bs14] 40)).alloc (.cells #[.int .u32 (d0 : Nat), .int .u64 (d1 : Nat), .int .u64 (d2 : Nat)] 45))) := (((Below.refl _ _).alloc (Nat.le_refl _) _).alloc (by simp) _).alloc (by simp; omega) _
  have HMX := Lib.hid hmx
  clear hA0 hB0 hD0 hmx
  go_enter Try.func4, Try.ntmps4
  go_wp2_with fail
  generalize ((w.alloc (.cells #[.int .u16 (a0 : Nat), .int .u16 (a1 : Nat), .int .u16 (a2 : Nat), .int .u32 (a3 : Nat), .int .u32 (a4 : Nat), .int .u32 (a5 : Nat), .int .u32 (a6 : Nat), .string as7, .string as8] 26)).alloc (.cells #[.int .u16 (b0 : Nat), .int .u16 (b1 : Nat), .int .u16 (b2 : Nat), .int .u16 (b3 : Nat), .int .u32 (b4 : Nat), .int .u32 (b5 : Nat), .int .u32 (b6 : Nat), .int .u32 (b7 : Nat), .int .u16 (b8 : Nat), .int .u16 (b9 : Nat), .int .u32 (b10 : Nat), .int .u32 (b11 : Nat), .string bs12, .string bs13, .string bs14] 40)).alloc (.cells #[.int .u32 (d0 : Nat), .int .u64 (d1 : Nat), .int .u64 (d2 : Nat)] 45) = w0 at *
  rw [show w.heap.size + 1 + 1 = w.heap.size + 2 from rfl]
  generalize hgB : w.heap.size + 1 = gB at *
  generalize hgD : w.heap.size + 2 = gD at *
  have HGB := Lib.hid hgB
  have HGD := Lib.hid hgD
  clear hgB hgD
  refine (awake17_any _).mono ?_; rintro r wa ⟨rfl, hb⟩
  replace HA := Lib.hid ((hb.block _ (lt_of_some HA.out)).trans HA.out)
  replace HBB := Lib.hid ((hb.block _ (lt_of_some HBB.out)).trans HBB.out)
  replace HD := Lib.hid ((hb.block _ (lt_of_some HD.out)).trans HD.out)
  have HB := Lib.hid (below_then HB0.out hb)
  clear hb HB0
  have hmx := HMX.out
  have c7 : wa.cell? ⟨w.heap.size, 7, none⟩ = some (.string as7) := by rw [Lib.cell_of_heap HA.out]; rfl
  have c8 : wa.cell? ⟨w.heap.size, 8, none⟩ = some (.string as8) := by rw [Lib.cell_of_heap HA.out]; rfl
  have d12 : wa.cell? ⟨gB, 12, none⟩ = some (.string bs12) := by rw [Lib.cell_of_heap HBB.out]; rfl
  have d13 : wa.cell? ⟨gB, 13, none⟩ = some (.string bs13) := by rw [Lib.cell_of_heap HBB.out]; rfl
  have d14 : wa.cell? ⟨gB, 14, none⟩ = some (.string bs14) := by rw [Lib.cell_of_heap HBB.out]; rfl
  by_cases hbig : 3000 < M
  · have hdd : decide ((3000 : Int) < (M : Int)) = true := decide_eq_true (by omega)
    go_wp2_with fail
    go_ret
    exact ⟨rfl, HB.out⟩
  have hdd : decide ((3000 : Int) < (M : Int)) = false := decide_eq_false (by omega)
  obtain ⟨LG, O, hLG, hmk, hcv⟩ := long_ex
  go_upto_region 6 with fail
  clear hcv hmk hmx HMX c7 c8 d12 d13 d14
  have hB2 := HB.out.alloc HB.out.size O
  replace HA := Lib.hid ((Below.heap_alloc wa O _ (lt_of_some HA.out)).trans HA.out)
  replace HBB := Lib.hid ((Below.heap_alloc wa O _ (lt_of_some HBB.out)).trans HBB.out)
  replace HD := Lib.hid ((Below.heap_alloc wa O _ (lt_of_some HD.out)).trans HD.out)
  replace HB := Lib.hid hB2
  clear hB2
  generalize wa.alloc O = wb at *
  generalize hgA : w.heap.size = gA at *
  have HGA := Lib.hid hgA
  clear hgA
  have hM3 : M ≤ 3000 := by omega
  clear hdd hbig
  by_cases hk : more = 1
  · as_aux_lemma =>
      subst hk
      have u0 := HA.out
      have k0 : wb.cell? ⟨gA, 7, none⟩ = some (.string as7) := by rw [Lib.cell_of_heap u0]; rfl
      have q0 := Lib.frozen_of_heap u0 7
      have u1 : (wb.setCell ⟨gA, 7, none⟩ (.string LG)).heap[gA]? = some (.cells #[.int .u16 (a0 : Nat), .int .u16 (a1 : Nat), .int .u16 (a2 : Nat), .int .u32 (a3 : Nat), .int .u32 (a4 : Nat), .int .u32 (a5 : Nat), .int .u32 (a6 : Nat), .string LG, .string as8] 26 (0, 0)) := Go.heap_setCell_same wb gA 7 _ _ _ u0
      have UB : Hid (Below gA w (wb.setCell ⟨gA, 7, none⟩ (.string LG))) := HB.out.setCell (by show gA ≤ gA; have := HGB.out; have := HGA.out; omega) _
      have UA := Lib.hid u1
      have UBB : Hid ((wb.setCell ⟨gA, 7, none⟩ (.string LG)).heap[gB]? = some (.cells #[.int .u16 (b0 : Nat), .int .u16 (b1 : Nat), .int .u16 (b2 : Nat), .int .u16 (b3 : Nat), .int .u32 (b4 : Nat), .int .u32 (b5 : Nat), .int .u32 (b6 : Nat), .int .u32 (b7 : Nat), .int .u16 (b8 : Nat), .int .u16 (b9 : Nat), .int .u32 (b10 : Nat), .int .u32 (b11 : Nat), .string bs12, .string bs13, .string bs14] 40 (0, 0))) := by
        show _ = _
        rw [Below.heap_setCell _ _ _ _ (by show gB ≠ gA; have := HGB.out; have := HGA.out; omega)]
        exact HBB.out
      obtain ⟨XA, eA, hfA⟩ := prL_form a0 a1 a2 a3 a4 a5 a6 LG as8
      obtain ⟨XB, eB, hfB⟩ := prC_form b0 b1 b2 b3 b4 b5 b6 b7 b8 b9 b10 b11 bs12 bs13 bs14
      have HPL := Lib.hid (fun w => printL_any a0 a1 a2 a3 a4 a5 a6 la0 la1 la2 la3 la4 la5 la6 LG as8 (by omega) (by omega) w)
      have HPC := Lib.hid (fun w => printC_any b0 b1 b2 b3 b4 b5 b6 b7 b8 b9 b10 b11 lb0 lb1 lb2 lb3 lb4 lb5 lb6 lb7 lb8 lb9 lb10 lb11 bs12 bs13 bs14 (by omega) (by omega) (by omega) w)
      have hno : prL a0 a1 a2 a3 a4 a5 a6 LG as8 = .tuple #[.string ⟨#[]⟩, .int .i64 5] := if_neg (fits_no (x := LG) (by simp) (by omega))
      rw [hno] at HPL
      rw [hfB] at HPC
      clear hno hfA hfB u0 u1
      have hx := UA.out
      go_wp2_with (refine wpList_load_row rfl 26 (.tmp 5) rfl gA rfl 26 _ (0, 0) _ UA.out Try.underlying26 rfl info_L ?_)
      generalize wb.setCell ⟨gA, 7, none⟩ (.string LG) = wc at *
      clear k0 q0 hx
      refine (HPL.out _).mono ?_; rintro r wd ⟨rfl, hbd⟩
      have UBB2 := Lib.hid ((hbd.block _ (lt_of_some UBB.out)).trans UBB.out)
      have UB2 := Lib.hid (UB.out.trans (hbd.mono (Nat.le_of_lt (lt_of_some UA.out))))
      have ULT : Hid (gA ≤ wd.heap.size) := Nat.le_trans (Nat.le_of_lt (lt_of_some UA.out)) hbd.size
      clear hbd UBB UB UA HPL
      go_wp2_with (refine wpList_load_row rfl 40 (.tmp 6) rfl gB rfl 40 _ (0, 0) _ UBB2.out Try.underlying40 rfl info_C ?_)
      refine (HPC.out _).mono ?_; rintro r we ⟨rfl, hbe⟩
      have UB3 := Lib.hid (UB2.out.trans (hbe.mono ULT.out))
      clear hbe UBB2 UB2 HPC
      go_wp2_with fail
      go_ret
      exact ⟨rfl, by rw [HGA.out]; exact UB3.out⟩
  have kk1 : (((more : Nat) : Int) == 1) = false := by rw [beq_eq_false_iff_ne]; omega
  by_cases hk : more = 2
  · as_aux_lemma =>
      subst hk
      have u0 := HA.out
      have k0 : wb.cell? ⟨gA, 8, none⟩ = some (.string as8) := by rw [Lib.cell_of_heap u0]; rfl
      have q0 := Lib.frozen_of_heap u0 8
      have u1 : (wb.setCell ⟨gA, 8, none⟩ (.string LG)).heap[gA]? = some (.cells #[.int .u16 (a0 : Nat), .int .u16 (a1 : Nat), .int .u16 (a2 : Nat), .int .u32 (a3 : Nat), .int .u32 (a4 : Nat), .int .u32 (a5 : Nat), .int .u32 (a6 : Nat), .string as7, .string LG] 26 (0, 0)) := Go.heap_setCell_same wb gA 8 _ _ _ u0
      have UB : Hid (Below gA w (wb.setCell ⟨gA, 8, none⟩ (.string LG))) := HB.out.setCell (by show gA ≤ gA; have := HGB.out; have := HGA.out; omega) _
      have UA := Lib.hid u1
      have UBB : Hid ((wb.setCell ⟨gA, 8, none⟩ (.string LG)).heap[gB]? = some (.cells #[.int .u16 (b0 : Nat), .int .u16 (b1 : Nat), .int .u16 (b2 : Nat), .int .u16 (b3 : Nat), .int .u32 (b4 : Nat), .int .u32 (b5 : Nat), .int .u32 (b6 : Nat), .int .u32 (b7 : Nat), .int .u16 (b8 : Nat), .int .u16 (b9 : Nat), .int .u32 (b10 : Nat), .int .u32 (b11 : Nat), .string bs12, .string bs13, .string bs14] 40 (0, 0))) := by
        show _ = _
        rw [Below.heap_setCell _ _ _ _ (by show gB ≠ gA; have := HGB.out; have := HGA.out; omega)]
        exact HBB.out
      obtain ⟨XA, eA, hfA⟩ := prL_form a0 a1 a2 a3 a4 a5 a6 as7 LG
      obtain ⟨XB, eB, hfB⟩ := prC_form b0 b1 b2 b3 b4 b5 b6 b7 b8 b9 b10 b11 bs12 bs13 bs14
      have HPL := Lib.hid (fun w => printL_any a0 a1 a2 a3 a4 a5 a6 la0 la1 la2 la3 la4 la5 la6 as7 LG (by omega) (by omega) w)
      have HPC := Lib.hid (fun w => printC_any b0 b1 b2 b3 b4 b5 b6 b7 b8 b9 b10 b11 lb0 lb1 lb2 lb3 lb4 lb5 lb6 lb7 lb8 lb9 lb10 lb11 bs12 bs13 bs14 (by omega) (by omega) (by omega) w)
      have hno : prL a0 a1 a2 a3 a4 a5 a6 as7 LG = .tuple #[.string ⟨#[]⟩, .int .i64 5] := if_neg (fits_no (x := LG) (by simp) (by omega))
      rw [hno] at HPL
      rw [hfB] at HPC
      clear hno hfA hfB u0 u1
      have hx := UA.out
      go_wp2_with (refine wpList_load_row rfl 26 (.tmp 5) rfl gA rfl 26 _ (0, 0) _ UA.out Try.underlying26 rfl info_L ?_)
      generalize wb.setCell ⟨gA, 8, none⟩ (.string LG) = wc at *
      clear k0 q0 hx
      refine (HPL.out _).mono ?_; rintro r wd ⟨rfl, hbd⟩
      have UBB2 := Lib.hid ((hbd.block _ (lt_of_some UBB.out)).trans UBB.out)
      have UB2 := Lib.hid (UB.out.trans (hbd.mono (Nat.le_of_lt (lt_of_some UA.out))))
      have ULT : Hid (gA ≤ wd.heap.size) := Nat.le_trans (Nat.le_of_lt (lt_of_some UA.out)) hbd.size
      clear hbd UBB UB UA HPL
      go_wp2_with (refine wpList_load_row rfl 40 (.tmp 6) rfl gB rfl 40 _ (0, 0) _ UBB2.out Try.underlying40 rfl info_C ?_)
      refine (HPC.out _).mono ?_; rintro r we ⟨rfl, hbe⟩
      have UB3 := Lib.hid (UB2.out.trans (hbe.mono ULT.out))
      clear hbe UBB2 UB2 HPC
      go_wp2_with fail
      go_ret
      exact ⟨rfl, by rw [HGA.out]; exact UB3.out⟩
  have kk2 : (((more : Nat) : Int) == 2) = false := by rw [beq_eq_false_iff_ne]; omega
  by_cases hk : more = 3
  · as_aux_lemma =>
      subst hk
      have u0 := HBB.out
      have k0 : wb.cell? ⟨gB, 12, none⟩ = some (.string bs12) := by rw [Lib.cell_of_heap u0]; rfl
      have q0 := Lib.frozen_of_heap u0 12
      have u1 : (wb.setCell ⟨gB, 12, none⟩ (.string LG)).heap[gB]? = some (.cells #[.int .u16 (b0 : Nat), .int .u16 (b1 : Nat), .int .u16 (b2 : Nat), .int .u16 (b3 : Nat), .int .u32 (b4 : Nat), .int .u32 (b5 : Nat), .int .u32 (b6 : Nat), .int .u32 (b7 : Nat), .int .u16 (b8 : Nat), .int .u16 (b9 : Nat), .int .u32 (b10 : Nat), .int .u32 (b11 : Nat), .string LG, .string bs13, .string bs14] 40 (0, 0)) := Go.heap_setCell_same wb gB 12 _ _ _ u0
      have UB : Hid (Below gA w (wb.setCell ⟨gB, 12, none⟩ (.string LG))) := HB.out.setCell (by show gA ≤ gB; have := HGB.out; have := HGA.out; omega) _
      have UBB := Lib.hid u1
      have UA : Hid ((wb.setCell ⟨gB, 12, none⟩ (.string LG)).heap[gA]? = some (.cells #[.int .u16 (a0 : Nat), .int .u16 (a1 : Nat), .int .u16 (a2 : Nat), .int .u32 (a3 : Nat), .int .u32 (a4 : Nat), .int .u32 (a5 : Nat), .int .u32 (a6 : Nat), .string as7, .string as8] 26 (0, 0))) := by
        show _ = _
        rw [Below.heap_setCell _ _ _ _ (by show gA ≠ gB; have := HGB.out; have := HGA.out; omega)]
        exact HA.out
      obtain ⟨XA, eA, hfA⟩ := prL_form a0 a1 a2 a3 a4 a5 a6 as7 as8
      obtain ⟨XB, eB, hfB⟩ := prC_form b0 b1 b2 b3 b4 b5 b6 b7 b8 b9 b10 b11 LG bs13 bs14
      have HPL := Lib.hid (fun w => printL_any a0 a1 a2 a3 a4 a5 a6 la0 la1 la2 la3 la4 la5 la6 as7 as8 (by omega) (by omega) w)
      have HPC := Lib.hid (fun w => printC_any b0 b1 b2 b3 b4 b5 b6 b7 b8 b9 b10 b11 lb0 lb1 lb2 lb3 lb4 lb5 lb6 lb7 lb8 lb9 lb10 lb11 LG bs13 bs14 (by omega) (by omega) (by omega) w)
      have hno : prC b0 b1 b2 b3 b4 b5 b6 b7 b8 b9 b10 b11 LG bs13 bs14 = .tuple #[.string ⟨#[]⟩, .int .i64 5] := if_neg (fits_no (x := LG) (by simp) (by omega))
      rw [hno] at HPC
      rw [hfA] at HPL
      clear hno hfA hfB u0 u1
      have hx := UA.out
      go_wp2_with (refine wpList_load_row rfl 26 (.tmp 5) rfl gA rfl 26 _ (0, 0) _ UA.out Try.underlying26 rfl info_L ?_)
      generalize wb.setCell ⟨gB, 12, none⟩ (.string LG) = wc at *
      clear k0 q0 hx
      refine (HPL.out _).mono ?_; rintro r wd ⟨rfl, hbd⟩
      have UBB2 := Lib.hid ((hbd.block _ (lt_of_some UBB.out)).trans UBB.out)
      have UB2 := Lib.hid (UB.out.trans (hbd.mono (Nat.le_of_lt (lt_of_some UA.out))))
      have ULT : Hid (gA ≤ wd.heap.size) := Nat.le_trans (Nat.le_of_lt (lt_of_some UA.out)) hbd.size
      clear hbd UBB UB UA HPL
      go_wp2_with (refine wpList_load_row rfl 40 (.tmp 6) rfl gB rfl 40 _ (0, 0) _ UBB2.out Try.underlying40 rfl info_C ?_)
      refine (HPC.out _).mono ?_; rintro r we ⟨rfl, hbe⟩
      have UB3 := Lib.hid (UB2.out.trans (hbe.mono ULT.out))
      clear hbe UBB2 UB2 HPC
      go_wp2_with fail
      go_ret
      exact ⟨rfl, by rw [HGA.out]; exact UB3.out⟩
  have kk3 : (((more : Nat) : Int) == 3) = false := by rw [beq_eq_false_iff_ne]; omega
  by_cases hk : more = 4
  · as_aux_lemma =>
      subst hk
      have u0 := HBB.out
      have k0 : wb.cell? ⟨gB, 13, none⟩ = some (.string bs13) := by rw [Lib.cell_of_heap u0]; rfl
      have q0 := Lib.frozen_of_heap u0 13
      have u1 : (wb.setCell ⟨gB, 13, none⟩ (.string LG)).heap[gB]? = some (.cells #[.int .u16 (b0 : Nat), .int .u16 (b1 : Nat), .int .u16 (b2 : Nat), .int .u16 (b3 : Nat), .int .u32 (b4 : Nat), .int .u32 (b5 : Nat), .int .u32 (b6 : Nat), .int .u32 (b7 : Nat), .int .u16 (b8 : Nat), .int .u16 (b9 : Nat), .int .u32 (b10 : Nat), .int .u32 (b11 : Nat), .string bs12, .string LG, .string bs14] 40 (0, 0)) := Go.heap_setCell_same wb gB 13 _ _ _ u0
      have UB : Hid (Below gA w (wb.setCell ⟨gB, 13, none⟩ (.string LG))) := HB.out.setCell (by show gA ≤ gB; have := HGB.out; have := HGA.out; omega) _
      have UBB := Lib.hid u1
      have UA : Hid ((wb.setCell ⟨gB, 13, none⟩ (.string LG)).heap[gA]? = some (.cells #[.int .u16 (a0 : Nat), .int .u16 (a1 : Nat), .int .u16 (a2 : Nat), .int .u32 (a3 : Nat), .int .u32 (a4 : Nat), .int .u32 (a5 : Nat), .int .u32 (a6 : Nat), .string as7, .string as8] 26 (0, 0))) := by
        show _ = _
        rw [Below.heap_setCell _ _ _ _ (by show gA ≠ gB; have := HGB.out; have := HGA.out; omega)]
        exact HA.out
      obtain ⟨XA, eA, hfA⟩ := prL_form a0 a1 a2 a3 a4 a5 a6 as7 as8
      obtain ⟨XB, eB, hfB⟩ := prC_form b0 b1 b2 b3 b4 b5 b6 b7 b8 b9 b10 b11 bs12 LG bs14
      have HPL := Lib.hid (fun w => printL_any a0 a1 a2 a3 a4 a5 a6 la0 la1 la2 la3 la4 la5 la6 as7 as8 (by omega) (by omega) w)
      have HPC := Lib.hid (fun w => printC_any b0 b1 b2 b3 b4 b5 b6 b7 b8 b9 b10 b11 lb0 lb1 lb2 lb3 lb4 lb5 lb6 lb7 lb8 lb9 lb10 lb11 bs12 LG bs14 (by omega) (by omega) (by omega) w)
      have hno : prC b0 b1 b2 b3 b4 b5 b6 b7 b8 b9 b10 b11 bs12 LG bs14 = .tuple #[.string ⟨#[]⟩, .int .i64 5] := if_neg (fits_no (x := LG) (by simp) (by omega))
      rw [hno] at HPC
      rw [hfA] at HPL
      clear hno hfA hfB u0 u1
      have hx := UA.out
      go_wp2_with (refine wpList_load_row rfl 26 (.tmp 5) rfl gA rfl 26 _ (0, 0) _ UA.out Try.underlying26 rfl info_L ?_)
      generalize wb.setCell ⟨gB, 13, none⟩ (.string LG) = wc at *
      clear k0 q0 hx
      refine (HPL.out _).mono ?_; rintro r wd ⟨rfl, hbd⟩
      have UBB2 := Lib.hid ((hbd.block _ (lt_of_some UBB.out)).trans UBB.out)
      have UB2 := Lib.hid (UB.out.trans (hbd.mono (Nat.le_of_lt (lt_of_some UA.out))))
      have ULT : Hid (gA ≤ wd.heap.size) := Nat.le_trans (Nat.le_of_lt (lt_of_some UA.out)) hbd.size
      clear hbd UBB UB UA HPL
      go_wp2_with (refine wpList_load_row rfl 40 (.tmp 6) rfl gB rfl 40 _ (0, 0) _ UBB2.out Try.underlying40 rfl info_C ?_)
      refine (HPC.out _).mono ?_; rintro r we ⟨rfl, hbe⟩
      have UB3 := Lib.hid (UB2.out.trans (hbe.mono ULT.out))
      clear hbe UBB2 UB2 HPC
      go_wp2_with fail
      go_ret
      exact ⟨rfl, by rw [HGA.out]; exact UB3.out⟩
  have kk4 : (((more : Nat) : Int) == 4) = false := by rw [beq_eq_false_iff_ne]; omega
  by_cases hk : more = 5
  · as_aux_lemma =>
      subst hk
      have u0 := HBB.out
      have k0 : wb.cell? ⟨gB, 14, none⟩ = some (.string bs14) := by rw [Lib.cell_of_heap u0]; rfl
      have q0 := Lib.frozen_of_heap u0 14
      have u1 : (wb.setCell ⟨gB, 14, none⟩ (.string LG)).heap[gB]? = some (.cells #[.int .u16 (b0 : Nat), .int .u16 (b1 : Nat), .int .u16 (b2 : Nat), .int .u16 (b3 : Nat), .int .u32 (b4 : Nat), .int .u32 (b5 : Nat), .int .u32 (b6 : Nat), .int .u32 (b7 : Nat), .int .u16 (b8 : Nat), .int .u16 (b9 : Nat), .int .u32 (b10 : Nat), .int .u32 (b11 : Nat), .string bs12, .string bs13, .string LG] 40 (0, 0)) := Go.heap_setCell_same wb gB 14 _ _ _ u0
      have UB : Hid (Below gA w (wb.setCell ⟨gB, 14, none⟩ (.string LG))) := HB.out.setCell (by show gA ≤ gB; have := HGB.out; have := HGA.out; omega) _
      have UBB := Lib.hid u1
      have UA : Hid ((wb.setCell ⟨gB, 14, none⟩ (.string LG)).heap[gA]? = some (.cells #[.int .u16 (a0 : Nat), .int .u16 (a1 : Nat), .int .u16 (a2 : Nat), .int .u32 (a3 : Nat), .int .u32 (a4 : Nat), .int .u32 (a5 : Nat), .int .u32 (a6 : Nat), .string as7, .string as8] 26 (0, 0))) := by
        show _ = _
        rw [Below.heap_setCell _ _ _ _ (by show gA ≠ gB; have := HGB.out; have := HGA.out; omega)]
        exact HA.out
      obtain ⟨XA, eA, hfA⟩ := prL_form a0 a1 a2 a3 a4 a5 a6 as7 as8
      obtain ⟨XB, eB, hfB⟩ := prC_form b0 b1 b2 b3 b4 b5 b6 b7 b8 b9 b10 b11 bs12 bs13 LG
      have HPL := Lib.hid (fun w => printL_any a0 a1 a2 a3 a4 a5 a6 la0 la1 la2 la3 la4 la5 la6 as7 as8 (by omega) (by omega) w)
      have HPC := Lib.hid (fun w => printC_any b0 b1 b2 b3 b4 b5 b6 b7 b8 b9 b10 b11 lb0 lb1 lb2 lb3 lb4 lb5 lb6 lb7 lb8 lb9 lb10 lb11 bs12 bs13 LG (by omega) (by omega) (by omega) w)
      have hno : prC b0 b1 b2 b3 b4 b5 b6 b7 b8 b9 b10 b11 bs12 bs13 LG = .tuple #[.string ⟨#[]⟩, .int .i64 5] := if_neg (fits_no (x := LG) (by simp) (by omega))
      rw [hno] at HPC
      rw [hfA] at HPL
      clear hno hfA hfB u0 u1
      have hx := UA.out
      go_wp2_with (refine wpList_load_row rfl 26 (.tmp 5) rfl gA rfl 26 _ (0, 0) _ UA.out Try.underlying26 rfl info_L ?_)
      generalize wb.setCell ⟨gB, 14, none⟩ (.string LG) = wc at *
      clear k0 q0 hx
      refine (HPL.out _).mono ?_; rintro r wd ⟨rfl, hbd⟩
      have UBB2 := Lib.hid ((hbd.block _ (lt_of_some UBB.out)).trans UBB.out)
      have UB2 := Lib.hid (UB.out.trans (hbd.mono (Nat.le_of_lt (lt_of_some UA.out))))
      have ULT : Hid (gA ≤ wd.heap.size) := Nat.le_trans (Nat.le_of_lt (lt_of_some UA.out)) hbd.size
      clear hbd UBB UB UA HPL
      go_wp2_with (refine wpList_load_row rfl 40 (.tmp 6) rfl gB rfl 40 _ (0, 0) _ UBB2.out Try.underlying40 rfl info_C ?_)
      refine (HPC.out _).mono ?_; rintro r we ⟨rfl, hbe⟩
      have UB3 := Lib.hid (UB2.out.trans (hbe.mono ULT.out))
      clear hbe UBB2 UB2 HPC
      go_wp2_with fail
      go_ret
      exact ⟨rfl, by rw [HGA.out]; exact UB3.out⟩
  have kk5 : (((more : Nat) : Int) == 5) = false := by rw [beq_eq_false_iff_ne]; omega
  have hge : (decide ((3 : Int) ≤ (more : Int)) && decide ((more : Int) ≤ 5)) = false := by
    rw [Bool.and_eq_false_iff, decide_eq_false_iff_not, decide_eq_false_iff_not]
    omega
  have hfA : prL a0 a1 a2 a3 a4 a5 a6 as7 as8 = .tuple #[.string (txL a0 a1 a2 a3 a4 a5 a6 as7 as8), .int .i64 0] := if_pos (fits_yes (by intro x hx; simp at hx; rcases hx with rfl | rfl <;> omega))
  have hfB : prC b0 b1 b2 b3 b4 b5 b6 b7 b8 b9 b10 b11 bs12 bs13 bs14 = .tuple #[.string (txC b0 b1 b2 b3 b4 b5 b6 b7 b8 b9 b10 b11 bs12 bs13 bs14), .int .i64 0] := if_pos (fits_yes (by intro x hx; simp at hx; rcases hx with rfl | rfl | rfl <;> omega))
  have HPL := Lib.hid (fun w => printL_any a0 a1 a2 a3 a4 a5 a6 la0 la1 la2 la3 la4 la5 la6 as7 as8 (by omega) (by omega) w)
  have HPC := Lib.hid (fun w => printC_any b0 b1 b2 b3 b4 b5 b6 b7 b8 b9 b10 b11 lb0 lb1 lb2 lb3 lb4 lb5 lb6 lb7 lb8 lb9 lb10 lb11 bs12 bs13 bs14 (by omega) (by omega) (by omega) w)
  rw [hfA, tx_L] at HPL
  rw [hfB, tx_C] at HPC
  have HDD := Lib.hid (fun w => printD_any d0 d1 d2 ld0 ld1 ld2 wide w)
  rw [tx_D] at HDD
  have HLA := Lib.hid (fun w => locals_any a0 a1 a2 a3 a4 a5 a6 la0 la1 la2 la3 la4 la5 la6 as7 as8 (by omega) (by omega) w)
  have HLB := Lib.hid (fun w => centrals_any b0 b1 b2 b3 b4 b5 b6 b7 b8 b9 b10 b11 lb0 lb1 lb2 lb3 lb4 lb5 lb6 lb7 lb8 lb9 lb10 lb11 bs12 bs13 bs14 (by omega) (by omega) (by omega) w)
  have HLD := Lib.hid (fun w => descriptors_any d0 d1 d2 ld0 ld1 ld2 w)
  have HDS := Lib.hid (fun w => rDescs_any wide w)
  have HPA := Lib.hid (fun g g2 w hr hrw => rprint_any (some ⟨g, 0, none⟩) 10 (rowLocal a0 a1 a2 a3 a4 a5 a6 as7 as8) (some ⟨g2, 0, none⟩) 10 wsLocals rfl (by decide) (by decide) (by intro x hx; simp [rowLocal] at hx; omega) w hr hrw)
  have HPB := Lib.hid (fun g g2 w hr hrw => rprint_any (some ⟨g, 0, none⟩) 16 (rowCentral b0 b1 b2 b3 b4 b5 b6 b7 b8 b9 b10 b11 bs12 bs13 bs14) (some ⟨g2, 0, none⟩) 16 wsCentrals rfl (by decide) (by decide) (by intro x hx; simp [rowCentral] at hx; omega) w hr hrw)
  have HPD := Lib.hid (fun g g2 w hr hrw => rprintD wide d0 d1 d2 ld0 ld1 ld2 (some ⟨g, 0, none⟩) (some ⟨g2, 0, none⟩) w hr hrw)
  have hlA : (text (prN (rowLocal a0 a1 a2 a3 a4 a5 a6 as7 as8) wsLocals)).size ≤ 1000 := by rw [text_size, prN_len (rowLocal a0 a1 a2 a3 a4 a5 a6 as7 as8) wsLocals rfl]; decide
  have hlB : (text (prN (rowCentral b0 b1 b2 b3 b4 b5 b6 b7 b8 b9 b10 b11 bs12 bs13 bs14) wsCentrals)).size ≤ 1000 := by rw [text_size, prN_len (rowCentral b0 b1 b2 b3 b4 b5 b6 b7 b8 b9 b10 b11 bs12 bs13 bs14) wsCentrals rfl]; decide
  obtain ⟨PA, hPA⟩ : ∃ P, P = text (prN (rowLocal a0 a1 a2 a3 a4 a5 a6 as7 as8) wsLocals) := ⟨_, rfl⟩
  obtain ⟨PB, hPB⟩ : ∃ P, P = text (prN (rowCentral b0 b1 b2 b3 b4 b5 b6 b7 b8 b9 b10 b11 bs12 bs13 bs14) wsCentrals) := ⟨_, rfl⟩
  obtain ⟨PD, hPD⟩ : ∃ P, P = text (prN (rowDescriptor d0 d1 d2) (wsD wide)) := ⟨_, rfl⟩
  rw [← hPA] at HPL HPA hlA
  rw [← hPB] at HPC HPB hlB
  rw [← hPD] at HDD HPD
  obtain ⟨X, hX⟩ : ∃ X, X = PA ++ as7 ++ as8 := ⟨_, rfl⟩
  obtain ⟨Y, hY⟩ : ∃ X, X = PB ++ bs12 ++ bs13 ++ bs14 := ⟨_, rfl⟩
  rw [← hX] at HPL
  rw [← hY] at HPC
  have hqX := tx_eq hX
  have hqY := tx_eq hY
  have hzA : (PA ++ as7).size = PA.size + as7.size := ByteArray.size_append
  have hzB : (PB ++ bs12).size = PB.size + bs12.size := ByteArray.size_append
  have hzB2 : (PB ++ bs12 ++ bs13).size = PB.size + bs12.size + bs13.size := by rw [ByteArray.size_append, ByteArray.size_append]
  have HqX := Lib.hid hqX
  have HqY := Lib.hid hqY
  have HhX := Lib.hid hX
  have HhY := Lib.hid hY
  clear hPA hPB hPD hX hY hfA hfB hqX hqY
  go_wp2_with (refine wpList_load_row rfl 26 (.tmp 5) rfl gA rfl 26 _ (0, 0) _ HA.out Try.underlying26 rfl info_L ?_)
  refine (HPL.out _).mono ?_; rintro r wd ⟨rfl, hbd⟩
  have HA2 := Lib.hid ((hbd.block _ (lt_of_some HA.out)).trans HA.out)
  have HBB2 := Lib.hid ((hbd.block _ (lt_of_some HBB.out)).trans HBB.out)
  have HD2 := Lib.hid ((hbd.block _ (lt_of_some HD.out)).trans HD.out)
  have HB2 := Lib.hid (HB.out.trans (hbd.mono (Nat.le_of_lt (lt_of_some HA.out))))
  clear hbd HA HBB HD HB HPL
  go_wp2_with (refine wpList_load_row rfl 40 (.tmp 6) rfl gB rfl 40 _ (0, 0) _ HBB2.out Try.underlying40 rfl info_C ?_)
  refine (HPC.out _).mono ?_; rintro r we ⟨rfl, hbe⟩
  have HA := Lib.hid ((hbe.block _ (lt_of_some HA2.out)).trans HA2.out)
  have HBB := Lib.hid ((hbe.block _ (lt_of_some HBB2.out)).trans HBB2.out)
  have HD := Lib.hid ((hbe.block _ (lt_of_some HD2.out)).trans HD2.out)
  have HB := Lib.hid (HB2.out.trans (hbe.mono (Nat.le_of_lt (lt_of_some HA2.out))))
  clear hbe HA2 HBB2 HD2 HB2 HPC
  clear hge
  go_upto_region 21 with fail
  go_cut [85] from 80 to 91 (fun b wx => b = .bool false ∧ wx = we)
  case first =>
    by_cases h3 : 3 ≤ more
    · have e1 : decide ((3 : Int) ≤ (more : Int)) = true := decide_eq_true (by omega)
      have e2 : decide ((more : Int) ≤ 5) = false := decide_eq_false (by omega)
      have e3 : ¬ more ≤ 5 := by omega
      go_wp2_with fail
      go_meet
      exact ⟨rfl, rfl⟩
    · have e1 : decide ((3 : Int) ≤ (more : Int)) = false := decide_eq_false (by omega)
      go_wp2_with fail
      go_meet
      exact ⟨rfl, rfl⟩
  case rest =>
  obtain ⟨rfl, hwc⟩ := hcut
  have hwc := hwc.symm
  subst hwc
  go_upto_region 23 with fail
  have hqX := HqX.out
  have hqY := HqY.out
  have hqD := tx_eq (rfl : PD = PD)
  have hS0 : (fun ww => ww.heap[gA]? = some (.cells #[.int .u16 (a0 : Nat), .int .u16 (a1 : Nat), .int .u16 (a2 : Nat), .int .u32 (a3 : Nat), .int .u32 (a4 : Nat), .int .u32 (a5 : Nat), .int .u32 (a6 : Nat), .string as7, .string as8] 26 (0, 0)) ∧ ww.heap[gB]? = some (.cells #[.int .u16 (b0 : Nat), .int .u16 (b1 : Nat), .int .u16 (b2 : Nat), .int .u16 (b3 : Nat), .int .u32 (b4 : Nat), .int .u32 (b5 : Nat), .int .u32 (b6 : Nat), .int .u32 (b7 : Nat), .int .u16 (b8 : Nat), .int .u16 (b9 : Nat), .int .u32 (b10 : Nat), .int .u32 (b11 : Nat), .string bs12, .string bs13, .string bs14] 40 (0, 0)) ∧ ww.heap[gD]? = some (.cells #[.int .u32 (d0 : Nat), .int .u64 (d1 : Nat), .int .u64 (d2 : Nat)] 45 (0, 0)) ∧ Below gA w ww) we.drew := ⟨HA.out, HBB.out, HD.out, HB.out.drew⟩
  refine wp_region_held_drew (S := fun ww => ww.heap[gA]? = some (.cells #[.int .u16 (a0 : Nat), .int .u16 (a1 : Nat), .int .u16 (a2 : Nat), .int .u32 (a3 : Nat), .int .u32 (a4 : Nat), .int .u32 (a5 : Nat), .int .u32 (a6 : Nat), .string as7, .string as8] 26 (0, 0)) ∧ ww.heap[gB]? = some (.cells #[.int .u16 (b0 : Nat), .int .u16 (b1 : Nat), .int .u16 (b2 : Nat), .int .u16 (b3 : Nat), .int .u32 (b4 : Nat), .int .u32 (b5 : Nat), .int .u32 (b6 : Nat), .int .u32 (b7 : Nat), .int .u16 (b8 : Nat), .int .u16 (b9 : Nat), .int .u32 (b10 : Nat), .int .u32 (b11 : Nat), .string bs12, .string bs13, .string bs14] 40 (0, 0)) ∧ ww.heap[gD]? = some (.cells #[.int .u32 (d0 : Nat), .int .u64 (d1 : Nat), .int .u64 (d2 : Nat)] 45 (0, 0)) ∧ Below gA w ww) (by kernel_rfl) hS0 (fun hT0 => ?_)
  generalize we.drew = q0 at *
  clear HA HBB HD HB
  refine wpAnyH_take (i := 0) (v := .int .i64 0) rfl (by kernel_rfl) (by kernel_rfl) (by kernel_rfl) (fun _ _ _ h => h) (Or.inl ⟨by kernel_rfl, ?_⟩) (by assumption) ?_
  · intro ww hSw
    clear hSw
    go_simp
    all_goals (try omega)
    all_goals (try assumption)
    all_goals (try rfl)
  try simp only [Act.put, List.setIfInBounds_toArray, List.set_cons_zero, List.set_cons_succ, List.getElem_toArray, List.getElem_cons_succ, List.getElem_cons_zero]
  refine wpAnyH_take (i := 1) (v := .bool true) rfl (by kernel_rfl) (by kernel_rfl) (by kernel_rfl) (fun _ _ _ h => h) (Or.inl ⟨by kernel_rfl, ?_⟩) (by assumption) ?_
  · intro ww hSw
    clear hSw
    go_simp
    all_goals (try omega)
    all_goals (try assumption)
    all_goals (try rfl)
  try simp only [Act.put, List.setIfInBounds_toArray, List.set_cons_zero, List.set_cons_succ, List.getElem_toArray, List.getElem_cons_succ, List.getElem_cons_zero]
  refine wpAnyH_take (i := 2) (v := .bool true) rfl (by kernel_rfl) (by kernel_rfl) (by kernel_rfl) (fun _ _ _ h => h) (Or.inl ⟨by kernel_rfl, ?_⟩) (by assumption) ?_
  · intro ww hSw
    clear hSw
    go_simp
    all_goals (try omega)
    all_goals (try assumption)
    all_goals (try rfl)
  try simp only [Act.put, List.setIfInBounds_toArray, List.set_cons_zero, List.set_cons_succ, List.getElem_toArray, List.getElem_cons_succ, List.getElem_cons_zero]
  refine wpAnyH_take (i := 3) (v := .int .i64 0) rfl (by kernel_rfl) (by kernel_rfl) (by kernel_rfl) (fun _ _ _ h => h) (Or.inl ⟨by kernel_rfl, ?_⟩) (by assumption) ?_
  · intro ww hSw
    clear hSw
    go_simp
    all_goals (try omega)
    all_goals (try assumption)
    all_goals (try rfl)
  try simp only [Act.put, List.setIfInBounds_toArray, List.set_cons_zero, List.set_cons_succ, List.getElem_toArray, List.getElem_cons_succ, List.getElem_cons_zero]
  refine wpAnyH_take (i := 4) (v := .bool true) rfl (by kernel_rfl) (by kernel_rfl) (by kernel_rfl) (fun _ _ _ h => h) (Or.inl ⟨by kernel_rfl, ?_⟩) (by assumption) ?_
  · intro ww hSw
    clear hSw
    go_simp
    all_goals (try omega)
    all_goals (try assumption)
    all_goals (try rfl)
  try simp only [Act.put, List.setIfInBounds_toArray, List.set_cons_zero, List.set_cons_succ, List.getElem_toArray, List.getElem_cons_succ, List.getElem_cons_zero]
  refine wpAnyH_take (i := 5) (v := .bool true) rfl (by kernel_rfl) (by kernel_rfl) (by kernel_rfl) (fun _ _ _ h => h) (Or.inl ⟨by kernel_rfl, ?_⟩) (by assumption) ?_
  · intro ww hSw
    clear hSw
    go_simp
    all_goals (try omega)
    all_goals (try assumption)
    all_goals (try rfl)
  try simp only [Act.put, List.setIfInBounds_toArray, List.set_cons_zero, List.set_cons_succ, List.getElem_toArray, List.getElem_cons_succ, List.getElem_cons_zero]
  refine wpAnyH_take (i := 6) (v := .bool true) rfl (by kernel_rfl) (by kernel_rfl) (by kernel_rfl) (fun _ _ _ h => h) (Or.inl ⟨by kernel_rfl, ?_⟩) (by assumption) ?_
  · intro ww hSw
    clear hSw
    go_simp
    all_goals (try omega)
    all_goals (try assumption)
    all_goals (try rfl)
  try simp only [Act.put, List.setIfInBounds_toArray, List.set_cons_zero, List.set_cons_succ, List.getElem_toArray, List.getElem_cons_succ, List.getElem_cons_zero]
  refine wpAnyH_take (i := 7) (v := .string X) rfl (by kernel_rfl) (by kernel_rfl) (by kernel_rfl) (fun _ _ _ h => h) (Or.inl ⟨by kernel_rfl, ?_⟩) (by assumption) ?_
  · intro ww hSw
    clear hSw
    go_simp
    all_goals (try omega)
    all_goals (try assumption)
    all_goals (try rfl)
  try simp only [Act.put, List.setIfInBounds_toArray, List.set_cons_zero, List.set_cons_succ, List.getElem_toArray, List.getElem_cons_succ, List.getElem_cons_zero]
  refine wpAnyH_take (i := 8) (v := .agg #[.int .u16 (a0 : Nat), .int .u16 (a1 : Nat), .int .u16 (a2 : Nat), .int .u32 (a3 : Nat), .int .u32 (a4 : Nat), .int .u32 (a5 : Nat), .int .u32 (a6 : Nat), .string as7, .string as8]) rfl (by kernel_rfl) (by kernel_rfl) (by kernel_rfl) (fun _ _ _ h => h) (Or.inl ⟨by kernel_rfl, ?_⟩) (by assumption) ?_
  · intro ww hSw
    have hc0 : ww.cell? ⟨gA, 0, none⟩ = some (.int .u16 (a0 : Nat)) := by rw [Lib.cell_of_heap hSw.1]; rfl
    have hc1 : ww.cell? ⟨gA, 1, none⟩ = some (.int .u16 (a1 : Nat)) := by rw [Lib.cell_of_heap hSw.1]; rfl
    have hc2 : ww.cell? ⟨gA, 2, none⟩ = some (.int .u16 (a2 : Nat)) := by rw [Lib.cell_of_heap hSw.1]; rfl
    have hc3 : ww.cell? ⟨gA, 3, none⟩ = some (.int .u32 (a3 : Nat)) := by rw [Lib.cell_of_heap hSw.1]; rfl
    have hc4 : ww.cell? ⟨gA, 4, none⟩ = some (.int .u32 (a4 : Nat)) := by rw [Lib.cell_of_heap hSw.1]; rfl
    have hc5 : ww.cell? ⟨gA, 5, none⟩ = some (.int .u32 (a5 : Nat)) := by rw [Lib.cell_of_heap hSw.1]; rfl
    have hc6 : ww.cell? ⟨gA, 6, none⟩ = some (.int .u32 (a6 : Nat)) := by rw [Lib.cell_of_heap hSw.1]; rfl
    have hc7 : ww.cell? ⟨gA, 7, none⟩ = some (.string as7) := by rw [Lib.cell_of_heap hSw.1]; rfl
    have hc8 : ww.cell? ⟨gA, 8, none⟩ = some (.string as8) := by rw [Lib.cell_of_heap hSw.1]; rfl
    clear hSw
    go_simp
    all_goals (try omega)
    all_goals (try assumption)
    all_goals (try rfl)
  try simp only [Act.put, List.setIfInBounds_toArray, List.set_cons_zero, List.set_cons_succ, List.getElem_toArray, List.getElem_cons_succ, List.getElem_cons_zero]
  refine wpAnyH_take (i := 12) (v := .pointer (some ⟨gA, 7, none⟩)) rfl (by kernel_rfl) (by kernel_rfl) (by kernel_rfl) (fun _ _ _ h => h) (Or.inl ⟨by kernel_rfl, ?_⟩) (by assumption) ?_
  · intro ww hSw
    clear hSw
    go_simp
    all_goals (try omega)
    all_goals (try assumption)
    all_goals (try rfl)
  try simp only [Act.put, List.setIfInBounds_toArray, List.set_cons_zero, List.set_cons_succ, List.getElem_toArray, List.getElem_cons_succ, List.getElem_cons_zero]
  refine wpAnyH_take (i := 13) (v := .string as7) rfl (by kernel_rfl) (by kernel_rfl) (by kernel_rfl) (fun _ _ _ h => h) (Or.inl ⟨by kernel_rfl, ?_⟩) (by assumption) ?_
  · intro ww hSw
    have hcc : ww.cell? ⟨gA, 7, none⟩ = some (.string as7) := by rw [Lib.cell_of_heap hSw.1]; rfl
    clear hSw
    go_simp
    all_goals (try omega)
    all_goals (try assumption)
    all_goals (try rfl)
  try simp only [Act.put, List.setIfInBounds_toArray, List.set_cons_zero, List.set_cons_succ, List.getElem_toArray, List.getElem_cons_succ, List.getElem_cons_zero]
  refine wpAnyH_take (i := 15) (v := .pointer (some ⟨gA, 8, none⟩)) rfl (by kernel_rfl) (by kernel_rfl) (by kernel_rfl) (fun _ _ _ h => h) (Or.inl ⟨by kernel_rfl, ?_⟩) (by assumption) ?_
  · intro ww hSw
    clear hSw
    go_simp
    all_goals (try omega)
    all_goals (try assumption)
    all_goals (try rfl)
  try simp only [Act.put, List.setIfInBounds_toArray, List.set_cons_zero, List.set_cons_succ, List.getElem_toArray, List.getElem_cons_succ, List.getElem_cons_zero]
  refine wpAnyH_take (i := 16) (v := .string as8) rfl (by kernel_rfl) (by kernel_rfl) (by kernel_rfl) (fun _ _ _ h => h) (Or.inl ⟨by kernel_rfl, ?_⟩) (by assumption) ?_
  · intro ww hSw
    have hcc : ww.cell? ⟨gA, 8, none⟩ = some (.string as8) := by rw [Lib.cell_of_heap hSw.1]; rfl
    clear hSw
    go_simp
    all_goals (try omega)
    all_goals (try assumption)
    all_goals (try rfl)
  try simp only [Act.put, List.setIfInBounds_toArray, List.set_cons_zero, List.set_cons_succ, List.getElem_toArray, List.getElem_cons_succ, List.getElem_cons_zero]
  refine wpAnyH_ready (rs := [9]) (by kernel_rfl) (by simp) ?_
  refine AllReadyH.cons rfl (fun K hK => ?_) AllReadyH.nil
  go_simp
  refine (HLA.out _).mono ?_
  rintro e q1 ⟨rfl, hr1, hb1⟩
  have hS1 : (fun ww => ww.heap[gA]? = some (.cells #[.int .u16 (a0 : Nat), .int .u16 (a1 : Nat), .int .u16 (a2 : Nat), .int .u32 (a3 : Nat), .int .u32 (a4 : Nat), .int .u32 (a5 : Nat), .int .u32 (a6 : Nat), .string as7, .string as8] 26 (0, 0)) ∧ ww.heap[gB]? = some (.cells #[.int .u16 (b0 : Nat), .int .u16 (b1 : Nat), .int .u16 (b2 : Nat), .int .u16 (b3 : Nat), .int .u32 (b4 : Nat), .int .u32 (b5 : Nat), .int .u32 (b6 : Nat), .int .u32 (b7 : Nat), .int .u16 (b8 : Nat), .int .u16 (b9 : Nat), .int .u32 (b10 : Nat), .int .u32 (b11 : Nat), .string bs12, .string bs13, .string bs14] 40 (0, 0)) ∧ ww.heap[gD]? = some (.cells #[.int .u32 (d0 : Nat), .int .u64 (d1 : Nat), .int .u64 (d2 : Nat)] 45 (0, 0)) ∧ Below gA w ww) q1 := ⟨(hb1.block _ (lt_of_some hS0.1)).trans hS0.1, (hb1.block _ (lt_of_some hS0.2.1)).trans hS0.2.1, (hb1.block _ (lt_of_some hS0.2.2.1)).trans hS0.2.2.1, hS0.2.2.2.trans (hb1.mono (Nat.le_of_lt (lt_of_some hS0.1)))⟩
  have HR1 := Lib.hid hr1
  refine hK.out _ _ hS1 (fun hT1 => ?_)
  clear hK K
  try simp only [Act.put, List.setIfInBounds_toArray, List.set_cons_zero, List.set_cons_succ, List.getElem_toArray, List.getElem_cons_succ, List.getElem_cons_zero]
  refine wpAnyH_ready (rs := [10]) (by kernel_rfl) (by simp) ?_
  refine AllReadyH.cons rfl (fun K hK => ?_) AllReadyH.nil
  go_simp
  refine (rLocals_any _).mono ?_
  rintro e q2 ⟨rfl, hr2, hb2⟩
  have hS2 : (fun ww => ww.heap[gA]? = some (.cells #[.int .u16 (a0 : Nat), .int .u16 (a1 : Nat), .int .u16 (a2 : Nat), .int .u32 (a3 : Nat), .int .u32 (a4 : Nat), .int .u32 (a5 : Nat), .int .u32 (a6 : Nat), .string as7, .string as8] 26 (0, 0)) ∧ ww.heap[gB]? = some (.cells #[.int .u16 (b0 : Nat), .int .u16 (b1 : Nat), .int .u16 (b2 : Nat), .int .u16 (b3 : Nat), .int .u32 (b4 : Nat), .int .u32 (b5 : Nat), .int .u32 (b6 : Nat), .int .u32 (b7 : Nat), .int .u16 (b8 : Nat), .int .u16 (b9 : Nat), .int .u32 (b10 : Nat), .int .u32 (b11 : Nat), .string bs12, .string bs13, .string bs14] 40 (0, 0)) ∧ ww.heap[gD]? = some (.cells #[.int .u32 (d0 : Nat), .int .u64 (d1 : Nat), .int .u64 (d2 : Nat)] 45 (0, 0)) ∧ Below gA w ww) q2 := ⟨(hb2.block _ (lt_of_some hS1.1)).trans hS1.1, (hb2.block _ (lt_of_some hS1.2.1)).trans hS1.2.1, (hb2.block _ (lt_of_some hS1.2.2.1)).trans hS1.2.2.1, hS1.2.2.2.trans (hb2.mono (Nat.le_of_lt (lt_of_some hS1.1)))⟩
  have HR2 := Lib.hid hr2
  have HR1' := Lib.hid (HR1.out.below hb2)
  refine hK.out _ _ hS2 (fun hT2 => ?_)
  clear hK K
  try simp only [Act.put, List.setIfInBounds_toArray, List.set_cons_zero, List.set_cons_succ, List.getElem_toArray, List.getElem_cons_succ, List.getElem_cons_zero]
  refine wpAnyH_ready (rs := [11]) (by kernel_rfl) (by simp) ?_
  refine AllReadyH.cons rfl (fun K hK => ?_) AllReadyH.nil
  go_simp
  refine (HPA.out _ _ _ HR1'.out HR2.out).mono ?_
  rintro e q3 ⟨rfl, hb3⟩
  have hS3 : (fun ww => ww.heap[gA]? = some (.cells #[.int .u16 (a0 : Nat), .int .u16 (a1 : Nat), .int .u16 (a2 : Nat), .int .u32 (a3 : Nat), .int .u32 (a4 : Nat), .int .u32 (a5 : Nat), .int .u32 (a6 : Nat), .string as7, .string as8] 26 (0, 0)) ∧ ww.heap[gB]? = some (.cells #[.int .u16 (b0 : Nat), .int .u16 (b1 : Nat), .int .u16 (b2 : Nat), .int .u16 (b3 : Nat), .int .u32 (b4 : Nat), .int .u32 (b5 : Nat), .int .u32 (b6 : Nat), .int .u32 (b7 : Nat), .int .u16 (b8 : Nat), .int .u16 (b9 : Nat), .int .u32 (b10 : Nat), .int .u32 (b11 : Nat), .string bs12, .string bs13, .string bs14] 40 (0, 0)) ∧ ww.heap[gD]? = some (.cells #[.int .u32 (d0 : Nat), .int .u64 (d1 : Nat), .int .u64 (d2 : Nat)] 45 (0, 0)) ∧ Below gA w ww) q3 := ⟨(hb3.block _ (lt_of_some hS2.1)).trans hS2.1, (hb3.block _ (lt_of_some hS2.2.1)).trans hS2.2.1, (hb3.block _ (lt_of_some hS2.2.2.1)).trans hS2.2.2.1, hS2.2.2.2.trans (hb3.mono (Nat.le_of_lt (lt_of_some hS2.1)))⟩
  refine hK.out _ _ hS3 (fun hT3 => ?_)
  clear hK K
  try simp only [Act.put, List.setIfInBounds_toArray, List.set_cons_zero, List.set_cons_succ, List.getElem_toArray, List.getElem_cons_succ, List.getElem_cons_zero]
  refine wpAnyH_take (i := 14) (v := .string (PA ++ as7)) rfl (by kernel_rfl) (by kernel_rfl) (by kernel_rfl) (fun _ _ _ h => h) (Or.inl ⟨by kernel_rfl, ?_⟩) (by assumption) ?_
  · intro ww hSw
    clear hSw
    go_simp
    all_goals (try omega)
    all_goals (try assumption)
    all_goals (try rfl)
  try simp only [Act.put, List.setIfInBounds_toArray, List.set_cons_zero, List.set_cons_succ, List.getElem_toArray, List.getElem_cons_succ, List.getElem_cons_zero]
  refine wpAnyH_take (i := 17) (v := .string (PA ++ as7 ++ as8)) rfl (by kernel_rfl) (by kernel_rfl) (by kernel_rfl) (fun _ _ _ h => h) (Or.inl ⟨by kernel_rfl, ?_⟩) (by assumption) ?_
  · intro ww hSw
    clear hSw
    go_simp
    all_goals (try omega)
    all_goals (try assumption)
    all_goals (try rfl)
  try simp only [Act.put, List.setIfInBounds_toArray, List.set_cons_zero, List.set_cons_succ, List.getElem_toArray, List.getElem_cons_succ, List.getElem_cons_zero]
  refine wpAnyH_take (i := 18) (v := .bool true) rfl (by kernel_rfl) (by kernel_rfl) (by kernel_rfl) (fun _ _ _ h => h) (Or.inl ⟨by kernel_rfl, ?_⟩) (by assumption) ?_
  · intro ww hSw
    clear hSw
    go_simp
    all_goals (try omega)
    all_goals (try assumption)
    all_goals (try rfl)
  try simp only [Act.put, List.setIfInBounds_toArray, List.set_cons_zero, List.set_cons_succ, List.getElem_toArray, List.getElem_cons_succ, List.getElem_cons_zero]
  refine wpAnyH_take (i := 19) (v := .bool true) rfl (by kernel_rfl) (by kernel_rfl) (by kernel_rfl) (fun _ _ _ h => h) (Or.inl ⟨by kernel_rfl, ?_⟩) (by assumption) ?_
  · intro ww hSw
    clear hSw
    go_simp
    all_goals (try omega)
    all_goals (try assumption)
    all_goals (try rfl)
  try simp only [Act.put, List.setIfInBounds_toArray, List.set_cons_zero, List.set_cons_succ, List.getElem_toArray, List.getElem_cons_succ, List.getElem_cons_zero]
  refine wpAnyH_take (i := 20) (v := .bool true) rfl (by kernel_rfl) (by kernel_rfl) (by kernel_rfl) (fun _ _ _ h => h) (Or.inl ⟨by kernel_rfl, ?_⟩) (by assumption) ?_
  · intro ww hSw
    clear hSw
    go_simp
    all_goals (try omega)
    all_goals (try assumption)
    all_goals (try rfl)
  try simp only [Act.put, List.setIfInBounds_toArray, List.set_cons_zero, List.set_cons_succ, List.getElem_toArray, List.getElem_cons_succ, List.getElem_cons_zero]
  refine wpAnyH_take (i := 21) (v := .string Y) rfl (by kernel_rfl) (by kernel_rfl) (by kernel_rfl) (fun _ _ _ h => h) (Or.inl ⟨by kernel_rfl, ?_⟩) (by assumption) ?_
  · intro ww hSw
    clear hSw
    go_simp
    all_goals (try omega)
    all_goals (try assumption)
    all_goals (try rfl)
  try simp only [Act.put, List.setIfInBounds_toArray, List.set_cons_zero, List.set_cons_succ, List.getElem_toArray, List.getElem_cons_succ, List.getElem_cons_zero]
  refine wpAnyH_take (i := 22) (v := .agg #[.int .u16 (b0 : Nat), .int .u16 (b1 : Nat), .int .u16 (b2 : Nat), .int .u16 (b3 : Nat), .int .u32 (b4 : Nat), .int .u32 (b5 : Nat), .int .u32 (b6 : Nat), .int .u32 (b7 : Nat), .int .u16 (b8 : Nat), .int .u16 (b9 : Nat), .int .u32 (b10 : Nat), .int .u32 (b11 : Nat), .string bs12, .string bs13, .string bs14]) rfl (by kernel_rfl) (by kernel_rfl) (by kernel_rfl) (fun _ _ _ h => h) (Or.inl ⟨by kernel_rfl, ?_⟩) (by assumption) ?_
  · intro ww hSw
    have hc0 : ww.cell? ⟨gB, 0, none⟩ = some (.int .u16 (b0 : Nat)) := by rw [Lib.cell_of_heap hSw.2.1]; rfl
    have hc1 : ww.cell? ⟨gB, 1, none⟩ = some (.int .u16 (b1 : Nat)) := by rw [Lib.cell_of_heap hSw.2.1]; rfl
    have hc2 : ww.cell? ⟨gB, 2, none⟩ = some (.int .u16 (b2 : Nat)) := by rw [Lib.cell_of_heap hSw.2.1]; rfl
    have hc3 : ww.cell? ⟨gB, 3, none⟩ = some (.int .u16 (b3 : Nat)) := by rw [Lib.cell_of_heap hSw.2.1]; rfl
    have hc4 : ww.cell? ⟨gB, 4, none⟩ = some (.int .u32 (b4 : Nat)) := by rw [Lib.cell_of_heap hSw.2.1]; rfl
    have hc5 : ww.cell? ⟨gB, 5, none⟩ = some (.int .u32 (b5 : Nat)) := by rw [Lib.cell_of_heap hSw.2.1]; rfl
    have hc6 : ww.cell? ⟨gB, 6, none⟩ = some (.int .u32 (b6 : Nat)) := by rw [Lib.cell_of_heap hSw.2.1]; rfl
    have hc7 : ww.cell? ⟨gB, 7, none⟩ = some (.int .u32 (b7 : Nat)) := by rw [Lib.cell_of_heap hSw.2.1]; rfl
    have hc8 : ww.cell? ⟨gB, 8, none⟩ = some (.int .u16 (b8 : Nat)) := by rw [Lib.cell_of_heap hSw.2.1]; rfl
    have hc9 : ww.cell? ⟨gB, 9, none⟩ = some (.int .u16 (b9 : Nat)) := by rw [Lib.cell_of_heap hSw.2.1]; rfl
    have hc10 : ww.cell? ⟨gB, 10, none⟩ = some (.int .u32 (b10 : Nat)) := by rw [Lib.cell_of_heap hSw.2.1]; rfl
    have hc11 : ww.cell? ⟨gB, 11, none⟩ = some (.int .u32 (b11 : Nat)) := by rw [Lib.cell_of_heap hSw.2.1]; rfl
    have hc12 : ww.cell? ⟨gB, 12, none⟩ = some (.string bs12) := by rw [Lib.cell_of_heap hSw.2.1]; rfl
    have hc13 : ww.cell? ⟨gB, 13, none⟩ = some (.string bs13) := by rw [Lib.cell_of_heap hSw.2.1]; rfl
    have hc14 : ww.cell? ⟨gB, 14, none⟩ = some (.string bs14) := by rw [Lib.cell_of_heap hSw.2.1]; rfl
    clear hSw
    go_simp
    all_goals (try omega)
    all_goals (try assumption)
    all_goals (try rfl)
  try simp only [Act.put, List.setIfInBounds_toArray, List.set_cons_zero, List.set_cons_succ, List.getElem_toArray, List.getElem_cons_succ, List.getElem_cons_zero]
  refine wpAnyH_take (i := 26) (v := .pointer (some ⟨gB, 12, none⟩)) rfl (by kernel_rfl) (by kernel_rfl) (by kernel_rfl) (fun _ _ _ h => h) (Or.inl ⟨by kernel_rfl, ?_⟩) (by assumption) ?_
  · intro ww hSw
    clear hSw
    go_simp
    all_goals (try omega)
    all_goals (try assumption)
    all_goals (try rfl)
  try simp only [Act.put, List.setIfInBounds_toArray, List.set_cons_zero, List.set_cons_succ, List.getElem_toArray, List.getElem_cons_succ, List.getElem_cons_zero]
  refine wpAnyH_take (i := 27) (v := .string bs12) rfl (by kernel_rfl) (by kernel_rfl) (by kernel_rfl) (fun _ _ _ h => h) (Or.inl ⟨by kernel_rfl, ?_⟩) (by assumption) ?_
  · intro ww hSw
    have hcc : ww.cell? ⟨gB, 12, none⟩ = some (.string bs12) := by rw [Lib.cell_of_heap hSw.2.1]; rfl
    clear hSw
    go_simp
    all_goals (try omega)
    all_goals (try assumption)
    all_goals (try rfl)
  try simp only [Act.put, List.setIfInBounds_toArray, List.set_cons_zero, List.set_cons_succ, List.getElem_toArray, List.getElem_cons_succ, List.getElem_cons_zero]
  refine wpAnyH_take (i := 29) (v := .pointer (some ⟨gB, 13, none⟩)) rfl (by kernel_rfl) (by kernel_rfl) (by kernel_rfl) (fun _ _ _ h => h) (Or.inl ⟨by kernel_rfl, ?_⟩) (by assumption) ?_
  · intro ww hSw
    clear hSw
    go_simp
    all_goals (try omega)
    all_goals (try assumption)
    all_goals (try rfl)
  try simp only [Act.put, List.setIfInBounds_toArray, List.set_cons_zero, List.set_cons_succ, List.getElem_toArray, List.getElem_cons_succ, List.getElem_cons_zero]
  refine wpAnyH_take (i := 30) (v := .string bs13) rfl (by kernel_rfl) (by kernel_rfl) (by kernel_rfl) (fun _ _ _ h => h) (Or.inl ⟨by kernel_rfl, ?_⟩) (by assumption) ?_
  · intro ww hSw
    have hcc : ww.cell? ⟨gB, 13, none⟩ = some (.string bs13) := by rw [Lib.cell_of_heap hSw.2.1]; rfl
    clear hSw
    go_simp
    all_goals (try omega)
    all_goals (try assumption)
    all_goals (try rfl)
  try simp only [Act.put, List.setIfInBounds_toArray, List.set_cons_zero, List.set_cons_succ, List.getElem_toArray, List.getElem_cons_succ, List.getElem_cons_zero]
  refine wpAnyH_take (i := 32) (v := .pointer (some ⟨gB, 14, none⟩)) rfl (by kernel_rfl) (by kernel_rfl) (by kernel_rfl) (fun _ _ _ h => h) (Or.inl ⟨by kernel_rfl, ?_⟩) (by assumption) ?_
  · intro ww hSw
    clear hSw
    go_simp
    all_goals (try omega)
    all_goals (try assumption)
    all_goals (try rfl)
  try simp only [Act.put, List.setIfInBounds_toArray, List.set_cons_zero, List.set_cons_succ, List.getElem_toArray, List.getElem_cons_succ, List.getElem_cons_zero]
  refine wpAnyH_take (i := 33) (v := .string bs14) rfl (by kernel_rfl) (by kernel_rfl) (by kernel_rfl) (fun _ _ _ h => h) (Or.inl ⟨by kernel_rfl, ?_⟩) (by assumption) ?_
  · intro ww hSw
    have hcc : ww.cell? ⟨gB, 14, none⟩ = some (.string bs14) := by rw [Lib.cell_of_heap hSw.2.1]; rfl
    clear hSw
    go_simp
    all_goals (try omega)
    all_goals (try assumption)
    all_goals (try rfl)
  try simp only [Act.put, List.setIfInBounds_toArray, List.set_cons_zero, List.set_cons_succ, List.getElem_toArray, List.getElem_cons_succ, List.getElem_cons_zero]
  refine wpAnyH_ready (rs := [23]) (by kernel_rfl) (by simp) ?_
  refine AllReadyH.cons rfl (fun K hK => ?_) AllReadyH.nil
  go_simp
  refine (HLB.out _).mono ?_
  rintro e q4 ⟨rfl, hr4, hb4⟩
  have hS4 : (fun ww => ww.heap[gA]? = some (.cells #[.int .u16 (a0 : Nat), .int .u16 (a1 : Nat), .int .u16 (a2 : Nat), .int .u32 (a3 : Nat), .int .u32 (a4 : Nat), .int .u32 (a5 : Nat), .int .u32 (a6 : Nat), .string as7, .string as8] 26 (0, 0)) ∧ ww.heap[gB]? = some (.cells #[.int .u16 (b0 : Nat), .int .u16 (b1 : Nat), .int .u16 (b2 : Nat), .int .u16 (b3 : Nat), .int .u32 (b4 : Nat), .int .u32 (b5 : Nat), .int .u32 (b6 : Nat), .int .u32 (b7 : Nat), .int .u16 (b8 : Nat), .int .u16 (b9 : Nat), .int .u32 (b10 : Nat), .int .u32 (b11 : Nat), .string bs12, .string bs13, .string bs14] 40 (0, 0)) ∧ ww.heap[gD]? = some (.cells #[.int .u32 (d0 : Nat), .int .u64 (d1 : Nat), .int .u64 (d2 : Nat)] 45 (0, 0)) ∧ Below gA w ww) q4 := ⟨(hb4.block _ (lt_of_some hS3.1)).trans hS3.1, (hb4.block _ (lt_of_some hS3.2.1)).trans hS3.2.1, (hb4.block _ (lt_of_some hS3.2.2.1)).trans hS3.2.2.1, hS3.2.2.2.trans (hb4.mono (Nat.le_of_lt (lt_of_some hS3.1)))⟩
  have HR3 := Lib.hid hr4
  refine hK.out _ _ hS4 (fun hT4 => ?_)
  clear hK K
  try simp only [Act.put, List.setIfInBounds_toArray, List.set_cons_zero, List.set_cons_succ, List.getElem_toArray, List.getElem_cons_succ, List.getElem_cons_zero]
  refine wpAnyH_ready (rs := [24]) (by kernel_rfl) (by simp) ?_
  refine AllReadyH.cons rfl (fun K hK => ?_) AllReadyH.nil
  go_simp
  refine (rCentrals_any _).mono ?_
  rintro e q5 ⟨rfl, hr5, hb5⟩
  have hS5 : (fun ww => ww.heap[gA]? = some (.cells #[.int .u16 (a0 : Nat), .int .u16 (a1 : Nat), .int .u16 (a2 : Nat), .int .u32 (a3 : Nat), .int .u32 (a4 : Nat), .int .u32 (a5 : Nat), .int .u32 (a6 : Nat), .string as7, .string as8] 26 (0, 0)) ∧ ww.heap[gB]? = some (.cells #[.int .u16 (b0 : Nat), .int .u16 (b1 : Nat), .int .u16 (b2 : Nat), .int .u16 (b3 : Nat), .int .u32 (b4 : Nat), .int .u32 (b5 : Nat), .int .u32 (b6 : Nat), .int .u32 (b7 : Nat), .int .u16 (b8 : Nat), .int .u16 (b9 : Nat), .int .u32 (b10 : Nat), .int .u32 (b11 : Nat), .string bs12, .string bs13, .string bs14] 40 (0, 0)) ∧ ww.heap[gD]? = some (.cells #[.int .u32 (d0 : Nat), .int .u64 (d1 : Nat), .int .u64 (d2 : Nat)] 45 (0, 0)) ∧ Below gA w ww) q5 := ⟨(hb5.block _ (lt_of_some hS4.1)).trans hS4.1, (hb5.block _ (lt_of_some hS4.2.1)).trans hS4.2.1, (hb5.block _ (lt_of_some hS4.2.2.1)).trans hS4.2.2.1, hS4.2.2.2.trans (hb5.mono (Nat.le_of_lt (lt_of_some hS4.1)))⟩
  have HR4 := Lib.hid hr5
  have HR3' := Lib.hid (HR3.out.below hb5)
  refine hK.out _ _ hS5 (fun hT5 => ?_)
  clear hK K
  try simp only [Act.put, List.setIfInBounds_toArray, List.set_cons_zero, List.set_cons_succ, List.getElem_toArray, List.getElem_cons_succ, List.getElem_cons_zero]
  refine wpAnyH_ready (rs := [25]) (by kernel_rfl) (by simp) ?_
  refine AllReadyH.cons rfl (fun K hK => ?_) AllReadyH.nil
  go_simp
  refine (HPB.out _ _ _ HR3'.out HR4.out).mono ?_
  rintro e q6 ⟨rfl, hb6⟩
  have hS6 : (fun ww => ww.heap[gA]? = some (.cells #[.int .u16 (a0 : Nat), .int .u16 (a1 : Nat), .int .u16 (a2 : Nat), .int .u32 (a3 : Nat), .int .u32 (a4 : Nat), .int .u32 (a5 : Nat), .int .u32 (a6 : Nat), .string as7, .string as8] 26 (0, 0)) ∧ ww.heap[gB]? = some (.cells #[.int .u16 (b0 : Nat), .int .u16 (b1 : Nat), .int .u16 (b2 : Nat), .int .u16 (b3 : Nat), .int .u32 (b4 : Nat), .int .u32 (b5 : Nat), .int .u32 (b6 : Nat), .int .u32 (b7 : Nat), .int .u16 (b8 : Nat), .int .u16 (b9 : Nat), .int .u32 (b10 : Nat), .int .u32 (b11 : Nat), .string bs12, .string bs13, .string bs14] 40 (0, 0)) ∧ ww.heap[gD]? = some (.cells #[.int .u32 (d0 : Nat), .int .u64 (d1 : Nat), .int .u64 (d2 : Nat)] 45 (0, 0)) ∧ Below gA w ww) q6 := ⟨(hb6.block _ (lt_of_some hS5.1)).trans hS5.1, (hb6.block _ (lt_of_some hS5.2.1)).trans hS5.2.1, (hb6.block _ (lt_of_some hS5.2.2.1)).trans hS5.2.2.1, hS5.2.2.2.trans (hb6.mono (Nat.le_of_lt (lt_of_some hS5.1)))⟩
  refine hK.out _ _ hS6 (fun hT6 => ?_)
  clear hK K
  try simp only [Act.put, List.setIfInBounds_toArray, List.set_cons_zero, List.set_cons_succ, List.getElem_toArray, List.getElem_cons_succ, List.getElem_cons_zero]
  refine wpAnyH_take (i := 28) (v := .string (PB ++ bs12)) rfl (by kernel_rfl) (by kernel_rfl) (by kernel_rfl) (fun _ _ _ h => h) (Or.inl ⟨by kernel_rfl, ?_⟩) (by assumption) ?_
  · intro ww hSw
    clear hSw
    go_simp
    all_goals (try omega)
    all_goals (try assumption)
    all_goals (try rfl)
  try simp only [Act.put, List.setIfInBounds_toArray, List.set_cons_zero, List.set_cons_succ, List.getElem_toArray, List.getElem_cons_succ, List.getElem_cons_zero]
  refine wpAnyH_take (i := 31) (v := .string (PB ++ bs12 ++ bs13)) rfl (by kernel_rfl) (by kernel_rfl) (by kernel_rfl) (fun _ _ _ h => h) (Or.inl ⟨by kernel_rfl, ?_⟩) (by assumption) ?_
  · intro ww hSw
    clear hSw
    go_simp
    all_goals (try omega)
    all_goals (try assumption)
    all_goals (try rfl)
  try simp only [Act.put, List.setIfInBounds_toArray, List.set_cons_zero, List.set_cons_succ, List.getElem_toArray, List.getElem_cons_succ, List.getElem_cons_zero]
  refine wpAnyH_take (i := 34) (v := .string (PB ++ bs12 ++ bs13 ++ bs14)) rfl (by kernel_rfl) (by kernel_rfl) (by kernel_rfl) (fun _ _ _ h => h) (Or.inl ⟨by kernel_rfl, ?_⟩) (by assumption) ?_
  · intro ww hSw
    clear hSw
    go_simp
    all_goals (try omega)
    all_goals (try assumption)
    all_goals (try rfl)
  try simp only [Act.put, List.setIfInBounds_toArray, List.set_cons_zero, List.set_cons_succ, List.getElem_toArray, List.getElem_cons_succ, List.getElem_cons_zero]
  refine wpAnyH_take (i := 35) (v := .bool true) rfl (by kernel_rfl) (by kernel_rfl) (by kernel_rfl) (fun _ _ _ h => h) (Or.inl ⟨by kernel_rfl, ?_⟩) (by assumption) ?_
  · intro ww hSw
    clear hSw
    go_simp
    all_goals (try omega)
    all_goals (try assumption)
    all_goals (try rfl)
  try simp only [Act.put, List.setIfInBounds_toArray, List.set_cons_zero, List.set_cons_succ, List.getElem_toArray, List.getElem_cons_succ, List.getElem_cons_zero]
  refine wpAnyH_take (i := 36) (v := .bool true) rfl (by kernel_rfl) (by kernel_rfl) (by kernel_rfl) (fun _ _ _ h => h) (Or.inl ⟨by kernel_rfl, ?_⟩) (by assumption) ?_
  · intro ww hSw
    clear hSw
    go_simp
    all_goals (try omega)
    all_goals (try assumption)
    all_goals (try rfl)
  try simp only [Act.put, List.setIfInBounds_toArray, List.set_cons_zero, List.set_cons_succ, List.getElem_toArray, List.getElem_cons_succ, List.getElem_cons_zero]
  refine wpAnyH_take (i := 37) (v := .bool true) rfl (by kernel_rfl) (by kernel_rfl) (by kernel_rfl) (fun _ _ _ h => h) (Or.inl ⟨by kernel_rfl, ?_⟩) (by assumption) ?_
  · intro ww hSw
    clear hSw
    go_simp
    all_goals (try omega)
    all_goals (try assumption)
    all_goals (try rfl)
  try simp only [Act.put, List.setIfInBounds_toArray, List.set_cons_zero, List.set_cons_succ, List.getElem_toArray, List.getElem_cons_succ, List.getElem_cons_zero]
  refine wpAnyH_take (i := 38) (v := .agg #[.int .u32 (d0 : Nat), .int .u64 (d1 : Nat), .int .u64 (d2 : Nat)]) rfl (by kernel_rfl) (by kernel_rfl) (by kernel_rfl) (fun _ _ _ h => h) (Or.inl ⟨by kernel_rfl, ?_⟩) (by assumption) ?_
  · intro ww hSw
    have hc0 : ww.cell? ⟨gD, 0, none⟩ = some (.int .u32 (d0 : Nat)) := by rw [Lib.cell_of_heap hSw.2.2.1]; rfl
    have hc1 : ww.cell? ⟨gD, 1, none⟩ = some (.int .u64 (d1 : Nat)) := by rw [Lib.cell_of_heap hSw.2.2.1]; rfl
    have hc2 : ww.cell? ⟨gD, 2, none⟩ = some (.int .u64 (d2 : Nat)) := by rw [Lib.cell_of_heap hSw.2.2.1]; rfl
    clear hSw
    go_simp
    all_goals (try omega)
    all_goals (try assumption)
    all_goals (try rfl)
  try simp only [Act.put, List.setIfInBounds_toArray, List.set_cons_zero, List.set_cons_succ, List.getElem_toArray, List.getElem_cons_succ, List.getElem_cons_zero]
  refine wpAnyH_take (i := 39) (v := .bool wide) rfl (by kernel_rfl) (by kernel_rfl) (by kernel_rfl) (fun _ _ _ h => h) (Or.inl ⟨by kernel_rfl, ?_⟩) (by assumption) ?_
  · intro ww hSw
    clear hSw
    go_simp
    all_goals (try omega)
    all_goals (try assumption)
    all_goals (try rfl)
  try simp only [Act.put, List.setIfInBounds_toArray, List.set_cons_zero, List.set_cons_succ, List.getElem_toArray, List.getElem_cons_succ, List.getElem_cons_zero]
  refine wpAnyH_take (i := 41) (v := .agg #[.int .u32 (d0 : Nat), .int .u64 (d1 : Nat), .int .u64 (d2 : Nat)]) rfl (by kernel_rfl) (by kernel_rfl) (by kernel_rfl) (fun _ _ _ h => h) (Or.inl ⟨by kernel_rfl, ?_⟩) (by assumption) ?_
  · intro ww hSw
    have hc0 : ww.cell? ⟨gD, 0, none⟩ = some (.int .u32 (d0 : Nat)) := by rw [Lib.cell_of_heap hSw.2.2.1]; rfl
    have hc1 : ww.cell? ⟨gD, 1, none⟩ = some (.int .u64 (d1 : Nat)) := by rw [Lib.cell_of_heap hSw.2.2.1]; rfl
    have hc2 : ww.cell? ⟨gD, 2, none⟩ = some (.int .u64 (d2 : Nat)) := by rw [Lib.cell_of_heap hSw.2.2.1]; rfl
    clear hSw
    go_simp
    all_goals (try omega)
    all_goals (try assumption)
    all_goals (try rfl)
  try simp only [Act.put, List.setIfInBounds_toArray, List.set_cons_zero, List.set_cons_succ, List.getElem_toArray, List.getElem_cons_succ, List.getElem_cons_zero]
  refine wpAnyH_take (i := 43) (v := .bool wide) rfl (by kernel_rfl) (by kernel_rfl) (by kernel_rfl) (fun _ _ _ h => h) (Or.inl ⟨by kernel_rfl, ?_⟩) (by assumption) ?_
  · intro ww hSw
    clear hSw
    go_simp
    all_goals (try omega)
    all_goals (try assumption)
    all_goals (try rfl)
  try simp only [Act.put, List.setIfInBounds_toArray, List.set_cons_zero, List.set_cons_succ, List.getElem_toArray, List.getElem_cons_succ, List.getElem_cons_zero]
  refine wpAnyH_ready (rs := [40]) (by kernel_rfl) (by simp) ?_
  refine AllReadyH.cons rfl (fun K hK => ?_) AllReadyH.nil
  go_simp
  refine (HDD.out _).mono ?_
  rintro e q7 ⟨rfl, hb7⟩
  have hS7 : (fun ww => ww.heap[gA]? = some (.cells #[.int .u16 (a0 : Nat), .int .u16 (a1 : Nat), .int .u16 (a2 : Nat), .int .u32 (a3 : Nat), .int .u32 (a4 : Nat), .int .u32 (a5 : Nat), .int .u32 (a6 : Nat), .string as7, .string as8] 26 (0, 0)) ∧ ww.heap[gB]? = some (.cells #[.int .u16 (b0 : Nat), .int .u16 (b1 : Nat), .int .u16 (b2 : Nat), .int .u16 (b3 : Nat), .int .u32 (b4 : Nat), .int .u32 (b5 : Nat), .int .u32 (b6 : Nat), .int .u32 (b7 : Nat), .int .u16 (b8 : Nat), .int .u16 (b9 : Nat), .int .u32 (b10 : Nat), .int .u32 (b11 : Nat), .string bs12, .string bs13, .string bs14] 40 (0, 0)) ∧ ww.heap[gD]? = some (.cells #[.int .u32 (d0 : Nat), .int .u64 (d1 : Nat), .int .u64 (d2 : Nat)] 45 (0, 0)) ∧ Below gA w ww) q7 := ⟨(hb7.block _ (lt_of_some hS6.1)).trans hS6.1, (hb7.block _ (lt_of_some hS6.2.1)).trans hS6.2.1, (hb7.block _ (lt_of_some hS6.2.2.1)).trans hS6.2.2.1, hS6.2.2.2.trans (hb7.mono (Nat.le_of_lt (lt_of_some hS6.1)))⟩
  refine hK.out _ _ hS7 (fun hT7 => ?_)
  clear hK K
  try simp only [Act.put, List.setIfInBounds_toArray, List.set_cons_zero, List.set_cons_succ, List.getElem_toArray, List.getElem_cons_succ, List.getElem_cons_zero]
  refine wpAnyH_ready (rs := [42]) (by kernel_rfl) (by simp) ?_
  refine AllReadyH.cons rfl (fun K hK => ?_) AllReadyH.nil
  go_simp
  refine (HLD.out _).mono ?_
  rintro e q8 ⟨rfl, hr8, hb8⟩
  have hS8 : (fun ww => ww.heap[gA]? = some (.cells #[.int .u16 (a0 : Nat), .int .u16 (a1 : Nat), .int .u16 (a2 : Nat), .int .u32 (a3 : Nat), .int .u32 (a4 : Nat), .int .u32 (a5 : Nat), .int .u32 (a6 : Nat), .string as7, .string as8] 26 (0, 0)) ∧ ww.heap[gB]? = some (.cells #[.int .u16 (b0 : Nat), .int .u16 (b1 : Nat), .int .u16 (b2 : Nat), .int .u16 (b3 : Nat), .int .u32 (b4 : Nat), .int .u32 (b5 : Nat), .int .u32 (b6 : Nat), .int .u32 (b7 : Nat), .int .u16 (b8 : Nat), .int .u16 (b9 : Nat), .int .u32 (b10 : Nat), .int .u32 (b11 : Nat), .string bs12, .string bs13, .string bs14] 40 (0, 0)) ∧ ww.heap[gD]? = some (.cells #[.int .u32 (d0 : Nat), .int .u64 (d1 : Nat), .int .u64 (d2 : Nat)] 45 (0, 0)) ∧ Below gA w ww) q8 := ⟨(hb8.block _ (lt_of_some hS7.1)).trans hS7.1, (hb8.block _ (lt_of_some hS7.2.1)).trans hS7.2.1, (hb8.block _ (lt_of_some hS7.2.2.1)).trans hS7.2.2.1, hS7.2.2.2.trans (hb8.mono (Nat.le_of_lt (lt_of_some hS7.1)))⟩
  have HR5 := Lib.hid hr8
  refine hK.out _ _ hS8 (fun hT8 => ?_)
  clear hK K
  try simp only [Act.put, List.setIfInBounds_toArray, List.set_cons_zero, List.set_cons_succ, List.getElem_toArray, List.getElem_cons_succ, List.getElem_cons_zero]
  refine wpAnyH_ready (rs := [44]) (by kernel_rfl) (by simp) ?_
  refine AllReadyH.cons rfl (fun K hK => ?_) AllReadyH.nil
  go_simp
  refine (HDS.out _).mono ?_
  rintro e q9 ⟨rfl, hr9, hb9⟩
  have hS9 : (fun ww => ww.heap[gA]? = some (.cells #[.int .u16 (a0 : Nat), .int .u16 (a1 : Nat), .int .u16 (a2 : Nat), .int .u32 (a3 : Nat), .int .u32 (a4 : Nat), .int .u32 (a5 : Nat), .int .u32 (a6 : Nat), .string as7, .string as8] 26 (0, 0)) ∧ ww.heap[gB]? = some (.cells #[.int .u16 (b0 : Nat), .int .u16 (b1 : Nat), .int .u16 (b2 : Nat), .int .u16 (b3 : Nat), .int .u32 (b4 : Nat), .int .u32 (b5 : Nat), .int .u32 (b6 : Nat), .int .u32 (b7 : Nat), .int .u16 (b8 : Nat), .int .u16 (b9 : Nat), .int .u32 (b10 : Nat), .int .u32 (b11 : Nat), .string bs12, .string bs13, .string bs14] 40 (0, 0)) ∧ ww.heap[gD]? = some (.cells #[.int .u32 (d0 : Nat), .int .u64 (d1 : Nat), .int .u64 (d2 : Nat)] 45 (0, 0)) ∧ Below gA w ww) q9 := ⟨(hb9.block _ (lt_of_some hS8.1)).trans hS8.1, (hb9.block _ (lt_of_some hS8.2.1)).trans hS8.2.1, (hb9.block _ (lt_of_some hS8.2.2.1)).trans hS8.2.2.1, hS8.2.2.2.trans (hb9.mono (Nat.le_of_lt (lt_of_some hS8.1)))⟩
  have HR6 := Lib.hid hr9
  have HR5' := Lib.hid (HR5.out.below hb9)
  refine hK.out _ _ hS9 (fun hT9 => ?_)
  clear hK K
  try simp only [Act.put, List.setIfInBounds_toArray, List.set_cons_zero, List.set_cons_succ, List.getElem_toArray, List.getElem_cons_succ, List.getElem_cons_zero]
  refine wpAnyH_ready (rs := [45]) (by kernel_rfl) (by simp) ?_
  refine AllReadyH.cons rfl (fun K hK => ?_) AllReadyH.nil
  go_simp
  refine (HPD.out _ _ _ HR5'.out HR6.out).mono ?_
  rintro e q10 ⟨rfl, hb10⟩
  have hS10 : (fun ww => ww.heap[gA]? = some (.cells #[.int .u16 (a0 : Nat), .int .u16 (a1 : Nat), .int .u16 (a2 : Nat), .int .u32 (a3 : Nat), .int .u32 (a4 : Nat), .int .u32 (a5 : Nat), .int .u32 (a6 : Nat), .string as7, .string as8] 26 (0, 0)) ∧ ww.heap[gB]? = some (.cells #[.int .u16 (b0 : Nat), .int .u16 (b1 : Nat), .int .u16 (b2 : Nat), .int .u16 (b3 : Nat), .int .u32 (b4 : Nat), .int .u32 (b5 : Nat), .int .u32 (b6 : Nat), .int .u32 (b7 : Nat), .int .u16 (b8 : Nat), .int .u16 (b9 : Nat), .int .u32 (b10 : Nat), .int .u32 (b11 : Nat), .string bs12, .string bs13, .string bs14] 40 (0, 0)) ∧ ww.heap[gD]? = some (.cells #[.int .u32 (d0 : Nat), .int .u64 (d1 : Nat), .int .u64 (d2 : Nat)] 45 (0, 0)) ∧ Below gA w ww) q10 := ⟨(hb10.block _ (lt_of_some hS9.1)).trans hS9.1, (hb10.block _ (lt_of_some hS9.2.1)).trans hS9.2.1, (hb10.block _ (lt_of_some hS9.2.2.1)).trans hS9.2.2.1, hS9.2.2.2.trans (hb10.mono (Nat.le_of_lt (lt_of_some hS9.1)))⟩
  refine hK.out _ _ hS10 (fun hT10 => ?_)
  clear hK K
  try simp only [Act.put, List.setIfInBounds_toArray, List.set_cons_zero, List.set_cons_succ, List.getElem_toArray, List.getElem_cons_succ, List.getElem_cons_zero]
  refine wpAnyH_take (i := 46) (v := .bool true) rfl (by kernel_rfl) (by kernel_rfl) (by kernel_rfl) (fun _ _ _ h => h) (Or.inl ⟨by kernel_rfl, ?_⟩) (by assumption) ?_
  · intro ww hSw
    clear hSw
    go_simp
    all_goals (try omega)
    all_goals (try assumption)
    all_goals (try rfl)
  try simp only [Act.put, List.setIfInBounds_toArray, List.set_cons_zero, List.set_cons_succ, List.getElem_toArray, List.getElem_cons_succ, List.getElem_cons_zero]
  refine wpAnyH_take (i := 47) (v := .bool true) rfl (by kernel_rfl) (by kernel_rfl) (by kernel_rfl) (fun _ _ _ h => h) (Or.inl ⟨by kernel_rfl, ?_⟩) (by assumption) ?_
  · intro ww hSw
    clear hSw
    go_simp
    all_goals (try omega)
    all_goals (try assumption)
    all_goals (try rfl)
  try simp only [Act.put, List.setIfInBounds_toArray, List.set_cons_zero, List.set_cons_succ, List.getElem_toArray, List.getElem_cons_succ, List.getElem_cons_zero]
  refine wpAnyH_take (i := 48) (v := .bool true) rfl (by kernel_rfl) (by kernel_rfl) (by kernel_rfl) (fun _ _ _ h => h) (Or.inl ⟨by kernel_rfl, ?_⟩) (by assumption) ?_
  · intro ww hSw
    clear hSw
    go_simp
    all_goals (try omega)
    all_goals (try assumption)
    all_goals (try rfl)
  try simp only [Act.put, List.setIfInBounds_toArray, List.set_cons_zero, List.set_cons_succ, List.getElem_toArray, List.getElem_cons_succ, List.getElem_cons_zero]
  have HFB := Lib.hid hS10.2.2.2
  refine wpAnyH_done (by kernel_rfl) ?_ _
  clear hS0 hT0 hS1 hT1 hS2 hT2 hS3 hT3 hS4 hT4 hS5 hT5 hS6 hT6 hS7 hT7 hS8 hT8 hS9 hT9 hS10 hT10
  go_wp2_with fail
  go_ret
  exact ⟨rfl, by rw [HGA.out]; exact HFB.out⟩
end Go.Proofs.Ytklmfncljebgnaa
