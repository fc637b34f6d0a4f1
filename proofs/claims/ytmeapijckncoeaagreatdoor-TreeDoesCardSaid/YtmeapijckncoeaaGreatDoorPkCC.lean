/-
  Trees, awake: Right of the two.
  TreePuts: the walk (awake's contract is a premise HAW).
  Trees: awake.
  A slice of items as it comes in.
  The walk of TreeDoes as the frame wants it.
-/
import Derived.Test.YtmeapijckncoeaaGreatDoorPkCB
import Derived.Deep.RegionHeld3
import Derived.Test.YtmeapijckncoeaaGreatDoorPkBA
import Derived.Test.YtmeapijckncoeaaGreatDoorPkBD
import Derived.Test.YtmeapijckncoeaaGreatDoorPkCA
import Derived.Test.YtmeapijckncoeaaGreatDoorPkAA
import Derived.Deep.Slices
import Derived.Deep.Strs
import Derived.ArgAppend
import Derived.Deep.SlicePairs
import Derived.Test.YtmeapijckncoeaaGreatDoorTreeDoesWalk

namespace Go.Proofs.YtmeapijckncoeaaGreatDoor
set_option maxRecDepth 100000
set_option linter.unusedSimpArgs false
set_option linter.unusedVariables false
open Go.RowKit Go.Joins Go.Deep Go.WideMaps
open Go.Lib hiding intOf
theorem map_below {w w' : World} {R : Value → Option (DataW Unit × List MemPlace)} {b n : Nat} {D : DataW Unit} (h : w.ownsMap Tryz.prog 9 R b n D) (hb : Below w.heap.size w w') : w'.ownsMap Tryz.prog 9 R b n D :=
  h.kept (row := none) ⟨hb.os, hb.tape, hb.output, hb.size, fun i hi _ => hb.block i hi⟩ (by simp)
set_option maxHeartbeats 16000000 in
theorem tright_two (A : Option Addr) (c : Nat) (w : World) (hT : Itms w A [itD, itF]) (hE : Env w) : Calls Tryz.prog 13 #[.slice A 2 c] w fun e w' => e = .returned (.bool true) ∧ Below w.heap.size w w' := by
  have hmm := @run_makeMap Tryz.prog
  have hir := info_item
  have hzu := zero_unitP
  have HM := Lib.hid (World.ownsMap_made (H := Unit) w Tryz.prog 9 unitElem)
  have HP1 := Lib.hid (fun w => parent_any ⟨#[97, 47, 98]⟩ w (by decide))
  have HP2 := Lib.hid (fun w => parent_any ⟨#[97]⟩ w (by decide))
  rw [par_ab] at HP1
  rw [par_a] at HP2
  have HB3 := Lib.hid (below_al w (.map #[] 0))
  have HT := Lib.hid hT
  have HE := Lib.hid hE
  clear hT hE
  go_enter Tryz.func13, Tryz.ntmps13
  go_upto_region 2 with (first | (refine wpList_insert_own _ rfl _ _ _ 52 rfl 9 51 keyS Tryz.underlying52 unitElem w.heap.size 0 _ rfl HM.out (by unfold maxLen; omega) _ _ _ rfl rfl keyE (.agg []) [] unitElem_mk ?_; intro w4 hown4 hgrow4))
  have HM4 := Lib.hid hown4
  have HB4 := Lib.hid (HB3.out.grown hgrow4 HB3.out.size (fun k hk => by injection hk with hk; subst hk; exact Nat.le_refl _))
  clear hown4 hgrow4 HM HB3
  go_wp2_with fail
  refine wp_loop_rounds 3 ?_
  rw [rounds_succ]
  obtain ⟨b, off, rfl, hb, ⟨c0, c1, c2, c3, c4, c5, c6, c7⟩, ⟨f0, f1, f2, f3, f4, f5, f6, f7⟩⟩ := two_cells (HT.out.below HB4.out)
  dsimp only [itD, itF] at c0 c1 c2 c3 c4 c5 c6 c7 f0 f1 f2 f3 f4 f5 f6 f7
  obtain ⟨w5, hw5⟩ : ∃ w5, w5 = w4.alloc (.cells #[.string ⟨#[97]⟩, .int .i64 1, .int .u32 0, .int .u32 0, .int .u32 0, .int .i64 0, .int .i64 0, .string ⟨#[]⟩] 42) := ⟨_, rfl⟩
  have h45 : Below w4.heap.size w4 w5 := by rw [hw5]; exact below_al w4 _
  have HM5 := Lib.hid (HM4.out.alloc (.cells #[.string ⟨#[97]⟩, .int .i64 1, .int .u32 0, .int .u32 0, .int .u32 0, .int .i64 0, .int .i64 0, .string ⟨#[]⟩] 42))
  rw [← hw5] at HM5
  have HB5 := Lib.hid (below_then HB4.out h45)
  have HX5 : Hid (w5.heap[w4.heap.size]? = some (.cells #[.string ⟨#[97]⟩, .int .i64 1, .int .u32 0, .int .u32 0, .int .u32 0, .int .i64 0, .int .i64 0, .string ⟨#[]⟩] 42 (0, 0))) := by show _ = _; rw [hw5]; exact heap_alloc_new w4 _
  have HW5 := Lib.hid hw5
  have HFF : Hid (w4.cell? ⟨b, off + 8, none⟩ = some (.string ⟨#[97, 47, 98]⟩)) := f0
  have HBK := Lib.hid h45
  have hbo := hb
  clear h45 hw5 HM4 HB4
  go_upto_region 5 with fail
  rw [← HW5.out]
  generalize hgi : w4.heap.size = gi at *
  have hb : b < w5.heap.size := by have := HBK.out.size; omega
  have c0 : w5.cell? ⟨b, off, none⟩ = some (.string ⟨#[97]⟩) := (HBK.out.cell hbo).trans c0
  clear HW5 c1 c2 c3 c4 c5 c6 c7 f0 f1 f2 f3 f4 f5 f6 f7 HFF
  have HSD := Lib.hid (fun w1 (hE1 : Env w1) => sound_any itD w1 (by decide) hE1)
  rw [sod_d] at HSD
  simp only [Itm.cells, itD] at HSD
  have HSF := Lib.hid (fun w1 (hE1 : Env w1) => sound_any itF w1 (by decide) hE1)
  rw [sod_f] at HSF
  simp only [Itm.cells, itF] at HSF
  have hov : ordT ⟨#[97]⟩ ⟨#[97, 47, 98]⟩ = -1 := by decide
  have HORD : Hid (∀ w1, Calls Tryz.prog 31 #[.string ⟨#[97]⟩, .string ⟨#[97, 47, 98]⟩] w1 fun e w' => e = .returned (.int .i64 (-1)) ∧ Below w1.heap.size w1 w') := fun w1 => (order_any ⟨#[97]⟩ ⟨#[97, 47, 98]⟩ w1 (by decide)).mono (by
    rintro e w' ⟨rfl, d, rfl⟩
    exact ⟨by rw [hov], below_drewN (Below.refl _ _) d⟩)
  clear hov
  have hS0 : (fun ww => Below w.heap.size w ww ∧ Env ww ∧ ww.heap[gi]? = some (.cells #[.string ⟨#[97]⟩, .int .i64 1, .int .u32 0, .int .u32 0, .int .u32 0, .int .i64 0, .int .i64 0, .string ⟨#[]⟩] 42 (0, 0)) ∧ ww.cell? ⟨b, off, none⟩ = some (.string ⟨#[97]⟩) ∧ (b < ww.heap.size) ∧ ww.ownsMap Tryz.prog 9 (unitElem (H := Unit)) w.heap.size 1 ((DataW.map [] : DataW Unit).put (.string []) (.agg []))) w5.drew := ⟨HB5.out.drew, HE.out.below HB5.out.drew, HX5.out, c0, hb, HM5.out⟩
  refine wp_region_held_drew (S := fun ww => Below w.heap.size w ww ∧ Env ww ∧ ww.heap[gi]? = some (.cells #[.string ⟨#[97]⟩, .int .i64 1, .int .u32 0, .int .u32 0, .int .u32 0, .int .i64 0, .int .i64 0, .string ⟨#[]⟩] 42 (0, 0)) ∧ ww.cell? ⟨b, off, none⟩ = some (.string ⟨#[97]⟩) ∧ (b < ww.heap.size) ∧ ww.ownsMap Tryz.prog 9 (unitElem (H := Unit)) w.heap.size 1 ((DataW.map [] : DataW Unit).put (.string []) (.agg []))) (by kernel_rfl) hS0 (fun hSA => ?_)
  clear hS0
  generalize w5.drew = q0 at *
  refine wpAnyH_take (i := 0) (v := .agg #[.string ⟨#[97]⟩, .int .i64 1, .int .u32 0, .int .u32 0, .int .u32 0, .int .i64 0, .int .i64 0, .string ⟨#[]⟩]) rfl (by kernel_rfl) (by kernel_rfl) (by kernel_rfl) (fun _ _ _ h => h) (Or.inl ⟨by kernel_rfl, ?_⟩) (by assumption) ?_
  · intro ww hSw
    have hc0 : ww.cell? ⟨gi, 0, none⟩ = some (.string ⟨#[97]⟩) := by rw [Lib.cell_of_heap hSw.2.2.1]; rfl
    have hc1 : ww.cell? ⟨gi, 1, none⟩ = some (.int .i64 1) := by rw [Lib.cell_of_heap hSw.2.2.1]; rfl
    have hc2 : ww.cell? ⟨gi, 2, none⟩ = some (.int .u32 0) := by rw [Lib.cell_of_heap hSw.2.2.1]; rfl
    have hc3 : ww.cell? ⟨gi, 3, none⟩ = some (.int .u32 0) := by rw [Lib.cell_of_heap hSw.2.2.1]; rfl
    have hc4 : ww.cell? ⟨gi, 4, none⟩ = some (.int .u32 0) := by rw [Lib.cell_of_heap hSw.2.2.1]; rfl
    have hc5 : ww.cell? ⟨gi, 5, none⟩ = some (.int .i64 0) := by rw [Lib.cell_of_heap hSw.2.2.1]; rfl
    have hc6 : ww.cell? ⟨gi, 6, none⟩ = some (.int .i64 0) := by rw [Lib.cell_of_heap hSw.2.2.1]; rfl
    have hc7 : ww.cell? ⟨gi, 7, none⟩ = some (.string ⟨#[]⟩) := by rw [Lib.cell_of_heap hSw.2.2.1]; rfl
    clear hSw
    go_simp
    all_goals (try omega)
    all_goals (try assumption)
    all_goals (try rfl)
  try simp only [Act.put, List.setIfInBounds_toArray, List.set_cons_zero, List.set_cons_succ, List.getElem_toArray, List.getElem_cons_succ, List.getElem_cons_zero]
  refine wpAnyH_ready (rs := [1]) (by kernel_rfl) (by simp) ?_
  refine AllReadyH.cons rfl (fun K hK => ?_) AllReadyH.nil
  go_simp
  refine (HSD.out _ hSA.2.1).mono ?_
  rintro e q1 ⟨rfl, hbq1⟩
  have hSq1 : (fun ww => Below w.heap.size w ww ∧ Env ww ∧ ww.heap[gi]? = some (.cells #[.string ⟨#[97]⟩, .int .i64 1, .int .u32 0, .int .u32 0, .int .u32 0, .int .i64 0, .int .i64 0, .string ⟨#[]⟩] 42 (0, 0)) ∧ ww.cell? ⟨b, off, none⟩ = some (.string ⟨#[97]⟩) ∧ (b < ww.heap.size) ∧ ww.ownsMap Tryz.prog 9 (unitElem (H := Unit)) w.heap.size 1 ((DataW.map [] : DataW Unit).put (.string []) (.agg []))) q1 := ⟨below_then hSA.1 hbq1, hSA.2.1.below hbq1, (hbq1.block _ (lt_of_block hSA.2.2.1)).trans hSA.2.2.1, (hbq1.cell hSA.2.2.2.2.1).trans hSA.2.2.2.1, Nat.lt_of_lt_of_le hSA.2.2.2.2.1 hbq1.size, map_below hSA.2.2.2.2.2 hbq1⟩
  refine hK.out _ _ hSq1 (fun hTq1 => ?_)
  clear hK K
  try simp only [Act.put, List.setIfInBounds_toArray, List.set_cons_zero, List.set_cons_succ, List.getElem_toArray, List.getElem_cons_succ, List.getElem_cons_zero]
  refine wpAnyH_take (i := 2) (v := .bool false) rfl (by kernel_rfl) (by kernel_rfl) (by kernel_rfl) (fun _ _ _ h => h) (Or.inl ⟨by kernel_rfl, ?_⟩) (by assumption) ?_
  · intro ww hSw
    clear hSw
    go_simp
    all_goals (try omega)
    all_goals (try assumption)
    all_goals (try rfl)
  try simp only [Act.put, List.setIfInBounds_toArray, List.set_cons_zero, List.set_cons_succ, List.getElem_toArray, List.getElem_cons_succ, List.getElem_cons_zero]
  refine wpAnyH_take (i := 3) (v := .bool false) rfl (by kernel_rfl) (by kernel_rfl) (by kernel_rfl) (fun _ _ _ h => h) (Or.inl ⟨by kernel_rfl, ?_⟩) (by assumption) ?_
  · intro ww hSw
    clear hSw
    go_simp
    all_goals (try omega)
    all_goals (try assumption)
    all_goals (try rfl)
  try simp only [Act.put, List.setIfInBounds_toArray, List.set_cons_zero, List.set_cons_succ, List.getElem_toArray, List.getElem_cons_succ, List.getElem_cons_zero]
  refine wpAnyH_take (i := 4) (v := .int .i64 0) rfl (by kernel_rfl) (by kernel_rfl) (by kernel_rfl) (fun _ _ _ h => h) (Or.inl ⟨by kernel_rfl, ?_⟩) (by assumption) ?_
  · intro ww hSw
    clear hSw
    go_simp
    all_goals (try omega)
    all_goals (try assumption)
    all_goals (try rfl)
  try simp only [Act.put, List.setIfInBounds_toArray, List.set_cons_zero, List.set_cons_succ, List.getElem_toArray, List.getElem_cons_succ, List.getElem_cons_zero]
  refine wpAnyH_take (i := 5) (v := .bool false) rfl (by kernel_rfl) (by kernel_rfl) (by kernel_rfl) (fun _ _ _ h => h) (Or.inl ⟨by kernel_rfl, ?_⟩) (by assumption) ?_
  · intro ww hSw
    clear hSw
    go_simp
    all_goals (try omega)
    all_goals (try assumption)
    all_goals (try rfl)
  try simp only [Act.put, List.setIfInBounds_toArray, List.set_cons_zero, List.set_cons_succ, List.getElem_toArray, List.getElem_cons_succ, List.getElem_cons_zero]
  refine wpAnyH_take (i := 6) (v := .bool false) rfl (by kernel_rfl) (by kernel_rfl) (by kernel_rfl) (fun _ _ _ h => h) (Or.inl ⟨by kernel_rfl, ?_⟩) (by assumption) ?_
  · intro ww hSw
    clear hSw
    go_simp
    all_goals (try omega)
    all_goals (try assumption)
    all_goals (try rfl)
  try simp only [Act.put, List.setIfInBounds_toArray, List.set_cons_zero, List.set_cons_succ, List.getElem_toArray, List.getElem_cons_succ, List.getElem_cons_zero]
  refine wpAnyH_take (i := 7) (v := undef) rfl (by kernel_rfl) (by kernel_rfl) (by kernel_rfl) (fun _ _ _ h => h) (Or.inr ⟨by kernel_rfl, rfl⟩) (by assumption) ?_
  try simp only [Act.put, List.setIfInBounds_toArray, List.set_cons_zero, List.set_cons_succ, List.getElem_toArray, List.getElem_cons_succ, List.getElem_cons_zero]
  refine wpAnyH_take (i := 8) (v := undef) rfl (by kernel_rfl) (by kernel_rfl) (by kernel_rfl) (fun _ _ _ h => h) (Or.inr ⟨by kernel_rfl, rfl⟩) (by assumption) ?_
  try simp only [Act.put, List.setIfInBounds_toArray, List.set_cons_zero, List.set_cons_succ, List.getElem_toArray, List.getElem_cons_succ, List.getElem_cons_zero]
  refine wpAnyH_take (i := 9) (v := undef) rfl (by kernel_rfl) (by kernel_rfl) (by kernel_rfl) (fun _ _ _ h => h) (Or.inr ⟨by kernel_rfl, rfl⟩) (by assumption) ?_
  try simp only [Act.put, List.setIfInBounds_toArray, List.set_cons_zero, List.set_cons_succ, List.getElem_toArray, List.getElem_cons_succ, List.getElem_cons_zero]
  refine wpAnyH_take (i := 10) (v := undef) rfl (by kernel_rfl) (by kernel_rfl) (by kernel_rfl) (fun _ _ _ h => h) (Or.inr ⟨by kernel_rfl, rfl⟩) (by assumption) ?_
  try simp only [Act.put, List.setIfInBounds_toArray, List.set_cons_zero, List.set_cons_succ, List.getElem_toArray, List.getElem_cons_succ, List.getElem_cons_zero]
  refine wpAnyH_take (i := 11) (v := undef) rfl (by kernel_rfl) (by kernel_rfl) (by kernel_rfl) (fun _ _ _ h => h) (Or.inr ⟨by kernel_rfl, rfl⟩) (by assumption) ?_
  try simp only [Act.put, List.setIfInBounds_toArray, List.set_cons_zero, List.set_cons_succ, List.getElem_toArray, List.getElem_cons_succ, List.getElem_cons_zero]
  refine wpAnyH_take (i := 12) (v := undef) rfl (by kernel_rfl) (by kernel_rfl) (by kernel_rfl) (fun _ _ _ h => h) (Or.inr ⟨by kernel_rfl, rfl⟩) (by assumption) ?_
  try simp only [Act.put, List.setIfInBounds_toArray, List.set_cons_zero, List.set_cons_succ, List.getElem_toArray, List.getElem_cons_succ, List.getElem_cons_zero]
  refine wpAnyH_take (i := 13) (v := undef) rfl (by kernel_rfl) (by kernel_rfl) (by kernel_rfl) (fun _ _ _ h => h) (Or.inr ⟨by kernel_rfl, rfl⟩) (by assumption) ?_
  try simp only [Act.put, List.setIfInBounds_toArray, List.set_cons_zero, List.set_cons_succ, List.getElem_toArray, List.getElem_cons_succ, List.getElem_cons_zero]
  refine wpAnyH_take (i := 14) (v := undef) rfl (by kernel_rfl) (by kernel_rfl) (by kernel_rfl) (fun _ _ _ h => h) (Or.inr ⟨by kernel_rfl, rfl⟩) (by assumption) ?_
  try simp only [Act.put, List.setIfInBounds_toArray, List.set_cons_zero, List.set_cons_succ, List.getElem_toArray, List.getElem_cons_succ, List.getElem_cons_zero]
  refine wpAnyH_take (i := 15) (v := undef) rfl (by kernel_rfl) (by kernel_rfl) (by kernel_rfl) (fun _ _ _ h => h) (Or.inr ⟨by kernel_rfl, rfl⟩) (by assumption) ?_
  try simp only [Act.put, List.setIfInBounds_toArray, List.set_cons_zero, List.set_cons_succ, List.getElem_toArray, List.getElem_cons_succ, List.getElem_cons_zero]
  refine wpAnyH_take (i := 16) (v := undef) rfl (by kernel_rfl) (by kernel_rfl) (by kernel_rfl) (fun _ _ _ h => h) (Or.inr ⟨by kernel_rfl, rfl⟩) (by assumption) ?_
  try simp only [Act.put, List.setIfInBounds_toArray, List.set_cons_zero, List.set_cons_succ, List.getElem_toArray, List.getElem_cons_succ, List.getElem_cons_zero]
  refine wpAnyH_take (i := 17) (v := .bool false) rfl (by kernel_rfl) (by kernel_rfl) (by kernel_rfl) (fun _ _ _ h => h) (Or.inl ⟨by kernel_rfl, ?_⟩) (by assumption) ?_
  · intro ww hSw
    clear hSw
    go_simp
    all_goals (try omega)
    all_goals (try assumption)
    all_goals (try rfl)
  try simp only [Act.put, List.setIfInBounds_toArray, List.set_cons_zero, List.set_cons_succ, List.getElem_toArray, List.getElem_cons_succ, List.getElem_cons_zero]
  refine wpAnyH_take (i := 18) (v := .bool false) rfl (by kernel_rfl) (by kernel_rfl) (by kernel_rfl) (fun _ _ _ h => h) (Or.inl ⟨by kernel_rfl, ?_⟩) (by assumption) ?_
  · intro ww hSw
    clear hSw
    go_simp
    all_goals (try omega)
    all_goals (try assumption)
    all_goals (try rfl)
  try simp only [Act.put, List.setIfInBounds_toArray, List.set_cons_zero, List.set_cons_succ, List.getElem_toArray, List.getElem_cons_succ, List.getElem_cons_zero]
  have HBQ := Lib.hid hSq1.1
  have HXQ := Lib.hid hSq1.2.2.1
  have HMQ := Lib.hid hSq1.2.2.2.2.2
  refine wpAnyH_done (by kernel_rfl) ?_ _
  generalize q1 = Q1 at *
  have z0 := (cell_of_row _ _ 0 _ _ _ HXQ.out).trans (show _ = some (Value.string ⟨#[97]⟩) from rfl)
  go_wp2_with fail
  refine (HP2.out _).mono ?_; rintro e wx ⟨rfl, hww⟩; rw [hww]; clear hww wx
  have hha : Maps.has ((DataW.map [] : DataW Unit).put (.string []) (.agg [])) (.string []) = true := rfl
  obtain ⟨Q2, hQ2⟩ : ∃ Q2, Q2 = Q1.alloc (.cells #[] 51) := ⟨_, rfl⟩
  have h12 : Below Q1.heap.size Q1 Q2 := by rw [hQ2]; exact below_al Q1 _
  have HM6 := Lib.hid (map_below HMQ.out h12)
  have HB6 := Lib.hid (below_then HBQ.out h12)
  have HX6 := Lib.hid ((h12.block _ (lt_of_block HXQ.out)).trans HXQ.out)
  have HQ2 := Lib.hid hQ2
  clear h12 hQ2
  go_upto_region 8 with (at_lookup; refine wpList_lookup_own_unit _ rfl _ _ 52 rfl 9 51 keyS Tryz.underlying52 (zero_unitP _) w.heap.size 1 _ rfl HMQ.out _ _ rfl keyE ?_; rw [hha])
  rw [← HQ2.out]
  clear HQ2 HMQ HBQ HXQ z0 hha
  have z0 := (cell_of_row _ _ 0 _ _ _ HX6.out).trans (show _ = some (Value.string ⟨#[97]⟩) from rfl)
  have z1 := (cell_of_row _ _ 1 _ _ _ HX6.out).trans (show _ = some (Value.int .i64 1) from rfl)
  go_wp2_with (at_mapUpdate; refine wpList_mapUpdate_own _ rfl _ _ _ 52 rfl 9 51 keyS Tryz.underlying52 _ w.heap.size 1 _ rfl HM6.out (by unfold maxLen; omega) _ _ _ rfl rfl keyA (.agg []) [] unitElem_mk ?_; intro w7 hown7 hgrow7)
  have HM4 := Lib.hid hown7
  have HB4 := Lib.hid (HB6.out.grown hgrow7 HB6.out.size (fun k hk => by injection hk with hk; subst hk; exact Nat.le_refl _))
  clear hown7 hgrow7 HM6 HB6 HX6 z0 z1 hb hgi HBK hbo HB5 HX5 HM5
  rw [rounds_succ]
  obtain ⟨b, off, heb, hb, ⟨c0, c1, c2, c3, c4, c5, c6, c7⟩, ⟨f0, f1, f2, f3, f4, f5, f6, f7⟩⟩ := two_cells (HT.out.below HB4.out)
  injection heb with heb
  injection heb with heb1 heb2 _
  subst heb1 heb2
  dsimp only [itD, itF] at c0 c1 c2 c3 c4 c5 c6 c7 f0 f1 f2 f3 f4 f5 f6 f7
  obtain ⟨w9, hw5⟩ : ∃ w9, w9 = w7.alloc (.cells #[.string ⟨#[97, 47, 98]⟩, .int .i64 2, .int .u32 0, .int .u32 0, .int .u32 0, .int .i64 0, .int .i64 0, .string ⟨#[]⟩] 42) := ⟨_, rfl⟩
  have h45 : Below w7.heap.size w7 w9 := by rw [hw5]; exact below_al w7 _
  have HM5 := Lib.hid (HM4.out.alloc (.cells #[.string ⟨#[97, 47, 98]⟩, .int .i64 2, .int .u32 0, .int .u32 0, .int .u32 0, .int .i64 0, .int .i64 0, .string ⟨#[]⟩] 42))
  rw [← hw5] at HM5
  have HB5 := Lib.hid (below_then HB4.out h45)
  have HX5 : Hid (w9.heap[w7.heap.size]? = some (.cells #[.string ⟨#[97, 47, 98]⟩, .int .i64 2, .int .u32 0, .int .u32 0, .int .u32 0, .int .i64 0, .int .i64 0, .string ⟨#[]⟩] 42 (0, 0))) := by show _ = _; rw [hw5]; exact heap_alloc_new w7 _
  have HW5 := Lib.hid hw5
  have HBK := Lib.hid h45
  have hbo := hb
  clear h45 hw5 HM4 HB4
  go_upto_region 5 with fail
  rw [← HW5.out]
  generalize hgi : w7.heap.size = gj at *
  have hb : b < w9.heap.size := by have := HBK.out.size; omega
  have c0 : w9.cell? ⟨b, off, none⟩ = some (.string ⟨#[97]⟩) := (HBK.out.cell hbo).trans c0
  clear HW5 c1 c2 c3 c4 c5 c6 c7 f0 f1 f2 f3 f4 f5 f6 f7 
  have hS0 : (fun ww => Below w.heap.size w ww ∧ Env ww ∧ ww.heap[gj]? = some (.cells #[.string ⟨#[97, 47, 98]⟩, .int .i64 2, .int .u32 0, .int .u32 0, .int .u32 0, .int .i64 0, .int .i64 0, .string ⟨#[]⟩] 42 (0, 0)) ∧ ww.cell? ⟨b, off, none⟩ = some (.string ⟨#[97]⟩) ∧ (b < ww.heap.size) ∧ ww.ownsMap Tryz.prog 9 (unitElem (H := Unit)) w.heap.size 2 (((DataW.map [] : DataW Unit).put (.string []) (.agg [])).put (.string [97]) (.agg []))) w9.drew := ⟨HB5.out.drew, HE.out.below HB5.out.drew, HX5.out, c0, hb, HM5.out⟩
  refine wp_region_held_drew (S := fun ww => Below w.heap.size w ww ∧ Env ww ∧ ww.heap[gj]? = some (.cells #[.string ⟨#[97, 47, 98]⟩, .int .i64 2, .int .u32 0, .int .u32 0, .int .u32 0, .int .i64 0, .int .i64 0, .string ⟨#[]⟩] 42 (0, 0)) ∧ ww.cell? ⟨b, off, none⟩ = some (.string ⟨#[97]⟩) ∧ (b < ww.heap.size) ∧ ww.ownsMap Tryz.prog 9 (unitElem (H := Unit)) w.heap.size 2 (((DataW.map [] : DataW Unit).put (.string []) (.agg [])).put (.string [97]) (.agg []))) (by kernel_rfl) hS0 (fun hSA => ?_)
  clear hS0
  generalize w9.drew = q0 at *
  refine wpAnyH_take (i := 0) (v := .agg #[.string ⟨#[97, 47, 98]⟩, .int .i64 2, .int .u32 0, .int .u32 0, .int .u32 0, .int .i64 0, .int .i64 0, .string ⟨#[]⟩]) rfl (by kernel_rfl) (by kernel_rfl) (by kernel_rfl) (fun _ _ _ h => h) (Or.inl ⟨by kernel_rfl, ?_⟩) (by assumption) ?_
  · intro ww hSw
    have hc0 : ww.cell? ⟨gj, 0, none⟩ = some (.string ⟨#[97, 47, 98]⟩) := by rw [Lib.cell_of_heap hSw.2.2.1]; rfl
    have hc1 : ww.cell? ⟨gj, 1, none⟩ = some (.int .i64 2) := by rw [Lib.cell_of_heap hSw.2.2.1]; rfl
    have hc2 : ww.cell? ⟨gj, 2, none⟩ = some (.int .u32 0) := by rw [Lib.cell_of_heap hSw.2.2.1]; rfl
    have hc3 : ww.cell? ⟨gj, 3, none⟩ = some (.int .u32 0) := by rw [Lib.cell_of_heap hSw.2.2.1]; rfl
    have hc4 : ww.cell? ⟨gj, 4, none⟩ = some (.int .u32 0) := by rw [Lib.cell_of_heap hSw.2.2.1]; rfl
    have hc5 : ww.cell? ⟨gj, 5, none⟩ = some (.int .i64 0) := by rw [Lib.cell_of_heap hSw.2.2.1]; rfl
    have hc6 : ww.cell? ⟨gj, 6, none⟩ = some (.int .i64 0) := by rw [Lib.cell_of_heap hSw.2.2.1]; rfl
    have hc7 : ww.cell? ⟨gj, 7, none⟩ = some (.string ⟨#[]⟩) := by rw [Lib.cell_of_heap hSw.2.2.1]; rfl
    clear hSw
    go_simp
    all_goals (try omega)
    all_goals (try assumption)
    all_goals (try rfl)
  try simp only [Act.put, List.setIfInBounds_toArray, List.set_cons_zero, List.set_cons_succ, List.getElem_toArray, List.getElem_cons_succ, List.getElem_cons_zero]
  refine wpAnyH_ready (rs := [1]) (by kernel_rfl) (by simp) ?_
  refine AllReadyH.cons rfl (fun K hK => ?_) AllReadyH.nil
  go_simp
  refine (HSF.out _ hSA.2.1).mono ?_
  rintro e q1 ⟨rfl, hbq1⟩
  have hSq1 : (fun ww => Below w.heap.size w ww ∧ Env ww ∧ ww.heap[gj]? = some (.cells #[.string ⟨#[97, 47, 98]⟩, .int .i64 2, .int .u32 0, .int .u32 0, .int .u32 0, .int .i64 0, .int .i64 0, .string ⟨#[]⟩] 42 (0, 0)) ∧ ww.cell? ⟨b, off, none⟩ = some (.string ⟨#[97]⟩) ∧ (b < ww.heap.size) ∧ ww.ownsMap Tryz.prog 9 (unitElem (H := Unit)) w.heap.size 2 (((DataW.map [] : DataW Unit).put (.string []) (.agg [])).put (.string [97]) (.agg []))) q1 := ⟨below_then hSA.1 hbq1, hSA.2.1.below hbq1, (hbq1.block _ (lt_of_block hSA.2.2.1)).trans hSA.2.2.1, (hbq1.cell hSA.2.2.2.2.1).trans hSA.2.2.2.1, Nat.lt_of_lt_of_le hSA.2.2.2.2.1 hbq1.size, map_below hSA.2.2.2.2.2 hbq1⟩
  refine hK.out _ _ hSq1 (fun hTq1 => ?_)
  clear hK K
  try simp only [Act.put, List.setIfInBounds_toArray, List.set_cons_zero, List.set_cons_succ, List.getElem_toArray, List.getElem_cons_succ, List.getElem_cons_zero]
  refine wpAnyH_take (i := 2) (v := .bool false) rfl (by kernel_rfl) (by kernel_rfl) (by kernel_rfl) (fun _ _ _ h => h) (Or.inl ⟨by kernel_rfl, ?_⟩) (by assumption) ?_
  · intro ww hSw
    clear hSw
    go_simp
    all_goals (try omega)
    all_goals (try assumption)
    all_goals (try rfl)
  try simp only [Act.put, List.setIfInBounds_toArray, List.set_cons_zero, List.set_cons_succ, List.getElem_toArray, List.getElem_cons_succ, List.getElem_cons_zero]
  refine wpAnyH_take (i := 3) (v := .bool false) rfl (by kernel_rfl) (by kernel_rfl) (by kernel_rfl) (fun _ _ _ h => h) (Or.inl ⟨by kernel_rfl, ?_⟩) (by assumption) ?_
  · intro ww hSw
    clear hSw
    go_simp
    all_goals (try omega)
    all_goals (try assumption)
    all_goals (try rfl)
  try simp only [Act.put, List.setIfInBounds_toArray, List.set_cons_zero, List.set_cons_succ, List.getElem_toArray, List.getElem_cons_succ, List.getElem_cons_zero]
  refine wpAnyH_take (i := 4) (v := .int .i64 1) rfl (by kernel_rfl) (by kernel_rfl) (by kernel_rfl) (fun _ _ _ h => h) (Or.inl ⟨by kernel_rfl, ?_⟩) (by assumption) ?_
  · intro ww hSw
    clear hSw
    go_simp
    all_goals (try omega)
    all_goals (try assumption)
    all_goals (try rfl)
  try simp only [Act.put, List.setIfInBounds_toArray, List.set_cons_zero, List.set_cons_succ, List.getElem_toArray, List.getElem_cons_succ, List.getElem_cons_zero]
  refine wpAnyH_take (i := 5) (v := .bool true) rfl (by kernel_rfl) (by kernel_rfl) (by kernel_rfl) (fun _ _ _ h => h) (Or.inl ⟨by kernel_rfl, ?_⟩) (by assumption) ?_
  · intro ww hSw
    clear hSw
    go_simp
    all_goals (try omega)
    all_goals (try assumption)
    all_goals (try rfl)
  try simp only [Act.put, List.setIfInBounds_toArray, List.set_cons_zero, List.set_cons_succ, List.getElem_toArray, List.getElem_cons_succ, List.getElem_cons_zero]
  refine wpAnyH_take (i := 6) (v := .bool true) rfl (by kernel_rfl) (by kernel_rfl) (by kernel_rfl) (fun _ _ _ h => h) (Or.inl ⟨by kernel_rfl, ?_⟩) (by assumption) ?_
  · intro ww hSw
    clear hSw
    go_simp
    all_goals (try omega)
    all_goals (try assumption)
    all_goals (try rfl)
  try simp only [Act.put, List.setIfInBounds_toArray, List.set_cons_zero, List.set_cons_succ, List.getElem_toArray, List.getElem_cons_succ, List.getElem_cons_zero]
  refine wpAnyH_take (i := 7) (v := .slice (some ⟨b, off, none⟩) 2 c) rfl (by kernel_rfl) (by kernel_rfl) (by kernel_rfl) (fun _ _ _ h => h) (Or.inl ⟨by kernel_rfl, ?_⟩) (by assumption) ?_
  · intro ww hSw
    clear hSw
    go_simp
    all_goals (try omega)
    all_goals (try assumption)
    all_goals (try rfl)
  try simp only [Act.put, List.setIfInBounds_toArray, List.set_cons_zero, List.set_cons_succ, List.getElem_toArray, List.getElem_cons_succ, List.getElem_cons_zero]
  refine wpAnyH_take (i := 8) (v := .int .i64 1) rfl (by kernel_rfl) (by kernel_rfl) (by kernel_rfl) (fun _ _ _ h => h) (Or.inl ⟨by kernel_rfl, ?_⟩) (by assumption) ?_
  · intro ww hSw
    clear hSw
    go_simp
    all_goals (try omega)
    all_goals (try assumption)
    all_goals (try rfl)
  try simp only [Act.put, List.setIfInBounds_toArray, List.set_cons_zero, List.set_cons_succ, List.getElem_toArray, List.getElem_cons_succ, List.getElem_cons_zero]
  refine wpAnyH_take (i := 9) (v := .int .i64 0) rfl (by kernel_rfl) (by kernel_rfl) (by kernel_rfl) (fun _ _ _ h => h) (Or.inl ⟨by kernel_rfl, ?_⟩) (by assumption) ?_
  · intro ww hSw
    clear hSw
    go_simp
    all_goals (try omega)
    all_goals (try assumption)
    all_goals (try rfl)
  try simp only [Act.put, List.setIfInBounds_toArray, List.set_cons_zero, List.set_cons_succ, List.getElem_toArray, List.getElem_cons_succ, List.getElem_cons_zero]
  refine wpAnyH_take (i := 10) (v := .pointer (some ⟨b, off, none⟩)) rfl (by kernel_rfl) (by kernel_rfl) (by kernel_rfl) (fun _ _ _ h => h) (Or.inl ⟨by kernel_rfl, ?_⟩) (by assumption) ?_
  · intro ww hSw
    clear hSw
    go_simp
    all_goals (try omega)
    all_goals (try assumption)
    all_goals (try rfl)
  try simp only [Act.put, List.setIfInBounds_toArray, List.set_cons_zero, List.set_cons_succ, List.getElem_toArray, List.getElem_cons_succ, List.getElem_cons_zero]
  refine wpAnyH_take (i := 11) (v := .pointer (some ⟨b, off, none⟩)) rfl (by kernel_rfl) (by kernel_rfl) (by kernel_rfl) (fun _ _ _ h => h) (Or.inl ⟨by kernel_rfl, ?_⟩) (by assumption) ?_
  · intro ww hSw
    clear hSw
    go_simp
    all_goals (try omega)
    all_goals (try assumption)
    all_goals (try rfl)
  try simp only [Act.put, List.setIfInBounds_toArray, List.set_cons_zero, List.set_cons_succ, List.getElem_toArray, List.getElem_cons_succ, List.getElem_cons_zero]
  refine wpAnyH_take (i := 12) (v := .string ⟨#[97]⟩) rfl (by kernel_rfl) (by kernel_rfl) (by kernel_rfl) (fun _ _ _ h => h) (Or.inl ⟨by kernel_rfl, ?_⟩) (by assumption) ?_
  · intro ww hSw
    have hcc := hSw.2.2.2.1
    clear hSw
    go_simp
    all_goals (try omega)
    all_goals (try assumption)
    all_goals (try rfl)
  try simp only [Act.put, List.setIfInBounds_toArray, List.set_cons_zero, List.set_cons_succ, List.getElem_toArray, List.getElem_cons_succ, List.getElem_cons_zero]
  refine wpAnyH_take (i := 13) (v := .pointer (some ⟨gj, 0, none⟩)) rfl (by kernel_rfl) (by kernel_rfl) (by kernel_rfl) (fun _ _ _ h => h) (Or.inl ⟨by kernel_rfl, ?_⟩) (by assumption) ?_
  · intro ww hSw
    clear hSw
    go_simp
    all_goals (try omega)
    all_goals (try assumption)
    all_goals (try rfl)
  try simp only [Act.put, List.setIfInBounds_toArray, List.set_cons_zero, List.set_cons_succ, List.getElem_toArray, List.getElem_cons_succ, List.getElem_cons_zero]
  refine wpAnyH_take (i := 14) (v := .string ⟨#[97, 47, 98]⟩) rfl (by kernel_rfl) (by kernel_rfl) (by kernel_rfl) (fun _ _ _ h => h) (Or.inl ⟨by kernel_rfl, ?_⟩) (by assumption) ?_
  · intro ww hSw
    have hc0 : ww.cell? ⟨gj, 0, none⟩ = some (.string ⟨#[97, 47, 98]⟩) := by rw [Lib.cell_of_heap hSw.2.2.1]; rfl
    clear hSw
    go_simp
    all_goals (try omega)
    all_goals (try assumption)
    all_goals (try rfl)
  try simp only [Act.put, List.setIfInBounds_toArray, List.set_cons_zero, List.set_cons_succ, List.getElem_toArray, List.getElem_cons_succ, List.getElem_cons_zero]
  refine wpAnyH_ready (rs := [15]) (by kernel_rfl) (by simp) ?_
  refine AllReadyH.cons rfl (fun K hK => ?_) AllReadyH.nil
  go_simp
  refine (HORD.out _).mono ?_
  rintro e q2 ⟨rfl, hbq2⟩
  have hSq2 : (fun ww => Below w.heap.size w ww ∧ Env ww ∧ ww.heap[gj]? = some (.cells #[.string ⟨#[97, 47, 98]⟩, .int .i64 2, .int .u32 0, .int .u32 0, .int .u32 0, .int .i64 0, .int .i64 0, .string ⟨#[]⟩] 42 (0, 0)) ∧ ww.cell? ⟨b, off, none⟩ = some (.string ⟨#[97]⟩) ∧ (b < ww.heap.size) ∧ ww.ownsMap Tryz.prog 9 (unitElem (H := Unit)) w.heap.size 2 (((DataW.map [] : DataW Unit).put (.string []) (.agg [])).put (.string [97]) (.agg []))) q2 := ⟨below_then hSq1.1 hbq2, hSq1.2.1.below hbq2, (hbq2.block _ (lt_of_block hSq1.2.2.1)).trans hSq1.2.2.1, (hbq2.cell hSq1.2.2.2.2.1).trans hSq1.2.2.2.1, Nat.lt_of_lt_of_le hSq1.2.2.2.2.1 hbq2.size, map_below hSq1.2.2.2.2.2 hbq2⟩
  refine hK.out _ _ hSq2 (fun hTq2 => ?_)
  clear hK K
  try simp only [Act.put, List.setIfInBounds_toArray, List.set_cons_zero, List.set_cons_succ, List.getElem_toArray, List.getElem_cons_succ, List.getElem_cons_zero]
  refine wpAnyH_take (i := 16) (v := .bool false) rfl (by kernel_rfl) (by kernel_rfl) (by kernel_rfl) (fun _ _ _ h => h) (Or.inl ⟨by kernel_rfl, ?_⟩) (by assumption) ?_
  · intro ww hSw
    clear hSw
    go_simp
    all_goals (try omega)
    all_goals (try assumption)
    all_goals (try rfl)
  try simp only [Act.put, List.setIfInBounds_toArray, List.set_cons_zero, List.set_cons_succ, List.getElem_toArray, List.getElem_cons_succ, List.getElem_cons_zero]
  refine wpAnyH_take (i := 17) (v := .bool false) rfl (by kernel_rfl) (by kernel_rfl) (by kernel_rfl) (fun _ _ _ h => h) (Or.inl ⟨by kernel_rfl, ?_⟩) (by assumption) ?_
  · intro ww hSw
    clear hSw
    go_simp
    all_goals (try omega)
    all_goals (try assumption)
    all_goals (try rfl)
  try simp only [Act.put, List.setIfInBounds_toArray, List.set_cons_zero, List.set_cons_succ, List.getElem_toArray, List.getElem_cons_succ, List.getElem_cons_zero]
  refine wpAnyH_take (i := 18) (v := .bool false) rfl (by kernel_rfl) (by kernel_rfl) (by kernel_rfl) (fun _ _ _ h => h) (Or.inl ⟨by kernel_rfl, ?_⟩) (by assumption) ?_
  · intro ww hSw
    clear hSw
    go_simp
    all_goals (try omega)
    all_goals (try assumption)
    all_goals (try rfl)
  try simp only [Act.put, List.setIfInBounds_toArray, List.set_cons_zero, List.set_cons_succ, List.getElem_toArray, List.getElem_cons_succ, List.getElem_cons_zero]
  have HBQ := Lib.hid hSq2.1
  have HXQ := Lib.hid hSq2.2.2.1
  have HMQ := Lib.hid hSq2.2.2.2.2.2
  refine wpAnyH_done (by kernel_rfl) ?_ _
  generalize q2 = Q1 at *
  have z0 := (cell_of_row _ _ 0 _ _ _ HXQ.out).trans (show _ = some (Value.string ⟨#[97, 47, 98]⟩) from rfl)
  go_wp2_with fail
  refine (HP1.out _).mono ?_; rintro e wx ⟨rfl, hww⟩; rw [hww]; clear hww wx
  have hha : Maps.has (((DataW.map [] : DataW Unit).put (.string []) (.agg [])).put (.string [97]) (.agg [])) (.string [97]) = true := rfl
  obtain ⟨Q2, hQ2⟩ : ∃ Q2, Q2 = Q1.alloc (.cells #[] 51) := ⟨_, rfl⟩
  have h12 : Below Q1.heap.size Q1 Q2 := by rw [hQ2]; exact below_al Q1 _
  have HM6 := Lib.hid (map_below HMQ.out h12)
  have HB6 := Lib.hid (below_then HBQ.out h12)
  have HX6 := Lib.hid ((h12.block _ (lt_of_block HXQ.out)).trans HXQ.out)
  have HQ2 := Lib.hid hQ2
  clear h12 hQ2
  go_upto_region 8 with (at_lookup; refine wpList_lookup_own_unit _ rfl _ _ 52 rfl 9 51 keyS Tryz.underlying52 (zero_unitP _) w.heap.size 2 _ rfl HMQ.out _ _ rfl keyA ?_; rw [hha])
  rw [← HQ2.out]
  clear HQ2 HMQ HBQ HXQ z0 hha
  have z0 := (cell_of_row _ _ 0 _ _ _ HX6.out).trans (show _ = some (Value.string ⟨#[97, 47, 98]⟩) from rfl)
  have z1 := (cell_of_row _ _ 1 _ _ _ HX6.out).trans (show _ = some (Value.int .i64 2) from rfl)
  go_wp2_with fail
  rw [rounds_succ]
  go_wp2_with fail
  go_ret
  exact ⟨rfl, HB6.out⟩
end Go.Proofs.YtmeapijckncoeaaGreatDoor

namespace Go.Proofs.YtmeapijckncoeaaGreatDoor
set_option maxRecDepth 100000
set_option linter.unusedSimpArgs false
set_option linter.unusedVariables false
open Go.RowKit Go.Joins Go.Deep
open Go.Lib hiding intOf
theorem few_bounds {l : List Itm} (h : FewP l) : l.length ≤ 1000 ∧ ∀ x ∈ l, x.s.size ≤ 100000 := by
  refine ⟨?_, fun x hx => by have := h x hx; omega⟩
  cases l with
  | nil => decide
  | cons x l => have := (h x (by simp)).1; omega
theorem puts_fact (l : List Itm) (p : ByteArray) : (!(!(l.any datL) && rgtI l) || (!((drpL p l).any datL) && rgtI (drpL p l))) = true := by
  by_cases h1 : l.any datL = true
  · rw [h1]; rfl
  · have h1 := Bool.eq_false_iff.2 h1
    by_cases h2 : rgtI l = true
    · rw [dat_drop p h1, rgt_drop p h2, h1, h2]; rfl
    · rw [Bool.eq_false_iff.2 h2, h1]; rfl
end Go.Proofs.YtmeapijckncoeaaGreatDoor

namespace Go.Proofs.YtmeapijckncoeaaGreatDoor
set_option maxRecDepth 100000
set_option linter.unusedSimpArgs false
set_option linter.unusedVariables false
open Go.RowKit Go.Joins Go.Deep Go.WideMaps
open Go.Lib hiding intOf
set_option maxHeartbeats 8000000 in
theorem awake16_any (w : World) (hE : Env w) : Calls Tryz.prog 4 #[] w fun e w' => e = .returned (.bool true) ∧ Below w.heap.size w w' := by
  have hir := info_item
  obtain ⟨w1, hw1⟩ : ∃ w1, w1 = w.alloc (.cells #[.string ⟨#[97, 47, 98]⟩, .int .i64 2, .int .u32 0, .int .u32 0, .int .u32 0, .int .i64 0, .int .i64 0, .string ⟨#[]⟩] 42) := ⟨_, rfl⟩
  have h01 : Below w.heap.size w w1 := by rw [hw1]; exact below_al w _
  have hx1 : w1.heap[w.heap.size]? = some (.cells #[.string ⟨#[97, 47, 98]⟩, .int .i64 2, .int .u32 0, .int .u32 0, .int .u32 0, .int .i64 0, .int .i64 0, .string ⟨#[]⟩] 42 (0, 0)) := by rw [hw1]; exact heap_alloc_new w _
  have hT1 : Itms w1 (some ⟨w.heap.size, 0, none⟩) [itF] := fun _ => ⟨w.heap.size, 0, rfl, lt_of_block hx1, fun k x hk => by
    cases k with
    | succ k => simp at hk
    | zero =>
      simp at hk
      subst hk
      exact ⟨(cell_of_row _ _ 0 _ _ _ hx1).trans rfl, (cell_of_row _ _ 1 _ _ _ hx1).trans rfl, (cell_of_row _ _ 2 _ _ _ hx1).trans rfl, (cell_of_row _ _ 3 _ _ _ hx1).trans rfl, (cell_of_row _ _ 4 _ _ _ hx1).trans rfl, (cell_of_row _ _ 5 _ _ _ hx1).trans rfl, (cell_of_row _ _ 6 _ _ _ hx1).trans rfl, (cell_of_row _ _ 7 _ _ _ hx1).trans rfl⟩⟩
  have HF := Lib.hid (fill_one (some ⟨w.heap.size, 0, none⟩) 1 w1 hT1)
  have hnd : itD.node = #[.int .i64 1, .int .u32 0, .int .u32 0, .int .u32 0, .int .i64 0, .int .i64 0, .string ⟨#[]⟩] := rfl
  rw [hnd] at HF
  have HB1 := Lib.hid h01
  have HW1 := Lib.hid hw1
  have HE := Lib.hid hE
  clear h01 hx1 hT1 hw1 hnd hE
  go_enter Tryz.func4, Tryz.ntmps4
  go_wp2_with fail
  rw [← HW1.out]
  refine HF.out.mono ?_; rintro e w2 ⟨A2, c2, rfl, hN2, hb2⟩
  have HB2 := Lib.hid (below_then HB1.out hb2)
  obtain ⟨b, off, rfl, hb, ⟨c0, _⟩, _⟩ := two_cells hN2.itms
  have HR := Lib.hid (tright_two (some ⟨b, off, none⟩) c2 w2 hN2.itms (HE.out.below HB2.out))
  dsimp only [itD] at c0
  clear hN2 hb2 HF HW1 HB1
  go_wp2_with fail
  refine HR.out.mono ?_; rintro e w3 ⟨rfl, hb3⟩
  have HB3 := Lib.hid (below_then HB2.out hb3)
  clear hb3 HR HB2
  go_wp2_with fail
  go_ret
  exact ⟨rfl, HB3.out⟩
end Go.Proofs.YtmeapijckncoeaaGreatDoor

namespace Go.Proofs.YtmeapijckncoeaaGreatDoor
set_option maxRecDepth 100000
set_option linter.unusedVariables false
open Go.Joins Go.RowKit Go.Deep Go.ChangeShapes Go.WideShapes
theorem cells_item : Tryz.prog.cellsOf 42 = 8 := by kernel_rfl
theorem cells_node : Tryz.prog.cellsOf 25 = 7 := by kernel_rfl
theorem cells_istr : Tryz.prog.cellsOf 9 = 1 := by kernel_rfl
theorem cells_iint : Tryz.prog.cellsOf 3 = 1 := by kernel_rfl
theorem cells_iu32 : Tryz.prog.cellsOf 23 = 1 := by kernel_rfl
theorem cells_ii64 : Tryz.prog.cellsOf 2 = 1 := by kernel_rfl
/-- What an item's parts are within. -/
def ItmOk (x : Itm) : Prop := x.s.size ≤ maxLen ∧ (Lit.int .i64 x.k).wf = true ∧ (Lit.int .u32 x.m).wf = true ∧ (Lit.int .u32 x.u).wf = true ∧ (Lit.int .u32 x.g).wf = true ∧ (Lit.int .i64 x.t).wf = true ∧ (Lit.int .i64 x.a).wf = true ∧ x.d.size ≤ maxLen
/-- A slice of items is one. -/
theorem itms_row {H : Type} {enc : TypeId × Value → H} {W : World} {fuel : Nat} {a : Option Addr} {len cap : Nat} {x : DataW H × List MemPlace} (h : DataW.trod enc Tryz.prog W 0 (fun _ => true) true fuel 22 [.slice a len cap] = some x) : ∃ l : List Itm, len = l.length ∧ Itms W a l ∧ (∀ f ∈ l, ItmOk f) ∧ (a = none → len = 0 ∧ cap = 0) ∧ len ≤ cap := by
  rcases open_slice Tryz.underlying22 h with ⟨hcs, _⟩ | ⟨ad, len', cap', m, n, D, Pl, hcs, _, hl, hm, hmm, _, hel⟩
  · simp at hcs
    obtain ⟨rfl, rfl, rfl⟩ := hcs
    exact ⟨[], rfl, Itms.nil _ _, fun f hf => (by cases hf), fun _ => ⟨rfl, rfl⟩, Nat.le_refl _⟩
  · simp at hcs
    obtain ⟨rfl, rfl, rfl⟩ := hcs
    have hm2 : len ≤ m := by rw [hmm]; simp; exact hl
    have each : ∀ i, i < len → ∃ t : Itm, ItmOk t ∧ W.cell? (ad.add (i * 8)) = some (.string t.s) ∧ W.cell? (ad.add (i * 8 + 1)) = some (.int .i64 t.k) ∧ W.cell? (ad.add (i * 8 + 2)) = some (.int .u32 t.m) ∧ W.cell? (ad.add (i * 8 + 3)) = some (.int .u32 t.u) ∧ W.cell? (ad.add (i * 8 + 4)) = some (.int .u32 t.g) ∧ W.cell? (ad.add (i * 8 + 5)) = some (.int .i64 t.t) ∧ W.cell? (ad.add (i * 8 + 6)) = some (.int .i64 t.a) ∧ W.cell? (ad.add (i * 8 + 7)) = some (.string t.d) := by
      intro i hi
      obtain ⟨cs', h1, h2⟩ := hel i (by omega)
      rw [cells_item] at h1
      obtain ⟨_, hlen, hcell⟩ := World.cells?_some h1
      obtain ⟨xs, k, hk, hxy, _, hxl, hf⟩ := DataW.trod_struct Tryz.underlying42 h2
      match xs, hxl, cs', hlen with
      | [y0, y1], _, [v0, v1, v2, v3, v4, v5, v6, v7], _ =>
        have g0 := hf 0 _ rfl
        have g1 := hf 1 _ rfl
        simp [cells_istr, cells_node] at g0 g1
        have e0 := hcell 0 (by omega)
        have e1 := hcell 1 (by omega)
        have e2 := hcell 2 (by omega)
        have e3 := hcell 3 (by omega)
        have e4 := hcell 4 (by omega)
        have e5 := hcell 5 (by omega)
        have e6 := hcell 6 (by omega)
        have e7 := hcell 7 (by omega)
        rw [add_add] at e0 e1 e2 e3 e4 e5 e6 e7
        obtain ⟨ys, k2, hk2, hxy2, _, hyl, hf2⟩ := DataW.trod_struct Tryz.underlying25 g1
        match ys, hyl with
        | [z1, z2, z3, z4, z5, z6, z7], _ =>
          have k1 := hf2 0 _ rfl
          have k2 := hf2 1 _ rfl
          have k3 := hf2 2 _ rfl
          have k4 := hf2 3 _ rfl
          have k5 := hf2 4 _ rfl
          have k6 := hf2 5 _ rfl
          have k7 := hf2 6 _ rfl
          simp [cells_istr, cells_iint, cells_iu32, cells_ii64] at k1 k2 k3 k4 k5 k6 k7
          obtain ⟨x0, q0, _, w0⟩ := DataW.trod_string Tryz.underlying9 g0
          obtain ⟨x1, q1, _, w1⟩ := DataW.trod_int Tryz.underlying3 k1
          obtain ⟨x2, q2, _, w2⟩ := DataW.trod_int Tryz.underlying23 k2
          obtain ⟨x3, q3, _, w3⟩ := DataW.trod_int Tryz.underlying23 k3
          obtain ⟨x4, q4, _, w4⟩ := DataW.trod_int Tryz.underlying23 k4
          obtain ⟨x5, q5, _, w5⟩ := DataW.trod_int Tryz.underlying2 k5
          obtain ⟨x6, q6, _, w6⟩ := DataW.trod_int Tryz.underlying2 k6
          obtain ⟨x7, q7, _, w7⟩ := DataW.trod_string Tryz.underlying9 k7
          simp at q0 q1 q2 q3 q4 q5 q6 q7
          subst q0 q1 q2 q3 q4 q5 q6 q7
          exact ⟨⟨x0, x1, x2, x3, x4, x5, x6, x7⟩, ⟨w0, w1, w2, w3, w4, w5, w6, w7⟩, by simpa using e0, by simpa using e1, by simpa using e2, by simpa using e3, by simpa using e4, by simpa using e5, by simpa using e6, by simpa using e7⟩
    obtain ⟨f, hf⟩ := choose_lt each
    refine ⟨(List.range len).map f, by simp, fun hpos => ?_, fun t ht => ?_, fun h => (by cases h), hl⟩
    · rw [List.length_map, List.length_range] at hpos
      obtain ⟨b, off, spot⟩ := ad
      have hz := (hf 0 hpos).2.1
      have hspot : spot = none := by simpa [Addr.add] using World.cell?_spot hz
      subst hspot
      refine ⟨b, off, rfl, block_lt_of_cell hz, fun i x hx => ?_⟩
      have hi : i < len := by have := (List.getElem?_eq_some_iff.1 hx).1; simpa using this
      obtain ⟨h0, c0, c1, c2, c3, c4, c5, c6, c7⟩ := hf i hi
      rw [Addr.add_lit] at c0 c1 c2 c3 c4 c5 c6 c7
      rw [List.getElem?_map, List.getElem?_range hi] at hx
      injection hx with hx
      subst hx
      rw [← Nat.add_assoc] at c1 c2 c3 c4 c5 c6 c7
      exact ⟨c0, c1, c2, c3, c4, c5, c6, c7⟩
    · obtain ⟨i, hi, rfl⟩ := List.mem_map.1 ht
      exact (hf i (by simpa using hi)).1
theorem itms_len {H : Type} {enc : TypeId × Value → H} {W : World} {fuel : Nat} {a : Option Addr} {len cap : Nat} {x : DataW H × List MemPlace} (h : DataW.trod enc Tryz.prog W 0 (fun _ => true) true fuel 22 [.slice a len cap] = some x) : len ≤ maxLen := by
  rcases open_slice Tryz.underlying22 h with ⟨hcs, _⟩ | ⟨ad, len', cap', m, n, D, Pl, hcs, _, hl, hm, hmm, _, hel⟩
  · simp at hcs
    obtain ⟨rfl, rfl, rfl⟩ := hcs
    exact Nat.zero_le _
  · simp at hcs
    obtain ⟨rfl, rfl, rfl⟩ := hcs
    omega
end Go.Proofs.YtmeapijckncoeaaGreatDoor

namespace Go.Proofs.YtmeapijckncoeaaGreatDoor
set_option maxRecDepth 100000
set_option linter.unusedVariables false
open Go.RowKit Go.Joins Go.Deep
theorem itms_row' {H : Type} {enc : TypeId × Value → H} {W : World} {fuel : Nat} {a : Option Addr} {len cap : Nat} {x : DataW H × List MemPlace} (h : DataW.trod enc Tryz.prog W 0 (fun _ => true) true fuel 22 [.slice a len cap] = some x) : ∃ l : List Itm, len = l.length ∧ Itms W a l ∧ ((∀ f ∈ l, ItmOk f) ∧ l.length ≤ maxLen) ∧ (a = none → len = 0 ∧ cap = 0) ∧ len ≤ cap := by
  obtain ⟨l, h1, h2, h3, h4, h5⟩ := itms_row h
  refine ⟨l, h1, h2, ⟨h3, ?_⟩, h4, h5⟩
  rw [← h1]
  exact itms_len h
theorem treeDoes_walk (a0 : Option Addr) (cap0 : Nat) (l0 : List Itm) (a1 : Option Addr) (cap1 : Nat) (l1 : List Itm) (p : ByteArray) (n0 n1 n2 n3 n4 n5 : Int) (n6 : ByteArray) (m0 m1 m2 m3 m4 m5 : Int) (m6 : ByteArray) {q0 q1 q2 q3 q4 q5 q6 q7 r1 r2 r3 r4 r5 r6 r7 : Prop} (_ : q0) (_ : q1) (_ : q2) (_ : q3) (_ : q4) (_ : q5) (_ : q6) (_ : q7) (_ : r1) (_ : r2) (_ : r3) (_ : r4) (_ : r5) (_ : r6) (_ : r7) (w : World) (hp0 : Itms w a0 l0) (ho0 : (∀ f ∈ l0, ItmOk f) ∧ l0.length ≤ maxLen) (hn0 : a0 = none → l0.length = 0 ∧ cap0 = 0) (hc0 : l0.length ≤ cap0) (hp1 : Itms w a1 l1) (ho1 : (∀ f ∈ l1, ItmOk f) ∧ l1.length ≤ maxLen) (hn1 : a1 = none → l1.length = 0 ∧ cap1 = 0) (hc1 : l1.length ≤ cap1) (hE : Env w) :
    Calls Tryz.prog 3 #[.slice a0 l0.length cap0, .slice a1 l1.length cap1, .string p, .agg #[.int .i64 n0, .int .u32 n1, .int .u32 n2, .int .u32 n3, .int .i64 n4, .int .i64 n5, .string n6], .agg #[.int .i64 m0, .int .u32 m1, .int .u32 m2, .int .u32 m3, .int .i64 m4, .int .i64 m5, .string m6]] w fun e w' => e = .returned (.bool true) ∧ Below w.heap.size w w' :=
  treeDoes_core a0 a1 cap0 cap1 l0 l1 ⟨p, n0, n1, n2, n3, n4, n5, n6⟩ ⟨⟨#[]⟩, m0, m1, m2, m3, m4, m5, m6⟩ w hp0 hp1 (by have := ho0.2; unfold maxLen at this; omega) (by have := ho1.2; unfold maxLen at this; omega) hE (fun w1 hb => awake16_any w1 (hE.below hb))
end Go.Proofs.YtmeapijckncoeaaGreatDoor
