/-
  Trees: what is sorted stays so.
  Trees, awake: Fill of one item; the sort of the two.
  Trees, awake: Right of the two: the items are sound; their cells.
  Trees, awake: Right of the two.
-/
import Derived.Test.YtpkhpaklhfomkaaDoorIsI
import Derived.Test.YtpkhpaklhfomkaaDoorPkA
import Derived.Deep.RegionHeld3

namespace Go.Proofs.YtpkhpaklhfomkaaDoor
set_option maxRecDepth 100000
set_option linter.unusedSimpArgs false
set_option linter.unusedVariables false
open Go.RowKit Go.Joins Go.Deep
theorem sortI_get (l : List Itm) (p : Nat) (h : p < l.length) : ∃ i, i < l.length ∧ (idxI l)[p]? = some i ∧ atL (sortI l) p = atL l i := by
  have hp : p < (idxI l).length := by rw [(idxI_perm l).length_eq, List.length_range]; exact h
  refine ⟨(idxI l)[p], ?_, List.getElem?_eq_getElem hp, ?_⟩
  · exact List.mem_range.1 ((idxI_perm l).mem_iff.1 (List.getElem_mem hp))
  · show (sortI l)[p]?.getD default = _
    unfold sortI
    rw [List.getElem?_map, List.getElem?_eq_getElem hp]
    rfl
theorem sortI_ord (l : List Itm) (p q : Nat) (hpq : p < q) (hq : q < l.length) : ordT (atL (sortI l) p).s (atL (sortI l) q).s ≤ 0 := by
  obtain ⟨i, hi, hip, ei⟩ := sortI_get l p (by omega)
  obtain ⟨j, hj, hjq, ej⟩ := sortI_get l q hq
  rw [ei, ej]
  obtain ⟨hpl, hip⟩ := List.getElem?_eq_some_iff.1 hip
  obtain ⟨hql, hjq⟩ := List.getElem?_eq_some_iff.1 hjq
  have hle := List.pairwise_iff_getElem.1 (idxI_pw l) p q hpl hql hpq
  have hne : i ≠ j := by
    have hnd : (idxI l).Nodup := (idxI_perm l).nodup_iff.2 List.nodup_range
    have := List.pairwise_iff_getElem.1 hnd p q hpl hql hpq
    rw [hip, hjq] at this
    exact this
  rw [hip, hjq] at hle
  have hlt : rnk l i < rnk l j := by
    rcases Nat.lt_or_ge (rnk l i) (rnk l j) with h | h
    · exact h
    · exact absurd (rnk_inj hi hj (by omega)) hne
  have := of_decide_eq_true ((rnk_iff hi hj).1 hlt)
  omega
theorem sortI_sort (l : List Itm) : sortI (sortI l) = sortI l := by
  have hlen := sortI_len l
  have h := Is.srt_unique (sortI l) (List.range (sortI l).length) (List.Perm.refl _) ?_
  · rw [Is.idx_get] at h
    exact h.symm
  · intro p q h1 h2 h3
    rw [Is.at0_range _ _ (by omega), Is.at0_range _ _ (by omega)]
    by_cases e : p = q
    · subst e
      exact Nat.le_refl _
    refine Nat.le_of_lt ((rnk_iff (by omega) (by omega)).2 ?_)
    refine decide_eq_true ?_
    have := sortI_ord l p q (by omega) (by omega)
    omega
theorem sortI_mem (l : List Itm) (x : Itm) (h : x ∈ sortI l) : x ∈ l := by
  unfold sortI at h
  obtain ⟨i, hi, rfl⟩ := List.mem_map.1 h
  have hi := List.mem_range.1 ((idxI_perm l).mem_iff.1 hi)
  show l[i]?.getD default ∈ l
  rw [List.getElem?_eq_getElem hi]
  exact List.getElem_mem hi
end Go.Proofs.YtpkhpaklhfomkaaDoor

namespace Go.Proofs.YtpkhpaklhfomkaaDoor
set_option maxRecDepth 100000
set_option linter.unusedSimpArgs false
set_option linter.unusedVariables false
open Go.RowKit Go.Joins Go.Deep Go.WideMaps
open Go.Lib hiding intOf
theorem ord_df : ordT itD.s itF.s < 0 := by decide
theorem ord_fd : ¬ ordT itF.s itD.s < 0 := by decide
theorem sort_two : sortI [itF, itD] = [itD, itF] := by
  have h := Is.srt_unique [itF, itD] [1, 0] (List.Perm.swap 0 1 []) ?_
  · exact h.symm
  · intro p q h1 h2 h3
    have e0 : rnk [itF, itD] 1 = 0 := by decide
    have h4 : q < 2 := h3
    have h5 : p = 0 ∨ (p = 1 ∧ q = 1) := by omega
    rcases h5 with rfl | ⟨rfl, rfl⟩
    · show rnk [itF, itD] 1 ≤ _
      rw [e0]
      exact Nat.zero_le _
    · exact Nat.le_refl _
set_option maxHeartbeats 16000000 in
theorem fill_one (A : Option Addr) (c : Nat) (w : World) (hT : Itms w A [itF]) : Calls Tryd.prog 12 #[.slice A 1 c, .agg itD.node] w fun e w' => ∃ A' c', e = .returned (.tuple #[.slice A' 2 c', .bool true]) ∧ NewI w' w.heap.size A' [itD, itF] ∧ Below w.heap.size w w' := by
  obtain ⟨i0, hi, hz0, hz1, hz2⟩ := partsI
  have hir := info_item
  have hinod := info_nodeT
  obtain ⟨w1, hw1⟩ : ∃ w1, w1 = w.alloc (.cells #[.int .i64 1, .int .u32 0, .int .u32 0, .int .u32 0, .int .i64 0, .int .i64 0, .string ⟨#[]⟩] 25) := ⟨_, rfl⟩
  have h01 : Below w.heap.size w w1 := by rw [hw1]; exact below_al w _
  have HX1 : Hid (w1.heap[w.heap.size]? = some (.cells #[.int .i64 1, .int .u32 0, .int .u32 0, .int .u32 0, .int .i64 0, .int .i64 0, .string ⟨#[]⟩] 25 (0, 0))) := by show _ = _; rw [hw1]; exact heap_alloc_new w _
  have HB1 := Lib.hid h01
  have HT1 := Lib.hid (hT.below h01)
  have HIM := Lib.hid (implied_one A c w1 HT1.out)
  have HW1 := Lib.hid hw1
  have hnd : itD.node = #[.int .i64 1, .int .u32 0, .int .u32 0, .int .u32 0, .int .i64 0, .int .i64 0, .string ⟨#[]⟩] := rfl
  rw [hnd]
  clear hT h01 hw1 hnd
  go_enter Tryd.func12, Tryd.ntmps12
  go_upto_region 1 with fail
  rw [← HW1.out]
  go_wp2_with fail
  refine HIM.out.mono ?_; rintro e w2 ⟨v, rfl, hown, hb2⟩
  have HB2 := Lib.hid (below_then HB1.out hb2)
  have HX2 := Lib.hid ((hb2.block _ (lt_of_block HX1.out)).trans HX1.out)
  have HCL := Lib.hid (cloneB_any A c [itF] w2 (HT1.out.below hb2) (by decide))
  obtain ⟨gv, cv, rfl⟩ : ∃ gv cv, v = .slice (some ⟨gv, 0, none⟩) 1 cv := by
    rcases hown.2 with ⟨_, h0⟩ | ⟨g, cap, cur, h, _⟩
    · cases h0
    · exact ⟨g, cap, h⟩
  have hv0 : w2.cell? ⟨gv, 0, none⟩ = some (.string ⟨#[97]⟩) := hown.cellAt 0 (by decide)
  have HV : Hid (gv < w2.heap.size ∧ w2.cell? ⟨gv, 0, none⟩ = some (.string ⟨#[97]⟩)) := ⟨(hown.lt gv rfl).2, hv0⟩
  clear hb2 hown HIM HX1 HT1 hv0
  have hlen1 : [itF].length = 1 := rfl
  rw [hlen1] at HCL
  go_wp2_with fail
  refine HCL.out.mono ?_; rintro e w3 ⟨A3, c3, rfl, hc3, hN3, hb3⟩
  have HB3 := Lib.hid (below_then HB2.out hb3)
  have hx3 := (hb3.block _ (lt_of_block HX2.out)).trans HX2.out
  have HX3 := Lib.hid hx3
  have v0 : w3.cell? ⟨gv, 0, none⟩ = some (.string ⟨#[97]⟩) := (hb3.cell HV.out.1).trans HV.out.2
  have hown3 := own_of hN3 hc3
  have hB3 : w.heap.size ≤ w2.heap.size := HB2.out.size
  have hown3 : w3.ownsRow w.heap.size 38 8 (.slice A3 1 c3) 1 (cellsI [itF]) := by
    rcases hown3 with ⟨a, b⟩
    refine ⟨a, ?_⟩
    rcases b with b | ⟨g, cap, cur, q1, q2, q3⟩
    · exact .inl b
    · exact .inr ⟨g, cap, cur, q1, Nat.le_trans hB3 q2, q3⟩
  have HO3 := Lib.hid hown3
  clear hb3 hN3 hown3 hc3 HCL HV hx3 HX2 HB2 hB3 hlen1
  go_wp2_with fail
  refine wp_loop_rounds 2 ?_
  rw [rounds_succ]
  have HO4 := Lib.hid (HO3.out.alloc (.cells #[.string ⟨#[97]⟩, .int .i64 1, .int .u32 0, .int .u32 0, .int .u32 0, .int .i64 0, .int .i64 0, .string ⟨#[]⟩] 38))
  have HB4 := Lib.hid (below_then HB3.out (below_al w3 (.cells #[.string ⟨#[97]⟩, .int .i64 1, .int .u32 0, .int .u32 0, .int .u32 0, .int .i64 0, .int .i64 0, .string ⟨#[]⟩] 38)))
  have HQ2 : Hid (∀ j u, itD.cellsL[j]? = some u → (w3.alloc (.cells #[.string ⟨#[97]⟩, .int .i64 1, .int .u32 0, .int .u32 0, .int .u32 0, .int .i64 0, .int .i64 0, .string ⟨#[]⟩] 38)).cell? ((⟨w3.heap.size, 0, none⟩ : Addr).add j) = some u) := fun j u hj => by
    rw [Addr.add_lit, Nat.zero_add, cell_of_row _ _ j _ _ _ (heap_alloc_new w3 _)]
    simpa [itD, Itm.cellsL] using hj
  go_wp2_with (first
    | refine wpList_load_row rfl 25 (.tmp 3) rfl w.heap.size rfl 25 _ (0, 0) _ HX3.out Tryd.underlying25 rfl info_nodeT ?_
    | (at_builtin; refine wpList_append_own _ rfl _ _ 22 rfl w.heap.size 38 i0 (.agg #[.string ⟨#[]⟩, .int .i64 0, .int .u32 0, .int .u32 0, .int .u32 0, .int .i64 0, .int .i64 0, .string ⟨#[]⟩]) 8 72 Tryd.underlying22 hi hz0 hz1 hz2 rfl (by decide) _ _ _ rfl HO4.out ⟨w3.heap.size, 0, none⟩ 1 1 itD.cellsL rfl ?qc1 ?qc2 ?qc3 ?qc4 ?qc5 ?qc6 ?_))
  case qc1 => rfl
  case qc2 => exact HQ2.out
  case qc3 =>
    intro u hu
    exact cellsI_one [itD] u (by rw [cellsI, cellsI, List.append_nil]; exact hu)
  case qc4 => decide
  case qc5 => decide
  case qc6 => exact HB4.out.size
  intro v5 w5 hown5 hgrow5 _
  have HB5 := Lib.hid (HB4.out.grown hgrow5 HB4.out.size (fun k hk => (HO4.out.lt k hk).1))
  have e2 : cellsI [itF] ++ itD.cellsL = cellsI [itF, itD] := rfl
  have hown5 : w5.ownsRow w.heap.size 38 8 v5 [itF, itD].length (cellsI [itF, itD]) := hown5
  obtain ⟨A5, c5, rfl, hN5⟩ := nb_of_own v5 (by decide) hown5
  have HST := Lib.hid (tsort_any A5 c5 [itF, itD] w5 hN5.itms (by decide) (by decide))
  rw [sort_two] at HST
  have hlen2 : [itF, itD].length = 2 := rfl
  rw [hlen2] at HST ⊢
  clear hown5 hgrow5 hN5 HB4 HO4 HQ2 HO3 HB3 HX3 e2 hlen2
  go_wp2_with fail
  rw [rounds_succ]
  go_wp2_with fail
  refine HST.out.mono ?_; rintro e w6 ⟨A6, c6, rfl, hN6, hb6⟩
  have HN6 := Lib.hid hN6
  have HB6 := Lib.hid (below_then HB5.out hb6)
  have HSZ := Lib.hid HB5.out.size
  clear hN6 hb6 HST HB5
  go_wp2_with fail
  go_ret2
  refine ⟨A6, c6, rfl, ?_, HB6.out⟩
  rcases HN6.out with h | ⟨g, e, hg, hio⟩
  · exact .inl h
  · exact .inr ⟨g, e, Nat.le_trans HSZ.out hg, hio⟩
end Go.Proofs.YtpkhpaklhfomkaaDoor

namespace Go.Proofs.YtpkhpaklhfomkaaDoor
set_option maxRecDepth 100000
set_option linter.unusedSimpArgs false
set_option linter.unusedVariables false
open Go.RowKit Go.Joins Go.Deep Go.WideMaps
open Go.Lib hiding intOf
theorem chk_d : chkV ⟨#[97]⟩ = (⟨#[97]⟩, false, 0) := by kernel_rfl
theorem chk_f : chkV ⟨#[97, 47, 98]⟩ = (⟨#[97, 47, 98]⟩, false, 0) := by kernel_rfl
theorem sod_d : sodI itD = true := by unfold sodI; rw [show chkV itD.s = _ from chk_d, Lib.toList_data]; rfl
theorem sod_f : sodI itF = true := by unfold sodI; rw [show chkV itF.s = _ from chk_f]; decide
theorem two_cells {w : World} {A : Option Addr} {X Y : Itm} (h : Itms w A [X, Y]) : ∃ b off, A = some ⟨b, off, none⟩ ∧ b < w.heap.size ∧
    (w.cell? ⟨b, off, none⟩ = some (.string X.s) ∧ w.cell? ⟨b, off + 1, none⟩ = some (.int .i64 X.k) ∧ w.cell? ⟨b, off + 2, none⟩ = some (.int .u32 X.m) ∧ w.cell? ⟨b, off + 3, none⟩ = some (.int .u32 X.u) ∧ w.cell? ⟨b, off + 4, none⟩ = some (.int .u32 X.g) ∧ w.cell? ⟨b, off + 5, none⟩ = some (.int .i64 X.t) ∧ w.cell? ⟨b, off + 6, none⟩ = some (.int .i64 X.a) ∧ w.cell? ⟨b, off + 7, none⟩ = some (.string X.d)) ∧
    (w.cell? ⟨b, off + 8, none⟩ = some (.string Y.s) ∧ w.cell? ⟨b, off + 8 + 1, none⟩ = some (.int .i64 Y.k) ∧ w.cell? ⟨b, off + 8 + 2, none⟩ = some (.int .u32 Y.m) ∧ w.cell? ⟨b, off + 8 + 3, none⟩ = some (.int .u32 Y.u) ∧ w.cell? ⟨b, off + 8 + 4, none⟩ = some (.int .u32 Y.g) ∧ w.cell? ⟨b, off + 8 + 5, none⟩ = some (.int .i64 Y.t) ∧ w.cell? ⟨b, off + 8 + 6, none⟩ = some (.int .i64 Y.a) ∧ w.cell? ⟨b, off + 8 + 7, none⟩ = some (.string Y.d)) := by
  obtain ⟨b, off, e, hb, hc⟩ := h (Nat.succ_pos _)
  have h0 := hc 0 X rfl
  have h1 := hc 1 Y rfl
  rw [Nat.zero_mul, Nat.add_zero] at h0
  rw [Nat.one_mul] at h1
  exact ⟨b, off, e, hb, h0, h1⟩
end Go.Proofs.YtpkhpaklhfomkaaDoor

namespace Go.Proofs.YtpkhpaklhfomkaaDoor
set_option maxRecDepth 100000
set_option linter.unusedSimpArgs false
set_option linter.unusedVariables false
open Go.RowKit Go.Joins Go.Deep Go.WideMaps
open Go.Lib hiding intOf
theorem map_below {w w' : World} {R : Value → Option (DataW Unit × List MemPlace)} {b n : Nat} {D : DataW Unit} (h : w.ownsMap Tryd.prog 9 R b n D) (hb : Below w.heap.size w w') : w'.ownsMap Tryd.prog 9 R b n D :=
  h.kept (row := none) ⟨hb.os, hb.tape, hb.output, hb.size, fun i hi _ => hb.block i hi⟩ (by simp)
set_option maxHeartbeats 16000000 in
theorem tright_two (A : Option Addr) (c : Nat) (w : World) (hT : Itms w A [itD, itF]) (hE : Env w) : Calls Tryd.prog 13 #[.slice A 2 c] w fun e w' => e = .returned (.bool true) ∧ Below w.heap.size w w' := by
  have hmm := @run_makeMap Tryd.prog
  have hir := info_item
  have hzu := zero_unitP
  have HM := Lib.hid (World.ownsMap_made (H := Unit) w Tryd.prog 9 unitElem)
  have HP1 := Lib.hid (fun w => parent_any ⟨#[97, 47, 98]⟩ w (by decide))
  have HP2 := Lib.hid (fun w => parent_any ⟨#[97]⟩ w (by decide))
  rw [par_ab] at HP1
  rw [par_a] at HP2
  have HB3 := Lib.hid (below_al w (.map #[] 0))
  have HT := Lib.hid hT
  have HE := Lib.hid hE
  clear hT hE
  go_enter Tryd.func13, Tryd.ntmps13
  go_upto_region 2 with (first | (refine wpList_insert_own _ rfl _ _ _ 52 rfl 9 51 keyS Tryd.underlying52 unitElem w.heap.size 0 _ rfl HM.out (by unfold maxLen; omega) _ _ _ rfl rfl keyE (.agg []) [] unitElem_mk ?_; intro w4 hown4 hgrow4))
  have HM4 := Lib.hid hown4
  have HB4 := Lib.hid (HB3.out.grown hgrow4 HB3.out.size (fun k hk => by injection hk with hk; subst hk; exact Nat.le_refl _))
  clear hown4 hgrow4 HM HB3
  go_wp2_with fail
  refine wp_loop_rounds 3 ?_
  rw [rounds_succ]
  obtain ⟨b, off, rfl, hb, ⟨c0, c1, c2, c3, c4, c5, c6, c7⟩, ⟨f0, f1, f2, f3, f4, f5, f6, f7⟩⟩ := two_cells (HT.out.below HB4.out)
  dsimp only [itD, itF] at c0 c1 c2 c3 c4 c5 c6 c7 f0 f1 f2 f3 f4 f5 f6 f7
  obtain ⟨w5, hw5⟩ : ∃ w5, w5 = w4.alloc (.cells #[.string ⟨#[97]⟩, .int .i64 1, .int .u32 0, .int .u32 0, .int .u32 0, .int .i64 0, .int .i64 0, .string ⟨#[]⟩] 38) := ⟨_, rfl⟩
  have h45 : Below w4.heap.size w4 w5 := by rw [hw5]; exact below_al w4 _
  have HM5 := Lib.hid (HM4.out.alloc (.cells #[.string ⟨#[97]⟩, .int .i64 1, .int .u32 0, .int .u32 0, .int .u32 0, .int .i64 0, .int .i64 0, .string ⟨#[]⟩] 38))
  rw [← hw5] at HM5
  have HB5 := Lib.hid (below_then HB4.out h45)
  have HX5 : Hid (w5.heap[w4.heap.size]? = some (.cells #[.string ⟨#[97]⟩, .int .i64 1, .int .u32 0, .int .u32 0, .int .u32 0, .int .i64 0, .int .i64 0, .string ⟨#[]⟩] 38 (0, 0))) := by show _ = _; rw [hw5]; exact heap_alloc_new w4 _
  have HW5 := Lib.hid hw5
  have HFF : Hid (w4.cell? ⟨b, off + 8, none⟩ = some (.string ⟨#[97, 47, 98]⟩)) := f0
  have HBK := Lib.hid h45
  have hbo := hb
  clear h45 hw5 HM4 HB4
  go_upto_region 5 with fail
  rw [← HW5.out]
  generalize hgi : w4.heap.size = gi at *
  have hb : b < w5.heap.size := by have := HBK.out.size; omega
  have c0 : w5.cell? ⟨b, off, none⟩ = some (.string ⟨#[97]⟩) := (HBK.out.cell hbo).trans c0
  clear HW5 c1 c2 c3 c4 c5 c6 c7 f0 f1 f2 f3 f4 f5 f6 f7 HFF
  have HSD := Lib.hid (fun w1 (hE1 : Env w1) => sound_any itD w1 (by decide) hE1)
  rw [sod_d] at HSD
  simp only [Itm.cells, itD] at HSD
  have HSF := Lib.hid (fun w1 (hE1 : Env w1) => sound_any itF w1 (by decide) hE1)
  rw [sod_f] at HSF
  simp only [Itm.cells, itF] at HSF
  have hov : ordT ⟨#[97]⟩ ⟨#[97, 47, 98]⟩ = -1 := by decide
  have HORD : Hid (∀ w1, Calls Tryd.prog 18 #[.string ⟨#[97]⟩, .string ⟨#[97, 47, 98]⟩] w1 fun e w' => e = .returned (.int .i64 (-1)) ∧ Below w1.heap.size w1 w') := fun w1 => (order_any ⟨#[97]⟩ ⟨#[97, 47, 98]⟩ w1 (by decide)).mono (by
    rintro e w' ⟨rfl, d, rfl⟩
    exact ⟨by rw [hov], below_drewN (Below.refl _ _) d⟩)
  clear hov
  have hS0 : (fun ww => Below w.heap.size w ww ∧ Env ww ∧ ww.heap[gi]? = some (.cells #[.string ⟨#[97]⟩, .int .i64 1, .int .u32 0, .int .u32 0, .int .u32 0, .int .i64 0, .int .i64 0, .string ⟨#[]⟩] 38 (0, 0)) ∧ ww.cell? ⟨b, off, none⟩ = some (.string ⟨#[97]⟩) ∧ (b < ww.heap.size) ∧ ww.ownsMap Tryd.prog 9 (unitElem (H := Unit)) w.heap.size 1 ((DataW.map [] : DataW Unit).put (.string []) (.agg []))) w5.drew := ⟨HB5.out.drew, HE.out.below HB5.out.drew, HX5.out, c0, hb, HM5.out⟩
  refine wp_region_held_drew (S := fun ww => Below w.heap.size w ww ∧ Env ww ∧ ww.heap[gi]? = some (.cells #[.string ⟨#[97]⟩, .int .i64 1, .int .u32 0, .int .u32 0, .int .u32 0, .int .i64 0, .int .i64 0, .string ⟨#[]⟩] 38 (0, 0)) ∧ ww.cell? ⟨b, off, none⟩ = some (.string ⟨#[97]⟩) ∧ (b < ww.heap.size) ∧ ww.ownsMap Tryd.prog 9 (unitElem (H := Unit)) w.heap.size 1 ((DataW.map [] : DataW Unit).put (.string []) (.agg []))) (by kernel_rfl) hS0 (fun hSA => ?_)
  clear hS0
  generalize w5.drew = q0 at *
  refine wpAnyH_take (i := 0) (v := .agg #[.string ⟨#[97]⟩, .int .i64 1, .int .u32 0, .int .u32 0, .int .u32 0, .int .i64 0, .int .i64 0, .string ⟨#[]⟩]) rfl (by kernel_rfl) (by kernel_rfl) (by kernel_rfl) (fun _ _ _ h => h) (Or.inl ⟨by kernel_rfl, ?_⟩) (by assumption) ?_
  · intro ww hSw
    have hc0 : ww.cell? ⟨gi, 0, none⟩ = some (.string ⟨#[97]⟩) := by rw [Lib.cell_of_heap hSw.2.2.1]; rfl
    have hc1 : ww.cell? ⟨gi, 1, none⟩ = some (.int .i64 1) := by rw [Lib.cell_of_heap hSw.2.2.1]; rfl
    have hc2 : ww.cell? ⟨gi, 2, none⟩ = some (.int .u32 0) := by rw [Lib.cell_of_heap hSw.2.2.1]; rfl
    have hc3 : ww.cell? ⟨gi, 3, none⟩ = some (.int .u32 0) := by rw [Lib.cell_of_heap hSw.2.2.1]; rfl
    have hc4 : ww.cell? ⟨gi, 4, none⟩ = some (.int .u32 0) := by rw [Lib.cell_of_heap hSw.2.2.1]; rfl
    have hc5 : ww.cell? ⟨gi, 5, none⟩ = some (.int .i64 0) := by rw [Lib.cell_of_heap hSw.2.2.1]; rfl
    have hc6 : ww.cell? ⟨gi, 6, none⟩ = some (.int .i64 0) := by rw [Lib.cell_of_heap hSw.2.2.1]; rfl
    have hc7 : ww.cell? ⟨gi, 7, none⟩ = some (.string ⟨#[]⟩) := by rw [Lib.cell_of_heap hSw.2.2.1]; rfl
    clear hSw
    go_simp
    all_goals (try omega)
    all_goals (try assumption)
    all_goals (try rfl)
  try simp only [Act.put, List.setIfInBounds_toArray, List.set_cons_zero, List.set_cons_succ, List.getElem_toArray, List.getElem_cons_succ, List.getElem_cons_zero]
  refine wpAnyH_ready (rs := [1]) (by kernel_rfl) (by simp) ?_
  refine AllReadyH.cons rfl (fun K hK => ?_) AllReadyH.nil
  go_simp
  refine (HSD.out _ hSA.2.1).mono ?_
  rintro e q1 ⟨rfl, hbq1⟩
  have hSq1 : (fun ww => Below w.heap.size w ww ∧ Env ww ∧ ww.heap[gi]? = some (.cells #[.string ⟨#[97]⟩, .int .i64 1, .int .u32 0, .int .u32 0, .int .u32 0, .int .i64 0, .int .i64 0, .string ⟨#[]⟩] 38 (0, 0)) ∧ ww.cell? ⟨b, off, none⟩ = some (.string ⟨#[97]⟩) ∧ (b < ww.heap.size) ∧ ww.ownsMap Tryd.prog 9 (unitElem (H := Unit)) w.heap.size 1 ((DataW.map [] : DataW Unit).put (.string []) (.agg []))) q1 := ⟨below_then hSA.1 hbq1, hSA.2.1.below hbq1, (hbq1.block _ (lt_of_block hSA.2.2.1)).trans hSA.2.2.1, (hbq1.cell hSA.2.2.2.2.1).trans hSA.2.2.2.1, Nat.lt_of_lt_of_le hSA.2.2.2.2.1 hbq1.size, map_below hSA.2.2.2.2.2 hbq1⟩
  refine hK.out _ _ hSq1 (fun hTq1 => ?_)
  clear hK K
  try simp only [Act.put, List.setIfInBounds_toArray, List.set_cons_zero, List.set_cons_succ, List.getElem_toArray, List.getElem_cons_succ, List.getElem_cons_zero]
  refine wpAnyH_take (i := 2) (v := .bool false) rfl (by kernel_rfl) (by kernel_rfl) (by kernel_rfl) (fun _ _ _ h => h) (Or.inl ⟨by kernel_rfl, ?_⟩) (by assumption) ?_
  · intro ww hSw
    clear hSw
    go_simp
    all_goals (try omega)
    all_goals (try assumption)
    all_goals (try rfl)
  try simp only [Act.put, List.setIfInBounds_toArray, List.set_cons_zero, List.set_cons_succ, List.getElem_toArray, List.getElem_cons_succ, List.getElem_cons_zero]
  refine wpAnyH_take (i := 3) (v := .bool false) rfl (by kernel_rfl) (by kernel_rfl) (by kernel_rfl) (fun _ _ _ h => h) (Or.inl ⟨by kernel_rfl, ?_⟩) (by assumption) ?_
  · intro ww hSw
    clear hSw
    go_simp
    all_goals (try omega)
    all_goals (try assumption)
    all_goals (try rfl)
  try simp only [Act.put, List.setIfInBounds_toArray, List.set_cons_zero, List.set_cons_succ, List.getElem_toArray, List.getElem_cons_succ, List.getElem_cons_zero]
  refine wpAnyH_take (i := 4) (v := .int .i64 0) rfl (by kernel_rfl) (by kernel_rfl) (by kernel_rfl) (fun _ _ _ h => h) (Or.inl ⟨by kernel_rfl, ?_⟩) (by assumption) ?_
  · intro ww hSw
    clear hSw
    go_simp
    all_goals (try omega)
    all_goals (try assumption)
    all_goals (try rfl)
  try simp only [Act.put, List.setIfInBounds_toArray, List.set_cons_zero, List.set_cons_succ, List.getElem_toArray, List.getElem_cons_succ, List.getElem_cons_zero]
  refine wpAnyH_take (i := 5) (v := .bool false) rfl (by kernel_rfl) (by kernel_rfl) (by kernel_rfl) (fun _ _ _ h => h) (Or.inl ⟨by kernel_rfl, ?_⟩) (by assumption) ?_
  · intro ww hSw
    clear hSw
    go_simp
    all_goals (try omega)
    all_goals (try assumption)
    all_goals (try rfl)
  try simp only [Act.put, List.setIfInBounds_toArray, List.set_cons_zero, List.set_cons_succ, List.getElem_toArray, List.getElem_cons_succ, List.getElem_cons_zero]
  refine wpAnyH_take (i := 6) (v := .bool false) rfl (by kernel_rfl) (by kernel_rfl) (by kernel_rfl) (fun _ _ _ h => h) (Or.inl ⟨by kernel_rfl, ?_⟩) (by assumption) ?_
  · intro ww hSw
    clear hSw
    go_simp
    all_goals (try omega)
    all_goals (try assumption)
    all_goals (try rfl)
  try simp only [Act.put, List.setIfInBounds_toArray, List.set_cons_zero, List.set_cons_succ, List.getElem_toArray, List.getElem_cons_succ, List.getElem_cons_zero]
  refine wpAnyH_take (i := 7) (v := undef) rfl (by kernel_rfl) (by kernel_rfl) (by kernel_rfl) (fun _ _ _ h => h) (Or.inr ⟨by kernel_rfl, rfl⟩) (by assumption) ?_
  try simp only [Act.put, List.setIfInBounds_toArray, List.set_cons_zero, List.set_cons_succ, List.getElem_toArray, List.getElem_cons_succ, List.getElem_cons_zero]
  refine wpAnyH_take (i := 8) (v := undef) rfl (by kernel_rfl) (by kernel_rfl) (by kernel_rfl) (fun _ _ _ h => h) (Or.inr ⟨by kernel_rfl, rfl⟩) (by assumption) ?_
  try simp only [Act.put, List.setIfInBounds_toArray, List.set_cons_zero, List.set_cons_succ, List.getElem_toArray, List.getElem_cons_succ, List.getElem_cons_zero]
  refine wpAnyH_take (i := 9) (v := undef) rfl (by kernel_rfl) (by kernel_rfl) (by kernel_rfl) (fun _ _ _ h => h) (Or.inr ⟨by kernel_rfl, rfl⟩) (by assumption) ?_
  try simp only [Act.put, List.setIfInBounds_toArray, List.set_cons_zero, List.set_cons_succ, List.getElem_toArray, List.getElem_cons_succ, List.getElem_cons_zero]
  refine wpAnyH_take (i := 10) (v := undef) rfl (by kernel_rfl) (by kernel_rfl) (by kernel_rfl) (fun _ _ _ h => h) (Or.inr ⟨by kernel_rfl, rfl⟩) (by assumption) ?_
  try simp only [Act.put, List.setIfInBounds_toArray, List.set_cons_zero, List.set_cons_succ, List.getElem_toArray, List.getElem_cons_succ, List.getElem_cons_zero]
  refine wpAnyH_take (i := 11) (v := undef) rfl (by kernel_rfl) (by kernel_rfl) (by kernel_rfl) (fun _ _ _ h => h) (Or.inr ⟨by kernel_rfl, rfl⟩) (by assumption) ?_
  try simp only [Act.put, List.setIfInBounds_toArray, List.set_cons_zero, List.set_cons_succ, List.getElem_toArray, List.getElem_cons_succ, List.getElem_cons_zero]
  refine wpAnyH_take (i := 12) (v := undef) rfl (by kernel_rfl) (by kernel_rfl) (by kernel_rfl) (fun _ _ _ h => h) (Or.inr ⟨by kernel_rfl, rfl⟩) (by assumption) ?_
  try simp only [Act.put, List.setIfInBounds_toArray, List.set_cons_zero, List.set_cons_succ, List.getElem_toArray, List.getElem_cons_succ, List.getElem_cons_zero]
  refine wpAnyH_take (i := 13) (v := undef) rfl (by kernel_rfl) (by kernel_rfl) (by kernel_rfl) (fun _ _ _ h => h) (Or.inr ⟨by kernel_rfl, rfl⟩) (by assumption) ?_
  try simp only [Act.put, List.setIfInBounds_toArray, List.set_cons_zero, List.set_cons_succ, List.getElem_toArray, List.getElem_cons_succ, List.getElem_cons_zero]
  refine wpAnyH_take (i := 14) (v := undef) rfl (by kernel_rfl) (by kernel_rfl) (by kernel_rfl) (fun _ _ _ h => h) (Or.inr ⟨by kernel_rfl, rfl⟩) (by assumption) ?_
  try simp only [Act.put, List.setIfInBounds_toArray, List.set_cons_zero, List.set_cons_succ, List.getElem_toArray, List.getElem_cons_succ, List.getElem_cons_zero]
  refine wpAnyH_take (i := 15) (v := undef) rfl (by kernel_rfl) (by kernel_rfl) (by kernel_rfl) (fun _ _ _ h => h) (Or.inr ⟨by kernel_rfl, rfl⟩) (by assumption) ?_
  try simp only [Act.put, List.setIfInBounds_toArray, List.set_cons_zero, List.set_cons_succ, List.getElem_toArray, List.getElem_cons_succ, List.getElem_cons_zero]
  refine wpAnyH_take (i := 16) (v := undef) rfl (by kernel_rfl) (by kernel_rfl) (by kernel_rfl) (fun _ _ _ h => h) (Or.inr ⟨by kernel_rfl, rfl⟩) (by assumption) ?_
  try simp only [Act.put, List.setIfInBounds_toArray, List.set_cons_zero, List.set_cons_succ, List.getElem_toArray, List.getElem_cons_succ, List.getElem_cons_zero]
  refine wpAnyH_take (i := 17) (v := .bool false) rfl (by kernel_rfl) (by kernel_rfl) (by kernel_rfl) (fun _ _ _ h => h) (Or.inl ⟨by kernel_rfl, ?_⟩) (by assumption) ?_
  · intro ww hSw
    clear hSw
    go_simp
    all_goals (try omega)
    all_goals (try assumption)
    all_goals (try rfl)
  try simp only [Act.put, List.setIfInBounds_toArray, List.set_cons_zero, List.set_cons_succ, List.getElem_toArray, List.getElem_cons_succ, List.getElem_cons_zero]
  refine wpAnyH_take (i := 18) (v := .bool false) rfl (by kernel_rfl) (by kernel_rfl) (by kernel_rfl) (fun _ _ _ h => h) (Or.inl ⟨by kernel_rfl, ?_⟩) (by assumption) ?_
  · intro ww hSw
    clear hSw
    go_simp
    all_goals (try omega)
    all_goals (try assumption)
    all_goals (try rfl)
  try simp only [Act.put, List.setIfInBounds_toArray, List.set_cons_zero, List.set_cons_succ, List.getElem_toArray, List.getElem_cons_succ, List.getElem_cons_zero]
  have HBQ := Lib.hid hSq1.1
  have HXQ := Lib.hid hSq1.2.2.1
  have HMQ := Lib.hid hSq1.2.2.2.2.2
  refine wpAnyH_done (by kernel_rfl) ?_ _
  generalize q1 = Q1 at *
  have z0 := (cell_of_row _ _ 0 _ _ _ HXQ.out).trans (show _ = some (Value.string ⟨#[97]⟩) from rfl)
  go_wp2_with fail
  refine (HP2.out _).mono ?_; rintro e wx ⟨rfl, hww⟩; rw [hww]; clear hww wx
  have hha : Maps.has ((DataW.map [] : DataW Unit).put (.string []) (.agg [])) (.string []) = true := rfl
  obtain ⟨Q2, hQ2⟩ : ∃ Q2, Q2 = Q1.alloc (.cells #[] 51) := ⟨_, rfl⟩
  have h12 : Below Q1.heap.size Q1 Q2 := by rw [hQ2]; exact below_al Q1 _
  have HM6 := Lib.hid (map_below HMQ.out h12)
  have HB6 := Lib.hid (below_then HBQ.out h12)
  have HX6 := Lib.hid ((h12.block _ (lt_of_block HXQ.out)).trans HXQ.out)
  have HQ2 := Lib.hid hQ2
  clear h12 hQ2
  go_upto_region 8 with (at_lookup; refine wpList_lookup_own_unit _ rfl _ _ 52 rfl 9 51 keyS Tryd.underlying52 (zero_unitP _) w.heap.size 1 _ rfl HMQ.out _ _ rfl keyE ?_; rw [hha])
  rw [← HQ2.out]
  clear HQ2 HMQ HBQ HXQ z0 hha
  have z0 := (cell_of_row _ _ 0 _ _ _ HX6.out).trans (show _ = some (Value.string ⟨#[97]⟩) from rfl)
  have z1 := (cell_of_row _ _ 1 _ _ _ HX6.out).trans (show _ = some (Value.int .i64 1) from rfl)
  go_wp2_with (at_mapUpdate; refine wpList_mapUpdate_own _ rfl _ _ _ 52 rfl 9 51 keyS Tryd.underlying52 _ w.heap.size 1 _ rfl HM6.out (by unfold maxLen; omega) _ _ _ rfl rfl keyA (.agg []) [] unitElem_mk ?_; intro w7 hown7 hgrow7)
  have HM4 := Lib.hid hown7
  have HB4 := Lib.hid (HB6.out.grown hgrow7 HB6.out.size (fun k hk => by injection hk with hk; subst hk; exact Nat.le_refl _))
  clear hown7 hgrow7 HM6 HB6 HX6 z0 z1 hb hgi HBK hbo HB5 HX5 HM5
  rw [rounds_succ]
  obtain ⟨b, off, heb, hb, ⟨c0, c1, c2, c3, c4, c5, c6, c7⟩, ⟨f0, f1, f2, f3, f4, f5, f6, f7⟩⟩ := two_cells (HT.out.below HB4.out)
  injection heb with heb
  injection heb with heb1 heb2 _
  subst heb1 heb2
  dsimp only [itD, itF] at c0 c1 c2 c3 c4 c5 c6 c7 f0 f1 f2 f3 f4 f5 f6 f7
  obtain ⟨w9, hw5⟩ : ∃ w9, w9 = w7.alloc (.cells #[.string ⟨#[97, 47, 98]⟩, .int .i64 2, .int .u32 0, .int .u32 0, .int .u32 0, .int .i64 0, .int .i64 0, .string ⟨#[]⟩] 38) := ⟨_, rfl⟩
  have h45 : Below w7.heap.size w7 w9 := by rw [hw5]; exact below_al w7 _
  have HM5 := Lib.hid (HM4.out.alloc (.cells #[.string ⟨#[97, 47, 98]⟩, .int .i64 2, .int .u32 0, .int .u32 0, .int .u32 0, .int .i64 0, .int .i64 0, .string ⟨#[]⟩] 38))
  rw [← hw5] at HM5
  have HB5 := Lib.hid (below_then HB4.out h45)
  have HX5 : Hid (w9.heap[w7.heap.size]? = some (.cells #[.string ⟨#[97, 47, 98]⟩, .int .i64 2, .int .u32 0, .int .u32 0, .int .u32 0, .int .i64 0, .int .i64 0, .string ⟨#[]⟩] 38 (0, 0))) := by show _ = _; rw [hw5]; exact heap_alloc_new w7 _
  have HW5 := Lib.hid hw5
  have HBK := Lib.hid h45
  have hbo := hb
  clear h45 hw5 HM4 HB4
  go_upto_region 5 with fail
  rw [← HW5.out]
  generalize hgi : w7.heap.size = gj at *
  have hb : b < w9.heap.size := by have := HBK.out.size; omega
  have c0 : w9.cell? ⟨b, off, none⟩ = some (.string ⟨#[97]⟩) := (HBK.out.cell hbo).trans c0
  clear HW5 c1 c2 c3 c4 c5 c6 c7 f0 f1 f2 f3 f4 f5 f6 f7 
  have hS0 : (fun ww => Below w.heap.size w ww ∧ Env ww ∧ ww.heap[gj]? = some (.cells #[.string ⟨#[97, 47, 98]⟩, .int .i64 2, .int .u32 0, .int .u32 0, .int .u32 0, .int .i64 0, .int .i64 0, .string ⟨#[]⟩] 38 (0, 0)) ∧ ww.cell? ⟨b, off, none⟩ = some (.string ⟨#[97]⟩) ∧ (b < ww.heap.size) ∧ ww.ownsMap Tryd.prog 9 (unitElem (H := Unit)) w.heap.size 2 (((DataW.map [] : DataW Unit).put (.string []) (.agg [])).put (.string [97]) (.agg []))) w9.drew := ⟨HB5.out.drew, HE.out.below HB5.out.drew, HX5.out, c0, hb, HM5.out⟩
  refine wp_region_held_drew (S := fun ww => Below w.heap.size w ww ∧ Env ww ∧ ww.heap[gj]? = some (.cells #[.string ⟨#[97, 47, 98]⟩, .int .i64 2, .int .u32 0, .int .u32 0, .int .u32 0, .int .i64 0, .int .i64 0, .string ⟨#[]⟩] 38 (0, 0)) ∧ ww.cell? ⟨b, off, none⟩ = some (.string ⟨#[97]⟩) ∧ (b < ww.heap.size) ∧ ww.ownsMap Tryd.prog 9 (unitElem (H := Unit)) w.heap.size 2 (((DataW.map [] : DataW Unit).put (.string []) (.agg [])).put (.string [97]) (.agg []))) (by kernel_rfl) hS0 (fun hSA => ?_)
  clear hS0
  generalize w9.drew = q0 at *
  refine wpAnyH_take (i := 0) (v := .agg #[.string ⟨#[97, 47, 98]⟩, .int .i64 2, .int .u32 0, .int .u32 0, .int .u32 0, .int .i64 0, .int .i64 0, .string ⟨#[]⟩]) rfl (by kernel_rfl) (by kernel_rfl) (by kernel_rfl) (fun _ _ _ h => h) (Or.inl ⟨by kernel_rfl, ?_⟩) (by assumption) ?_
  · intro ww hSw
    have hc0 : ww.cell? ⟨gj, 0, none⟩ = some (.string ⟨#[97, 47, 98]⟩) := by rw [Lib.cell_of_heap hSw.2.2.1]; rfl
    have hc1 : ww.cell? ⟨gj, 1, none⟩ = some (.int .i64 2) := by rw [Lib.cell_of_heap hSw.2.2.1]; rfl
    have hc2 : ww.cell? ⟨gj, 2, none⟩ = some (.int .u32 0) := by rw [Lib.cell_of_heap hSw.2.2.1]; rfl
    have hc3 : ww.cell? ⟨gj, 3, none⟩ = some (.int .u32 0) := by rw [Lib.cell_of_heap hSw.2.2.1]; rfl
    have hc4 : ww.cell? ⟨gj, 4, none⟩ = some (.int .u32 0) := by rw [Lib.cell_of_heap hSw.2.2.1]; rfl
    have hc5 : ww.cell? ⟨gj, 5, none⟩ = some (.int .i64 0) := by rw [Lib.cell_of_heap hSw.2.2.1]; rfl
    have hc6 : ww.cell? ⟨gj, 6, none⟩ = some (.int .i64 0) := by rw [Lib.cell_of_heap hSw.2.2.1]; rfl
    have hc7 : ww.cell? ⟨gj, 7, none⟩ = some (.string ⟨#[]⟩) := by rw [Lib.cell_of_heap hSw.2.2.1]; rfl
    clear hSw
    go_simp
    all_goals (try omega)
    all_goals (try assumption)
    all_goals (try rfl)
  try simp only [Act.put, List.setIfInBounds_toArray, List.set_cons_zero, List.set_cons_succ, List.getElem_toArray, List.getElem_cons_succ, List.getElem_cons_zero]
  refine wpAnyH_ready (rs := [1]) (by kernel_rfl) (by simp) ?_
  refine AllReadyH.cons rfl (fun K hK => ?_) AllReadyH.nil
  go_simp
  refine (HSF.out _ hSA.2.1).mono ?_
  rintro e q1 ⟨rfl, hbq1⟩
  have hSq1 : (fun ww => Below w.heap.size w ww ∧ Env ww ∧ ww.heap[gj]? = some (.cells #[.string ⟨#[97, 47, 98]⟩, .int .i64 2, .int .u32 0, .int .u32 0, .int .u32 0, .int .i64 0, .int .i64 0, .string ⟨#[]⟩] 38 (0, 0)) ∧ ww.cell? ⟨b, off, none⟩ = some (.string ⟨#[97]⟩) ∧ (b < ww.heap.size) ∧ ww.ownsMap Tryd.prog 9 (unitElem (H := Unit)) w.heap.size 2 (((DataW.map [] : DataW Unit).put (.string []) (.agg [])).put (.string [97]) (.agg []))) q1 := ⟨below_then hSA.1 hbq1, hSA.2.1.below hbq1, (hbq1.block _ (lt_of_block hSA.2.2.1)).trans hSA.2.2.1, (hbq1.cell hSA.2.2.2.2.1).trans hSA.2.2.2.1, Nat.lt_of_lt_of_le hSA.2.2.2.2.1 hbq1.size, map_below hSA.2.2.2.2.2 hbq1⟩
  refine hK.out _ _ hSq1 (fun hTq1 => ?_)
  clear hK K
  try simp only [Act.put, List.setIfInBounds_toArray, List.set_cons_zero, List.set_cons_succ, List.getElem_toArray, List.getElem_cons_succ, List.getElem_cons_zero]
  refine wpAnyH_take (i := 2) (v := .bool false) rfl (by kernel_rfl) (by kernel_rfl) (by kernel_rfl) (fun _ _ _ h => h) (Or.inl ⟨by kernel_rfl, ?_⟩) (by assumption) ?_
  · intro ww hSw
    clear hSw
    go_simp
    all_goals (try omega)
    all_goals (try assumption)
    all_goals (try rfl)
  try simp only [Act.put, List.setIfInBounds_toArray, List.set_cons_zero, List.set_cons_succ, List.getElem_toArray, List.getElem_cons_succ, List.getElem_cons_zero]
  refine wpAnyH_take (i := 3) (v := .bool false) rfl (by kernel_rfl) (by kernel_rfl) (by kernel_rfl) (fun _ _ _ h => h) (Or.inl ⟨by kernel_rfl, ?_⟩) (by assumption) ?_
  · intro ww hSw
    clear hSw
    go_simp
    all_goals (try omega)
    all_goals (try assumption)
    all_goals (try rfl)
  try simp only [Act.put, List.setIfInBounds_toArray, List.set_cons_zero, List.set_cons_succ, List.getElem_toArray, List.getElem_cons_succ, List.getElem_cons_zero]
  refine wpAnyH_take (i := 4) (v := .int .i64 1) rfl (by kernel_rfl) (by kernel_rfl) (by kernel_rfl) (fun _ _ _ h => h) (Or.inl ⟨by kernel_rfl, ?_⟩) (by assumption) ?_
  · intro ww hSw
    clear hSw
    go_simp
    all_goals (try omega)
    all_goals (try assumption)
    all_goals (try rfl)
  try simp only [Act.put, List.setIfInBounds_toArray, List.set_cons_zero, List.set_cons_succ, List.getElem_toArray, List.getElem_cons_succ, List.getElem_cons_zero]
  refine wpAnyH_take (i := 5) (v := .bool true) rfl (by kernel_rfl) (by kernel_rfl) (by kernel_rfl) (fun _ _ _ h => h) (Or.inl ⟨by kernel_rfl, ?_⟩) (by assumption) ?_
  · intro ww hSw
    clear hSw
    go_simp
    all_goals (try omega)
    all_goals (try assumption)
    all_goals (try rfl)
  try simp only [Act.put, List.setIfInBounds_toArray, List.set_cons_zero, List.set_cons_succ, List.getElem_toArray, List.getElem_cons_succ, List.getElem_cons_zero]
  refine wpAnyH_take (i := 6) (v := .bool true) rfl (by kernel_rfl) (by kernel_rfl) (by kernel_rfl) (fun _ _ _ h => h) (Or.inl ⟨by kernel_rfl, ?_⟩) (by assumption) ?_
  · intro ww hSw
    clear hSw
    go_simp
    all_goals (try omega)
    all_goals (try assumption)
    all_goals (try rfl)
  try simp only [Act.put, List.setIfInBounds_toArray, List.set_cons_zero, List.set_cons_succ, List.getElem_toArray, List.getElem_cons_succ, List.getElem_cons_zero]
  refine wpAnyH_take (i := 7) (v := .slice (some ⟨b, off, none⟩) 2 c) rfl (by kernel_rfl) (by kernel_rfl) (by kernel_rfl) (fun _ _ _ h => h) (Or.inl ⟨by kernel_rfl, ?_⟩) (by assumption) ?_
  · intro ww hSw
    clear hSw
    go_simp
    all_goals (try omega)
    all_goals (try assumption)
    all_goals (try rfl)
  try simp only [Act.put, List.setIfInBounds_toArray, List.set_cons_zero, List.set_cons_succ, List.getElem_toArray, List.getElem_cons_succ, List.getElem_cons_zero]
  refine wpAnyH_take (i := 8) (v := .int .i64 1) rfl (by kernel_rfl) (by kernel_rfl) (by kernel_rfl) (fun _ _ _ h => h) (Or.inl ⟨by kernel_rfl, ?_⟩) (by assumption) ?_
  · intro ww hSw
    clear hSw
    go_simp
    all_goals (try omega)
    all_goals (try assumption)
    all_goals (try rfl)
  try simp only [Act.put, List.setIfInBounds_toArray, List.set_cons_zero, List.set_cons_succ, List.getElem_toArray, List.getElem_cons_succ, List.getElem_cons_zero]
  refine wpAnyH_take (i := 9) (v := .int .i64 0) rfl (by kernel_rfl) (by kernel_rfl) (by kernel_rfl) (fun _ _ _ h => h) (Or.inl ⟨by kernel_rfl, ?_⟩) (by assumption) ?_
  · intro ww hSw
    clear hSw
    go_simp
    all_goals (try omega)
    all_goals (try assumption)
    all_goals (try rfl)
  try simp only [Act.put, List.setIfInBounds_toArray, List.set_cons_zero, List.set_cons_succ, List.getElem_toArray, List.getElem_cons_succ, List.getElem_cons_zero]
  refine wpAnyH_take (i := 10) (v := .pointer (some ⟨b, off, none⟩)) rfl (by kernel_rfl) (by kernel_rfl) (by kernel_rfl) (fun _ _ _ h => h) (Or.inl ⟨by kernel_rfl, ?_⟩) (by assumption) ?_
  · intro ww hSw
    clear hSw
    go_simp
    all_goals (try omega)
    all_goals (try assumption)
    all_goals (try rfl)
  try simp only [Act.put, List.setIfInBounds_toArray, List.set_cons_zero, List.set_cons_succ, List.getElem_toArray, List.getElem_cons_succ, List.getElem_cons_zero]
  refine wpAnyH_take (i := 11) (v := .pointer (some ⟨b, off, none⟩)) rfl (by kernel_rfl) (by kernel_rfl) (by kernel_rfl) (fun _ _ _ h => h) (Or.inl ⟨by kernel_rfl, ?_⟩) (by assumption) ?_
  · intro ww hSw
    clear hSw
    go_simp
    all_goals (try omega)
    all_goals (try assumption)
    all_goals (try rfl)
  try simp only [Act.put, List.setIfInBounds_toArray, List.set_cons_zero, List.set_cons_succ, List.getElem_toArray, List.getElem_cons_succ, List.getElem_cons_zero]
  refine wpAnyH_take (i := 12) (v := .string ⟨#[97]⟩) rfl (by kernel_rfl) (by kernel_rfl) (by kernel_rfl) (fun _ _ _ h => h) (Or.inl ⟨by kernel_rfl, ?_⟩) (by assumption) ?_
  · intro ww hSw
    have hcc := hSw.2.2.2.1
    clear hSw
    go_simp
    all_goals (try omega)
    all_goals (try assumption)
    all_goals (try rfl)
  try simp only [Act.put, List.setIfInBounds_toArray, List.set_cons_zero, List.set_cons_succ, List.getElem_toArray, List.getElem_cons_succ, List.getElem_cons_zero]
  refine wpAnyH_take (i := 13) (v := .pointer (some ⟨gj, 0, none⟩)) rfl (by kernel_rfl) (by kernel_rfl) (by kernel_rfl) (fun _ _ _ h => h) (Or.inl ⟨by kernel_rfl, ?_⟩) (by assumption) ?_
  · intro ww hSw
    clear hSw
    go_simp
    all_goals (try omega)
    all_goals (try assumption)
    all_goals (try rfl)
  try simp only [Act.put, List.setIfInBounds_toArray, List.set_cons_zero, List.set_cons_succ, List.getElem_toArray, List.getElem_cons_succ, List.getElem_cons_zero]
  refine wpAnyH_take (i := 14) (v := .string ⟨#[97, 47, 98]⟩) rfl (by kernel_rfl) (by kernel_rfl) (by kernel_rfl) (fun _ _ _ h => h) (Or.inl ⟨by kernel_rfl, ?_⟩) (by assumption) ?_
  · intro ww hSw
    have hc0 : ww.cell? ⟨gj, 0, none⟩ = some (.string ⟨#[97, 47, 98]⟩) := by rw [Lib.cell_of_heap hSw.2.2.1]; rfl
    clear hSw
    go_simp
    all_goals (try omega)
    all_goals (try assumption)
    all_goals (try rfl)
  try simp only [Act.put, List.setIfInBounds_toArray, List.set_cons_zero, List.set_cons_succ, List.getElem_toArray, List.getElem_cons_succ, List.getElem_cons_zero]
  refine wpAnyH_ready (rs := [15]) (by kernel_rfl) (by simp) ?_
  refine AllReadyH.cons rfl (fun K hK => ?_) AllReadyH.nil
  go_simp
  refine (HORD.out _).mono ?_
  rintro e q2 ⟨rfl, hbq2⟩
  have hSq2 : (fun ww => Below w.heap.size w ww ∧ Env ww ∧ ww.heap[gj]? = some (.cells #[.string ⟨#[97, 47, 98]⟩, .int .i64 2, .int .u32 0, .int .u32 0, .int .u32 0, .int .i64 0, .int .i64 0, .string ⟨#[]⟩] 38 (0, 0)) ∧ ww.cell? ⟨b, off, none⟩ = some (.string ⟨#[97]⟩) ∧ (b < ww.heap.size) ∧ ww.ownsMap Tryd.prog 9 (unitElem (H := Unit)) w.heap.size 2 (((DataW.map [] : DataW Unit).put (.string []) (.agg [])).put (.string [97]) (.agg []))) q2 := ⟨below_then hSq1.1 hbq2, hSq1.2.1.below hbq2, (hbq2.block _ (lt_of_block hSq1.2.2.1)).trans hSq1.2.2.1, (hbq2.cell hSq1.2.2.2.2.1).trans hSq1.2.2.2.1, Nat.lt_of_lt_of_le hSq1.2.2.2.2.1 hbq2.size, map_below hSq1.2.2.2.2.2 hbq2⟩
  refine hK.out _ _ hSq2 (fun hTq2 => ?_)
  clear hK K
  try simp only [Act.put, List.setIfInBounds_toArray, List.set_cons_zero, List.set_cons_succ, List.getElem_toArray, List.getElem_cons_succ, List.getElem_cons_zero]
  refine wpAnyH_take (i := 16) (v := .bool false) rfl (by kernel_rfl) (by kernel_rfl) (by kernel_rfl) (fun _ _ _ h => h) (Or.inl ⟨by kernel_rfl, ?_⟩) (by assumption) ?_
  · intro ww hSw
    clear hSw
    go_simp
    all_goals (try omega)
    all_goals (try assumption)
    all_goals (try rfl)
  try simp only [Act.put, List.setIfInBounds_toArray, List.set_cons_zero, List.set_cons_succ, List.getElem_toArray, List.getElem_cons_succ, List.getElem_cons_zero]
  refine wpAnyH_take (i := 17) (v := .bool false) rfl (by kernel_rfl) (by kernel_rfl) (by kernel_rfl) (fun _ _ _ h => h) (Or.inl ⟨by kernel_rfl, ?_⟩) (by assumption) ?_
  · intro ww hSw
    clear hSw
    go_simp
    all_goals (try omega)
    all_goals (try assumption)
    all_goals (try rfl)
  try simp only [Act.put, List.setIfInBounds_toArray, List.set_cons_zero, List.set_cons_succ, List.getElem_toArray, List.getElem_cons_succ, List.getElem_cons_zero]
  refine wpAnyH_take (i := 18) (v := .bool false) rfl (by kernel_rfl) (by kernel_rfl) (by kernel_rfl) (fun _ _ _ h => h) (Or.inl ⟨by kernel_rfl, ?_⟩) (by assumption) ?_
  · intro ww hSw
    clear hSw
    go_simp
    all_goals (try omega)
    all_goals (try assumption)
    all_goals (try rfl)
  try simp only [Act.put, List.setIfInBounds_toArray, List.set_cons_zero, List.set_cons_succ, List.getElem_toArray, List.getElem_cons_succ, List.getElem_cons_zero]
  have HBQ := Lib.hid hSq2.1
  have HXQ := Lib.hid hSq2.2.2.1
  have HMQ := Lib.hid hSq2.2.2.2.2.2
  refine wpAnyH_done (by kernel_rfl) ?_ _
  generalize q2 = Q1 at *
  have z0 := (cell_of_row _ _ 0 _ _ _ HXQ.out).trans (show _ = some (Value.string ⟨#[97, 47, 98]⟩) from rfl)
  go_wp2_with fail
  refine (HP1.out _).mono ?_; rintro e wx ⟨rfl, hww⟩; rw [hww]; clear hww wx
  have hha : Maps.has (((DataW.map [] : DataW Unit).put (.string []) (.agg [])).put (.string [97]) (.agg [])) (.string [97]) = true := rfl
  obtain ⟨Q2, hQ2⟩ : ∃ Q2, Q2 = Q1.alloc (.cells #[] 51) := ⟨_, rfl⟩
  have h12 : Below Q1.heap.size Q1 Q2 := by rw [hQ2]; exact below_al Q1 _
  have HM6 := Lib.hid (map_below HMQ.out h12)
  have HB6 := Lib.hid (below_then HBQ.out h12)
  have HX6 := Lib.hid ((h12.block _ (lt_of_block HXQ.out)).trans HXQ.out)
  have HQ2 := Lib.hid hQ2
  clear h12 hQ2
  go_upto_region 8 with (at_lookup; refine wpList_lookup_own_unit _ rfl _ _ 52 rfl 9 51 keyS Tryd.underlying52 (zero_unitP _) w.heap.size 2 _ rfl HMQ.out _ _ rfl keyA ?_; rw [hha])
  rw [← HQ2.out]
  clear HQ2 HMQ HBQ HXQ z0 hha
  have z0 := (cell_of_row _ _ 0 _ _ _ HX6.out).trans (show _ = some (Value.string ⟨#[97, 47, 98]⟩) from rfl)
  have z1 := (cell_of_row _ _ 1 _ _ _ HX6.out).trans (show _ = some (Value.int .i64 2) from rfl)
  go_wp2_with fail
  rw [rounds_succ]
  go_wp2_with fail
  go_ret
  exact ⟨rfl, HB6.out⟩
end Go.Proofs.YtpkhpaklhfomkaaDoor
