/-
  Meta.
  Items: slices.Clone.
-/
import Derived.Test.YtjnoapbddifcpaaGreatDoorPkCG
import Derived.Test.YtjnoapbddifcpaaGreatDoorPkBF

namespace Go.Proofs.YtjnoapbddifcpaaGreatDoor
set_option maxRecDepth 100000
set_option linter.unusedSimpArgs false
set_option linter.unusedVariables false
open Go.RowKit Go.Joins Go.Deep
theorem results_tctM {P : Program} {fn : Func} {q p u : Tmp} {ty : TypeId} (h : fn.results = #[.tmp q, .cell p ty, .tmp u]) (tmps : Array Value) (w : World) (g : Nat) (t : TypeId) (cs : Array Value) (fr : Nat × Nat) (d : TypeDesc)
    (hp : tmps.getD p undef = .pointer (some ⟨g, 0, none⟩)) (hg : w.heap[g]? = some (.cells cs t fr))
    (hu : P.underlying ty = some d) (hd : (match d with | .struct _ | .array _ _ => true | _ => false) = true) (hi : (P.info? ty).map (·.size) = some cs.size) :
    (results fn tmps).run P w = .ok (.tuple #[tmps.getD q undef, .agg cs, tmps.getD u undef]) w := by
  have hp2 : tmps[p]?.getD undef = .pointer (some ⟨g, 0, none⟩) := by simpa using hp
  simp only [results, h]
  simp [Sem.run_bind, Result.andThen, hp2, asAddr, run_loadVar_row w g t ty cs fr d hg hu hd hi]
def nodZ : Array Value := #[.int .i64 0, .int .u32 0, .int .u32 0, .int .u32 0, .int .i64 0, .int .i64 0, .string ⟨#[]⟩]
theorem info_entM : (Tryz.prog.info? 32).map (·.size) = some 17 := by kernel_rfl
theorem step_load_rowM {P : Program} {ops : Array Oper} {o : Oper} {a : Act} {w : World} {K : Act → World → Prop} {Q : Exit → Act → World → Prop} {E : Prop} (hgd : o.guard = none) (ty : TypeId) (x : Operand) (ho : o.op = .load ty x)
    (g : Nat) (hx : a.eval x = .pointer (some ⟨g, 0, none⟩)) (t : TypeId) (cs : Array Value) (fr : Nat × Nat) (d : TypeDesc) (hg : w.heap[g]? = some (.cells cs t fr))
    (hu : P.underlying ty = some d) (hd : (match d with | .struct _ | .array _ _ => true | _ => false) = true) (hi : (P.info? ty).map (·.size) = some cs.size)
    (h : K (a.put o.dst (.agg cs)) w) : if Region.wanted o (yielded ops a.tmps) = true then Oper.wp P o a w K Q else E := by
  rw [if_pos (by simp [Region.wanted, hgd])]
  exact wp_load_row ty x ho g hx t cs fr d hg hu hd hi h
theorem step_store_rowM {P : Program} {ops : Array Oper} {o : Oper} {a : Act} {w : World} {K : Act → World → Prop} {Q : Exit → Act → World → Prop} {E : Prop} (hgd : o.guard = none) (ty : TypeId) (x y : Operand) (ho : o.op = .store ty x y)
    (g : Nat) (cells : Array Value) (hx : a.eval x = .pointer (some ⟨g, 0, none⟩)) (hy : a.eval y = .agg cells) (t : TypeId) (old : Array Value) (hg : w.heap[g]? = some (.cells old t (0, 0))) (hi : (P.info? ty).map (·.size) = some cells.size)
    (hold : old.size = cells.size) (h1 : cells.all (·.oneCell') = true) (h : K (a.put o.dst undef) (w.setRow g cells)) : if Region.wanted o (yielded ops a.tmps) = true then Oper.wp P o a w K Q else E := by
  rw [if_pos (by simp [Region.wanted, hgd])]
  exact wp_store_row ty x y ho g cells hx hy t old hg hi hold h1 h
theorem ent_boxM {w : World} {g : Nat} {E : Ent} (h : w.heap[g]? = some (.cells E.cells 32 (0, 0))) : w.cell? ⟨g, 5, none⟩ = some (.int .u32 (E.time : Nat)) := (cell_of_row _ _ 5 _ _ _ h).trans rfl
theorem row_setCell2 {w : World} {g i j : Nat} {cs : Array Value} {T : TypeId} {x y : Value} (h : w.heap[g]? = some (.cells cs T (0, 0))) : ((w.setCell ⟨g, i, none⟩ x).setCell ⟨g, j, none⟩ y).heap[g]? = some (.cells ((cs.setIfInBounds i x).setIfInBounds j y) T (0, 0)) :=
  heap_setCell_same _ g j _ _ y (heap_setCell_same w g i _ _ x h)
theorem far_setCell2 {w : World} {g i j b : Nat} {x y : Value} (h : b ≠ g) : ((w.setCell ⟨g, i, none⟩ x).setCell ⟨g, j, none⟩ y).heap[b]? = w.heap[b]? :=
  (Below.heap_setCell _ _ _ _ (fun e => h e)).trans (Below.heap_setCell _ _ _ _ (fun e => h e))
set_option maxHeartbeats 16000000 in
theorem meta_any (E : Ent) (hE : EntOk E) (hnm : E.nm.size ≤ 100000) (w : World) (hU : Upper w) (hEn : Env w) :
    Calls Tryz.prog 29 #[.agg E.cells] w fun e w' => e = .returned (metV E).val ∧ Below w.heap.size w w' := by
  obtain ⟨hD1, hD2, hD3⟩ := fl_sz E hE
  have hL1 := flL_len E
  have hL2 := flC_len E
  have HFO := Lib.hid (fun w1 => fieldsOf_any E hE w1)
  have HPA := Lib.hid (fun F w1 (hb : Below w.heap.size w w1) (hF : FsV w1 F (flL E) (flC E)) => path_any F _ _ E hnm hL1 hL2 w1 (hU.below hb) (hEn.below hb) hF (hD1 28789) (txtV_sz _ E hnm (hD1 28789)))
  have HBA := Lib.hid (fun d w1 => bare_any E hE d w1)
  have HTI := Lib.hid (fun F w1 (hF : FsV w1 F (flL E) (flC E)) => times_any F _ _ E.time hE.2.2.2.2.2.2 hL1 hL2 w1 hF (hD2 21589) (hD3 21589))
  have HOW := Lib.hid (fun F w1 (hF : FsV w1 F (flL E) (flC E)) => owner_any F _ _ hL1 hL2 w1 hF hD1)
  obtain ⟨V, hV⟩ : ∃ V, V = metV E := ⟨_, rfl⟩
  rw [← hV]
  unfold metV at hV
  have HV := Lib.hid hV
  clear hV hD1 hD2 hD3 hL1 hL2 hU hEn
  generalize patV (flL E ++ flC E) E = PT at *
  generalize timV (tolV (flL E) (flC E)) E.time = TM at *
  generalize ownTri (flL E ++ flC E) = OW at *
  generalize hfb : flB E = FB at *
  obtain ⟨w1, hw1⟩ : ∃ w1, w1 = (w.alloc (.cells E.cells 32)).alloc (.cells nodZ 71) := ⟨_, rfl⟩
  have hba := (Below.refl w.heap.size w).alloc (Nat.le_refl _) (.cells E.cells 32)
  have hbb := (Below.refl (w.alloc (.cells E.cells 32)).heap.size (w.alloc (.cells E.cells 32))).alloc (Nat.le_refl _) (.cells nodZ 71)
  have hsz : (w.alloc (.cells E.cells 32)).heap.size = w.heap.size + 1 := by simp only [World.alloc, Array.size_push]
  have HB1 : Hid (Below w.heap.size w w1) := by show Below _ _ _; rw [hw1]; exact below_then hba hbb
  have hxe : w1.heap[w.heap.size]? = some (.cells E.cells 32 (0, 0)) := by rw [hw1]; exact (hbb.block _ (lt_of_block (heap_alloc_new w _))).trans (heap_alloc_new w _)
  have hxn : w1.heap[w.heap.size + 1]? = some (.cells nodZ 71 (0, 0)) := by rw [hw1, ← hsz]; exact heap_alloc_new _ _
  have HE1 := Lib.hid hxe
  have HN1 := Lib.hid hxn
  simp only [Ent.cells, nodZ] at hw1 ⊢
  have HW1 := Lib.hid hw1
  clear hba hbb hsz hxe hxn hw1 hfb
  go_enter Tryz.func29, Tryz.ntmps29
  go_upto_region 1 with fail
  rw [← HW1.out]
  clear HW1
  have HF1 := Lib.hid (HFO.out w1)
  simp only [Ent.cells] at HF1
  go_wp2_with (first | (refine wpList_load_row rfl 32 (.tmp 1) rfl w.heap.size rfl 32 _ (0, 0) _ HE1.out Tryz.underlying32 rfl info_entM ?_))
  refine HF1.out.mono ?_; rintro e w2 ⟨F, rfl, hF, hb2⟩
  have hFF := hF
  obtain ⟨A1, c1, A2, c2, rfl, _⟩ := hFF
  obtain ⟨w3, hw3⟩ : ∃ w3, w3 = w2.alloc (.cells #[.slice A1 (flL E).length c1, .slice A2 (flC E).length c2] 110) := ⟨_, rfl⟩
  have hb3 : Below w2.heap.size w2 w3 := by rw [hw3]; exact (Below.refl _ _).alloc (Nat.le_refl _) _
  have hxf : w3.heap[w2.heap.size]? = some (.cells #[.slice A1 (flL E).length c1, .slice A2 (flC E).length c2] 110 (0, 0)) := by rw [hw3]; exact heap_alloc_new w2 _
  have hb13 := below_then hb2 hb3
  have HB3 := Lib.hid (below_then HB1.out hb13)
  have HF3 := Lib.hid (hF.below hb3)
  have HE3 := Lib.hid ((hb13.block _ (lt_of_block HE1.out)).trans HE1.out)
  have HN3 := Lib.hid ((hb13.block _ (lt_of_block HN1.out)).trans HN1.out)
  have HX3 := Lib.hid hxf
  have HW3 := Lib.hid hw3
  have HPT := Lib.hid (HPA.out _ w3 HB3.out HF3.out)
  clear hb2 hb3 hb13 hxf hF hw3 HF1 HFO HE1 HN1 HB1 HPA
  have HFM := Lib.hid (fun w5 (hb : Below w3.heap.size w3 w5) => HF3.out.below hb)
  generalize hn1 : (flL E).length = n1 at *
  generalize hn2 : (flC E).length = n2 at *
  clear hn1 hn2 HF3
  simp only [Ent.cells] at HPT HBA
  cases FB with
  | false =>
    have HVV : Hid (V = meE 24) := by show _ = _; rw [HV.out, if_neg (by decide)]
    clear HV HPT HTI HOW HBA HFM
    go_upto_region 2 with fail
    rw [← HW3.out]
    go_wp2_with (refine wpList_store_row rfl 71 (.tmp 3) (.tmp 17) rfl (w.heap.size + 1) nodZ rfl rfl 71 _ HN3.out info_nodeM rfl (by simp [nodZ, Value.oneCell']) ?_)
    have HY := Lib.hid (setRow_heap _ _ _ nodZ _ _ HN3.out)
    refine bodyPost_ret (results_tctM rfl _ _ (w.heap.size + 1) 71 _ (0, 0) _ rfl HY.out Tryz.underlying71 rfl info_nodeM) rfl ⟨?_, ?_⟩
    · rw [HVV.out]; rfl
    · exact below_setRow HB3.out (Nat.le_succ _) _
  | true =>
    obtain ⟨pp, pd, pz⟩ := PT
    have HV1 : Hid (V = if pz = 0 then (if barB E pd = true then (if TM.2.2 = 0 then (if OW.2.2 = 0 then ⟨pp, barK E pd, barM E pd, OW.1, OW.2.1, TM.1, TM.2.1, 0⟩ else meE OW.2.2) else meE TM.2.2) else meE 42) else meE pz) := by show _ = _; rw [HV.out, if_pos rfl]
    clear HV
    go_upto_region 2 with fail
    rw [← HW3.out]
    clear HW3
    generalize w2.heap.size = gf at *
    go_wp2_with (first | (refine wpList_load_row rfl 32 (.tmp 1) rfl w.heap.size rfl 32 _ (0, 0) _ HE3.out Tryz.underlying32 rfl info_entM ?_) | (refine wpList_load_row rfl 110 (.tmp 5) rfl gf rfl 110 _ (0, 0) _ HX3.out Tryz.underlying110 rfl info_fields ?_))
    refine HPT.out.mono ?_; rintro e w4 ⟨rfl, hb4⟩
    have HE4 := Lib.hid ((hb4.block _ (lt_of_block HE3.out)).trans HE3.out)
    have HN4 := Lib.hid ((hb4.block _ (lt_of_block HN3.out)).trans HN3.out)
    have HX4 := Lib.hid ((hb4.block _ (lt_of_block HX3.out)).trans HX3.out)
    have HB4 := Lib.hid (below_then HB3.out hb4)
    have HBX := Lib.hid hb4
    clear hb4 HE3 HN3 HX3 HPT
    by_cases hz : pz = 0
    case neg =>
      have bz : (pz != 0) = true := bne_iff_ne.2 hz
      have HVV : Hid (V = meE pz) := by show _ = _; rw [HV1.out, if_neg hz]
      clear HV1 HTI HOW HBA HFM
      go_wp2_with (refine wpList_store_row rfl 71 (.tmp 3) (.tmp 28) rfl (w.heap.size + 1) nodZ rfl rfl 71 _ HN4.out info_nodeM rfl (by simp [nodZ, Value.oneCell']) ?_)
      have HY := Lib.hid (setRow_heap _ _ _ nodZ _ _ HN4.out)
      refine bodyPost_ret (results_tctM rfl _ _ (w.heap.size + 1) 71 _ (0, 0) _ rfl HY.out Tryz.underlying71 rfl info_nodeM) rfl ⟨?_, ?_⟩
      · rw [HVV.out]; rfl
      · exact below_setRow HB4.out (Nat.le_succ _) _
    subst hz
    have HV2 : Hid (V = if barB E pd = true then (if TM.2.2 = 0 then (if OW.2.2 = 0 then ⟨pp, barK E pd, barM E pd, OW.1, OW.2.1, TM.1, TM.2.1, 0⟩ else meE OW.2.2) else meE TM.2.2) else meE 42) := by show _ = _; rw [HV1.out, if_pos rfl]
    clear HV1
    have HBR := Lib.hid (HBA.out pd w4)
    clear HBA
    go_wp2_with (refine wpList_load_row rfl 32 (.tmp 1) rfl w.heap.size rfl 32 _ (0, 0) _ HE4.out Tryz.underlying32 rfl info_entM ?_)
    refine HBR.out.mono ?_; rintro e w5 ⟨rfl, hb5⟩
    unfold barV
    have HBB : ∃ BB, BB = barB E pd := ⟨_, rfl⟩
    obtain ⟨BB, hBB⟩ := HBB
    rw [← hBB] at HV2 ⊢
    clear hBB
    have hE5 := ((hb5.block _ (lt_of_block HE4.out)).trans HE4.out)
    have hN5 := ((hb5.block _ (lt_of_block HN4.out)).trans HN4.out)
    have hX5 := ((hb5.block _ (lt_of_block HX4.out)).trans HX4.out)
    have HB5 := Lib.hid (below_then HB4.out hb5)
    have HBX5 := Lib.hid (below_then HBX.out hb5)
    clear hb5 HE4 HN4 HX4 HBR
    cases BB with
    | false =>
      have HVV : Hid (V = meE 42) := by show _ = _; rw [HV2.out, if_neg (by decide)]
      have hb6 := (Below.refl w5.heap.size w5).alloc (Nat.le_refl _) (.cells nodZ 71)
      have HN6 := Lib.hid ((hb6.block _ (lt_of_block hN5)).trans hN5)
      have HB6 := Lib.hid (below_then HB5.out hb6)
      clear hb6 hE5 hN5 hX5 HV2 HTI HOW HFM
      go_upto_region 8 with fail
      unfold nodZ at HB6 HN6
      generalize w5.alloc _ = w6 at *
      go_wp2_with (refine wpList_store_row rfl 71 (.tmp 3) (.tmp 38) rfl (w.heap.size + 1) nodZ rfl rfl 71 _ HN6.out info_nodeM rfl (by simp [nodZ, Value.oneCell']) ?_)
      have HY := Lib.hid (setRow_heap _ _ _ nodZ _ _ HN6.out)
      refine bodyPost_ret (results_tctM rfl _ _ (w.heap.size + 1) 71 _ (0, 0) _ rfl HY.out Tryz.underlying71 rfl info_nodeM) rfl ⟨?_, ?_⟩
      · rw [HVV.out]; rfl
      · exact below_setRow HB6.out (Nat.le_succ _) _
    | true =>
      generalize barK E pd = bk at *
      generalize barM E pd = bm at *
      have HV3 : Hid (V = if TM.2.2 = 0 then (if OW.2.2 = 0 then ⟨pp, bk, bm, OW.1, OW.2.1, TM.1, TM.2.1, 0⟩ else meE OW.2.2) else meE TM.2.2) := by show _ = _; rw [HV2.out, if_pos rfl]
      obtain ⟨w6, hw6⟩ : ∃ w6, w6 = w5.alloc (.cells #[.int .i64 bk, .int .u32 bm, .int .u32 0, .int .u32 0, .int .i64 0, .int .i64 0, .string ⟨#[]⟩] 71) := ⟨_, rfl⟩
      have hb6 : Below w5.heap.size w5 w6 := by rw [hw6]; exact (Below.refl _ _).alloc (Nat.le_refl _) _
      have HG6 : Hid (w6.heap[w5.heap.size]? = some (.cells #[.int .i64 bk, .int .u32 bm, .int .u32 0, .int .u32 0, .int .i64 0, .int .i64 0, .string ⟨#[]⟩] 71 (0, 0))) := by show _ = _; rw [hw6]; exact heap_alloc_new w5 _
      have HE6 := Lib.hid ((hb6.block _ (lt_of_block hE5)).trans hE5)
      have HN6 := Lib.hid ((hb6.block _ (lt_of_block hN5)).trans hN5)
      have HX6 := Lib.hid ((hb6.block _ (lt_of_block hX5)).trans hX5)
      have HB6 := Lib.hid (below_then HB5.out hb6)
      have HBX6 := Lib.hid (below_then HBX5.out hb6)
      have HT6 := Lib.hid (HTI.out _ w6 (HFM.out w6 HBX6.out))
      have HLE : Hid (w3.heap.size ≤ w5.heap.size ∧ w.heap.size + 1 < w5.heap.size ∧ gf < w5.heap.size) := ⟨HBX5.out.size, lt_of_block hN5, lt_of_block hX5⟩
      have HW6 := Lib.hid hw6
      clear hw6 hb6 hE5 hN5 hX5 HV2 HTI HB5 HBX5 HB4 HB3 HBX
      go_upto_region 8 with fail
      rw [← HW6.out]
      clear HW6
      generalize w5.heap.size = gn at *
      have ht := (ent_boxM HE6.out)
      go_wp2_with (refine wpList_load_row rfl 110 (.tmp 5) rfl gf rfl 110 _ (0, 0) _ HX6.out Tryz.underlying110 rfl info_fields ?_)
      refine HT6.out.mono ?_; rintro e w7 ⟨rfl, hb7⟩
      obtain ⟨tm, ta, tz⟩ := TM
      have hg7 := (hb7.block _ (lt_of_block HG6.out)).trans HG6.out
      have HN7 := Lib.hid ((hb7.block _ (lt_of_block HN6.out)).trans HN6.out)
      have HX7 := Lib.hid ((hb7.block _ (lt_of_block HX6.out)).trans HX6.out)
      have y4 := (cell_of_row _ _ 4 _ _ _ hg7).trans (show _ = some (Value.int .i64 0) from rfl)
      have y5 := (cell_of_row _ _ 5 _ _ _ hg7).trans (show _ = some (Value.int .i64 0) from rfl)
      have z4 := Lib.frozen_of_heap hg7 4
      have z5 := Lib.frozen_of_heap hg7 5
      have HG8 : Hid (((w7.setCell ⟨gn, 4, none⟩ (.int .i64 tm)).setCell ⟨gn, 5, none⟩ (.int .i64 ta)).heap[gn]? = some (.cells #[.int .i64 bk, .int .u32 bm, .int .u32 0, .int .u32 0, .int .i64 tm, .int .i64 ta, .string ⟨#[]⟩] 71 (0, 0))) := row_setCell2 hg7
      have HN8 : Hid (((w7.setCell ⟨gn, 4, none⟩ (.int .i64 tm)).setCell ⟨gn, 5, none⟩ (.int .i64 ta)).heap[w.heap.size + 1]? = some (.cells nodZ 71 (0, 0))) := (far_setCell2 (Nat.ne_of_lt HLE.out.2.1)).trans HN7.out
      have HX8 : Hid (((w7.setCell ⟨gn, 4, none⟩ (.int .i64 tm)).setCell ⟨gn, 5, none⟩ (.int .i64 ta)).heap[gf]? = some (.cells #[.slice A1 n1 c1, .slice A2 n2 c2] 110 (0, 0))) := (far_setCell2 (Nat.ne_of_lt HLE.out.2.2)).trans HX7.out
      have HB8 : Hid (Below w.heap.size w ((w7.setCell ⟨gn, 4, none⟩ (.int .i64 tm)).setCell ⟨gn, 5, none⟩ (.int .i64 ta))) := ((below_then HB6.out hb7).setCell (p := ⟨gn, 4, none⟩) (Nat.le_of_lt (Nat.lt_of_succ_lt HLE.out.2.1)) _).setCell (p := ⟨gn, 5, none⟩) (Nat.le_of_lt (Nat.lt_of_succ_lt HLE.out.2.1)) _
      have HBX8 : Hid (Below w3.heap.size w3 ((w7.setCell ⟨gn, 4, none⟩ (.int .i64 tm)).setCell ⟨gn, 5, none⟩ (.int .i64 ta))) := ((below_then HBX6.out hb7).setCell (p := ⟨gn, 4, none⟩) HLE.out.1 _).setCell (p := ⟨gn, 5, none⟩) HLE.out.1 _
      clear hb7 hg7 HN7 HX7 HG6 HE6 HN6 HX6 HB6 HBX6 HT6 ht
      go_upto_region 11 with fail
      generalize (w7.setCell ⟨gn, 4, none⟩ (.int .i64 tm)).setCell ⟨gn, 5, none⟩ (.int .i64 ta) = w8 at *
      clear y4 y5 z4 z5
      by_cases htz : tz = 0
      case neg =>
        have bz : (tz != 0) = true := bne_iff_ne.2 htz
        have HVV : Hid (V = meE tz) := by show _ = _; rw [HV3.out, if_neg htz]
        clear HV3 HOW HFM HG8 HX8 HBX8
        go_wp2_with (refine wpList_store_row rfl 71 (.tmp 3) (.tmp 52) rfl (w.heap.size + 1) nodZ rfl rfl 71 _ HN8.out info_nodeM rfl (by simp [nodZ, Value.oneCell']) ?_)
        have HY := Lib.hid (setRow_heap _ _ _ nodZ _ _ HN8.out)
        refine bodyPost_ret (results_tctM rfl _ _ (w.heap.size + 1) 71 _ (0, 0) _ rfl HY.out Tryz.underlying71 rfl info_nodeM) rfl ⟨?_, ?_⟩
        · rw [HVV.out]; rfl
        · exact below_setRow HB8.out (Nat.le_succ _) _
      subst htz
      have HV4 : Hid (V = if OW.2.2 = 0 then ⟨pp, bk, bm, OW.1, OW.2.1, tm, ta, 0⟩ else meE OW.2.2) := by show _ = _; rw [HV3.out, if_pos rfl]
      have HO8 := Lib.hid (HOW.out _ w8 (HFM.out w8 HBX8.out))
      clear HV3 HOW HFM
      obtain ⟨ou, og, oz⟩ := OW
      go_wp2_with (refine wpList_load_row rfl 110 (.tmp 5) rfl gf rfl 110 _ (0, 0) _ HX8.out Tryz.underlying110 rfl info_fields ?_)
      refine HO8.out.mono ?_; rintro e w9 ⟨rfl, hb9⟩
      have hg9 := (hb9.block _ (lt_of_block HG8.out)).trans HG8.out
      have HN9 := Lib.hid ((hb9.block _ (lt_of_block HN8.out)).trans HN8.out)
      have y2 := (cell_of_row _ _ 2 _ _ _ hg9).trans (show _ = some (Value.int .u32 0) from rfl)
      have y3 := (cell_of_row _ _ 3 _ _ _ hg9).trans (show _ = some (Value.int .u32 0) from rfl)
      have z2 := Lib.frozen_of_heap hg9 2
      have z3 := Lib.frozen_of_heap hg9 3
      have HGA : Hid (((w9.setCell ⟨gn, 2, none⟩ (.int .u32 ou)).setCell ⟨gn, 3, none⟩ (.int .u32 og)).heap[gn]? = some (.cells #[.int .i64 bk, .int .u32 bm, .int .u32 ou, .int .u32 og, .int .i64 tm, .int .i64 ta, .string ⟨#[]⟩] 71 (0, 0))) := row_setCell2 hg9
      have HNA : Hid (((w9.setCell ⟨gn, 2, none⟩ (.int .u32 ou)).setCell ⟨gn, 3, none⟩ (.int .u32 og)).heap[w.heap.size + 1]? = some (.cells nodZ 71 (0, 0))) := (far_setCell2 (Nat.ne_of_lt HLE.out.2.1)).trans HN9.out
      have HBA : Hid (Below w.heap.size w ((w9.setCell ⟨gn, 2, none⟩ (.int .u32 ou)).setCell ⟨gn, 3, none⟩ (.int .u32 og))) := ((below_then HB8.out hb9).setCell (p := ⟨gn, 2, none⟩) (Nat.le_of_lt (Nat.lt_of_succ_lt HLE.out.2.1)) _).setCell (p := ⟨gn, 3, none⟩) (Nat.le_of_lt (Nat.lt_of_succ_lt HLE.out.2.1)) _
      clear hb9 hg9 HN9 HG8 HN8 HX8 HB8 HBX8 HO8
      go_upto_region 14 with fail
      generalize (w9.setCell ⟨gn, 2, none⟩ (.int .u32 ou)).setCell ⟨gn, 3, none⟩ (.int .u32 og) = wA at *
      clear y2 y3 z2 z3
      by_cases hoz : oz = 0
      case neg =>
        have bz : (oz != 0) = true := bne_iff_ne.2 hoz
        have HVV : Hid (V = meE oz) := by show _ = _; rw [HV4.out, if_neg hoz]
        clear HV4 HGA
        go_wp2_with (refine wpList_store_row rfl 71 (.tmp 3) (.tmp 64) rfl (w.heap.size + 1) nodZ rfl rfl 71 _ HNA.out info_nodeM rfl (by simp [nodZ, Value.oneCell']) ?_)
        have HY := Lib.hid (setRow_heap _ _ _ nodZ _ _ HNA.out)
        refine bodyPost_ret (results_tctM rfl _ _ (w.heap.size + 1) 71 _ (0, 0) _ rfl HY.out Tryz.underlying71 rfl info_nodeM) rfl ⟨?_, ?_⟩
        · rw [HVV.out]; rfl
        · exact below_setRow HBA.out (Nat.le_succ _) _
      subst hoz
      have HVV : Hid (V = ⟨pp, bk, bm, ou, og, tm, ta, 0⟩) := by show _ = _; rw [HV4.out, if_pos rfl]
      clear HV4
      go_upto_region 16 with fail
      have HGD : Hid (wA.drew.heap[gn]? = _) := HGA.out
      have HND : Hid (wA.drew.heap[w.heap.size + 1]? = _) := HNA.out
      have HBD := Lib.hid HBA.out.drew
      have HY := Lib.hid (setRow_heap _ _ _ #[.int .i64 bk, .int .u32 bm, .int .u32 ou, .int .u32 og, .int .i64 tm, .int .i64 ta, .string ⟨#[]⟩] _ _ HND.out)
      refine wp_region_any (by kernel_rfl) ?_
      try (change wpAny _ _ _ _ _ _ _ (World.drew _))
      refine wpAny_take (i := 0) (v := ?_) rfl (by kernel_rfl) (by kernel_rfl) (by kernel_rfl) (fun _ _ _ h => h) (Or.inl ⟨by rfl, ?_⟩) ?_
      rotate_left
      · intro w; go_simp; try with_reducible rfl
      try simp only [Act.put, List.setIfInBounds_toArray, List.set_cons_zero, List.set_cons_succ, List.getElem_toArray, List.getElem_cons_succ, List.getElem_cons_zero]
      refine wpAny_take (i := 2) (v := ?_) rfl (by kernel_rfl) (by kernel_rfl) (by kernel_rfl) (fun _ _ _ h => h) (Or.inl ⟨by rfl, ?_⟩) ?_
      rotate_left
      · intro w; go_simp; try with_reducible rfl
      try simp only [Act.put, List.setIfInBounds_toArray, List.set_cons_zero, List.set_cons_succ, List.getElem_toArray, List.getElem_cons_succ, List.getElem_cons_zero]
      refine wpAny_ready (rs := [1]) (by kernel_rfl) (by simp) ?_
      refine AllReady.cons rfl (fun K hK => ?_) AllReady.nil
      refine step_load_rowM rfl 71 (.tmp 9) rfl gn rfl 71 _ (0, 0) _ HGD.out Tryz.underlying71 rfl info_nodeM ?_
      refine hK _ _ ?_; clear hK K
      refine wpAny_ready (rs := [3]) (by kernel_rfl) (by simp) ?_
      refine AllReady.cons rfl (fun K hK => ?_) AllReady.nil
      refine step_store_rowM rfl 71 (.tmp 3) (.tmp 67) rfl (w.heap.size + 1) #[.int .i64 bk, .int .u32 bm, .int .u32 ou, .int .u32 og, .int .i64 tm, .int .i64 ta, .string ⟨#[]⟩] rfl rfl 71 _ HND.out info_nodeM rfl (by simp [Value.oneCell']) ?_
      refine hK _ _ ?_; clear hK K
      refine wpAny_take (i := 4) (v := ?_) rfl (by kernel_rfl) (by kernel_rfl) (by kernel_rfl) (fun _ _ _ h => h) (Or.inl ⟨by rfl, ?_⟩) ?_
      rotate_left
      · intro w; go_simp; try with_reducible rfl
      try simp only [Act.put, List.setIfInBounds_toArray, List.set_cons_zero, List.set_cons_succ, List.getElem_toArray, List.getElem_cons_succ, List.getElem_cons_zero]
      refine wpAny_done (by kernel_rfl) ?_ _
      go_wp2_with fail
      refine bodyPost_ret (results_tctM rfl _ _ (w.heap.size + 1) 71 _ (0, 0) _ rfl HY.out Tryz.underlying71 rfl info_nodeM) rfl ⟨?_, ?_⟩
      · rw [HVV.out]; rfl
      · exact below_setRow HBD.out (Nat.le_succ _) _
end Go.Proofs.YtjnoapbddifcpaaGreatDoor

namespace Go.Proofs.YtjnoapbddifcpaaGreatDoor
set_option maxRecDepth 100000
set_option linter.unusedSimpArgs false
set_option linter.unusedVariables false
open Go.RowKit Go.Joins Go.Deep
theorem partsI : ∃ i0, Tryz.prog.info? 73 = some i0 ∧ i0.zero = some (.agg #[.string ⟨#[]⟩, .int .i64 0, .int .u32 0, .int .u32 0, .int .u32 0, .int .i64 0, .int .i64 0, .string ⟨#[]⟩]) ∧ i0.size = 8 ∧ i0.bytes = 72 := by
  have h := parts_item
  cases hq : Tryz.prog.info? 73 with
  | none => rw [hq] at h; cases h
  | some i =>
    rw [hq] at h
    simp only [Option.map_some, Option.some.injEq, Prod.mk.injEq] at h
    exact ⟨i, rfl, h.1, h.2.1, h.2.2⟩
/-- What a slice of items is that was made: nothing, or a block of its own. -/
def NewI (w : World) (B : Nat) (A : Option Addr) (l : List Itm) : Prop := l = [] ∨ ∃ g, A = some ⟨g, 0, none⟩ ∧ B ≤ g ∧ IO w g l
theorem NewI.itms {w : World} {B : Nat} {A : Option Addr} {l : List Itm} (h : NewI w B A l) : Itms w A l := by
  rcases h with rfl | ⟨g, rfl, _, h⟩
  · exact Itms.nil _ _
  · exact h.itms
set_option maxHeartbeats 4000000 in
theorem cloneI_any (A : Option Addr) (c : Nat) (l : List Itm) (w : World) (hR : Itms w A l) (hl : l.length ≤ 1000000) :
    Calls Tryz.prog 35 #[.slice A l.length c] w fun e w' => ∃ A' c', e = .returned (.slice A' l.length c') ∧ l.length ≤ c' ∧ NewI w' w.heap.size A' l ∧ Below w.heap.size w w' := by
  obtain ⟨i0, hi, hz0, hz1, hz2⟩ := partsI
  have HR := Lib.hid hR
  have q54 : ∀ (w : World) (a : Option Addr) (n c n' c' : Nat), (binOp .eql 23 (.slice a n c) (.slice none n' c')).run Tryz.prog w = .ok (.bool a.isNone) w := fun w a n c n' c' => Lib.run_eql_slice_nil w _ _ a n c n' c' Tryz.underlying23
  clear hR
  cases A with
  | none =>
    obtain rfl : l = [] := HR.out.none
    go_enter Tryz.func35, Tryz.ntmps35
    go_wp2_with fail
    go_ret
    exact ⟨none, 0, rfl, Nat.le_refl _, .inl rfl, Below.refl _ _⟩
  | some ad =>
    go_enter Tryz.func35, Tryz.ntmps35
    go_wp2_with (at_builtin; refine wpList_append_own _ rfl _ _ 23 rfl w.heap.size 73 i0 (.agg #[.string ⟨#[]⟩, .int .i64 0, .int .u32 0, .int .u32 0, .int .u32 0, .int .i64 0, .int .i64 0, .string ⟨#[]⟩]) 8 72 Tryz.underlying23 hi hz0 hz1 hz2 rfl (by decide) _ _ _ rfl (World.ownsRow_made w #[] 0 (Nat.le_refl _) (Nat.zero_le _) rfl) ad l.length c (cellsI l) rfl ?qc1 ?qc2 ?qc3 ?qc4 ?qc5 ?qc6 ?_)
    case qc1 => exact cellsI_len l
    case qc2 =>
      intro j u hj
      have hjl : j < l.length * 8 := by rw [← cellsI_len]; exact (List.getElem?_eq_some_iff.1 hj).1
      obtain ⟨b, off, e, hlt, _⟩ := HR.out (by omega)
      injection e with e
      subst e
      have hk : j / 8 < l.length := by omega
      have hr := HR.out.range (j / 8) l[j / 8] (List.getElem?_eq_getElem hk)
      have hm : j % 8 < (l[j / 8]).cellsL.length := Nat.mod_lt _ (by decide)
      have hg := cellsI_get l (j / 8) l[j / 8] (List.getElem?_eq_getElem hk) (j % 8) _ (List.getElem?_eq_getElem hm)
      rw [show j / 8 * 8 + j % 8 = j by omega, hj] at hg
      injection hg with hg
      subst hg
      have h := hr (j % 8) _ (List.getElem?_eq_getElem hm)
      rw [show off + j / 8 * 8 + j % 8 = off + j by omega] at h
      rw [Addr.add_mid]
      exact Lib.cell?_alloc_some _ h
    case qc3 =>
      intro u hu
      exact cellsI_one l u hu
    case qc4 => unfold maxLen; omega
    case qc5 => omega
    case qc6 => simp
    intro v' w1 hown hgrow hnil
    go_wp2_with fail
    go_ret
    have hb : Below w.heap.size w w1 := ((Below.refl _ w).alloc (Nat.le_refl _) _).grown hgrow (by simp) (by intro k hk; simp [Value.ownBlock] at hk; omega)
    rcases hown.2 with ⟨he, h0⟩ | ⟨g2, cap2, cur, he, hbg, _, hnc, _⟩
    · exact ⟨none, 0, by rw [he, h0]; rfl, by omega, .inl (List.eq_nil_of_length_eq_zero h0), hb⟩
    · refine ⟨_, cap2, by rw [he]; rfl, hnc, .inr ⟨g2, rfl, hbg, ?_⟩, hb⟩
      rw [he] at hown
      exact io_of_own hown
end Go.Proofs.YtjnoapbddifcpaaGreatDoor
