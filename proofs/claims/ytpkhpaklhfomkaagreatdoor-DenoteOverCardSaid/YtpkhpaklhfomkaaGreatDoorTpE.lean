/-
  Trees: slices.Insert of one item.
-/
import Derived.Test.YtpkhpaklhfomkaaGreatDoorTpD
namespace Go.Proofs.YtpkhpaklhfomkaaGreatDoor
set_option maxRecDepth 100000
set_option linter.unusedSimpArgs false
set_option linter.unusedVariables false
open Go.RowKit Go.Joins Go.Deep
open Go.Lib hiding intOf
set_option maxHeartbeats 4000000 in
theorem ins_end (B : Nat) (A : Option Addr) (c gv : Nat) (l : List Itm) (y : Itm) (w : World) (hN : NewB w B c A l) (hc : l.length ≤ c) (hl : l.length ≤ 100000) (hv : w.heap[gv]? = some (.cells y.cells 33 (0, 0))) (hB : B ≤ w.heap.size) :
    Calls Tryz.prog 102 #[.slice A l.length c, .int .i64 l.length, .slice (some ⟨gv, 0, none⟩) 1 1] w fun e w' => ∃ A' c', e = .returned (.slice A' (l.length + 1) c') ∧ NewB w' B c' A' (insI l l.length y) ∧ Below B w w' := by
  obtain ⟨i0, hi, hz0, hz1, hz2⟩ := partsI
  have hown := own_of hN hc
  have HN := Lib.hid hN
  have hci : (l.length : Int) ≤ (c : Int) := by omega
  have hvc : ∀ j u, y.cellsL[j]? = some u → w.cell? ((⟨gv, 0, none⟩ : Addr).add j) = some u := fun j u hj => by
    rw [Addr.add_lit, Nat.zero_add, cell_of_row w gv j y.cells _ (0, 0) hv]
    rw [← itm_cells]
    simpa using hj
  clear hN hv
  by_cases hcn : c = l.length
  · subst hcn
    go_enter Tryz.func102, Tryz.ntmps102
    go_wp2_with (at_builtin; refine wpList_append_own _ rfl _ _ 22 rfl B 33 i0 (.agg #[.string ⟨#[]⟩, .int .i64 0, .int .u32 0, .int .u32 0, .int .u32 0, .int .i64 0, .int .i64 0, .string ⟨#[]⟩]) 8 72 Tryz.underlying22 hi hz0 hz1 hz2 rfl (by decide) _ _ _ rfl hown ⟨gv, 0, none⟩ 1 1 y.cellsL rfl ?qc1 ?qc2 ?qc3 ?qc4 ?qc5 ?qc6 ?_)
    case qc1 => rfl
    case qc2 => exact hvc
    case qc3 =>
      intro u hu
      exact cellsI_one [y] u (by rw [cellsI, cellsI, List.append_nil]; exact hu)
    case qc4 => unfold maxLen; omega
    case qc5 => omega
    case qc6 => exact hB
    intro v' w1 hown1 hgrow hnil
    go_wp2_with fail
    go_ret
    have e : cellsI (insI l l.length y) = cellsI l ++ y.cellsL := by
      rw [insI_cells l _ y (Nat.le_refl _), List.take_of_length_le (by rw [cellsI_len]; exact Nat.le_refl _), List.drop_of_length_le (by rw [cellsI_len]; exact Nat.le_refl _), List.append_nil]
    have el := insI_len l l.length y (Nat.le_refl _)
    rw [← e, ← el] at hown1
    obtain ⟨A', c', rfl, hnb⟩ := nb_of_own v' (by omega) hown1
    rw [el]
    exact ⟨A', c', rfl, hnb, (Below.refl B w).grown hgrow hB (fun k hk => (hown.lt k hk).1)⟩
  · go_enter Tryz.func102, Tryz.ntmps102
    go_wp2_with (at_builtin; refine wpList_append_own _ rfl _ _ 22 rfl B 33 i0 (.agg #[.string ⟨#[]⟩, .int .i64 0, .int .u32 0, .int .u32 0, .int .u32 0, .int .i64 0, .int .i64 0, .string ⟨#[]⟩]) 8 72 Tryz.underlying22 hi hz0 hz1 hz2 rfl (by decide) _ _ _ rfl hown ⟨gv, 0, none⟩ 1 1 y.cellsL rfl ?qc1 ?qc2 ?qc3 ?qc4 ?qc5 ?qc6 ?_)
    case qc1 => rfl
    case qc2 => exact hvc
    case qc3 =>
      intro u hu
      exact cellsI_one [y] u (by rw [cellsI, cellsI, List.append_nil]; exact hu)
    case qc4 => unfold maxLen; omega
    case qc5 => omega
    case qc6 => exact hB
    intro v' w1 hown1 hgrow hnil
    go_wp2_with fail
    go_ret
    have e : cellsI (insI l l.length y) = cellsI l ++ y.cellsL := by
      rw [insI_cells l _ y (Nat.le_refl _), List.take_of_length_le (by rw [cellsI_len]; exact Nat.le_refl _), List.drop_of_length_le (by rw [cellsI_len]; exact Nat.le_refl _), List.append_nil]
    have el := insI_len l l.length y (Nat.le_refl _)
    rw [← e, ← el] at hown1
    obtain ⟨A', c', rfl, hnb⟩ := nb_of_own v' (by omega) hown1
    rw [el]
    exact ⟨A', c', rfl, hnb, (Below.refl B w).grown hgrow hB (fun k hk => (hown.lt k hk).1)⟩
set_option maxHeartbeats 8000000 in
theorem ins_shift (B : Nat) (g c gv i : Nat) (l : List Itm) (y : Itm) (w : World) (hN : IC w g c l) (hg : B ≤ g) (hi : i < l.length) (hc : l.length + 1 ≤ c) (hl : l.length ≤ 100000) (hv : w.heap[gv]? = some (.cells y.cells 33 (0, 0))) (hne : gv ≠ g) (hB : B ≤ w.heap.size) :
    Calls Tryz.prog 102 #[.slice (some ⟨g, 0, none⟩) l.length c, .int .i64 i, .slice (some ⟨gv, 0, none⟩) 1 1] w fun e w' => ∃ A' c', e = .returned (.slice A' (l.length + 1) c') ∧ NewB w' B c' A' (insI l i y) ∧ Below B w w' := by
  obtain ⟨n, hn⟩ : ∃ n, n = l.length := ⟨_, rfl⟩
  have hc63 : c ≤ 9223372036854775807 := by obtain ⟨cur, _, _, h⟩ := hN.2; unfold maxLen at h; omega
  have hrg := range_of_io hN.1
  have hth := fun (o m : Nat) (h : o + m ≤ c * 8) => hN.2.there o m h
  have hvc : ∀ j u, y.cellsL[j]? = some u → w.cell? ⟨gv, 0 + j, none⟩ = some u := fun j u hj => by
    rw [Nat.zero_add, cell_of_row w gv j y.cells _ (0, 0) hv]
    rw [← itm_cells]
    simpa using hj
  have hsz8 : ∀ w, (Go.sizeOf 33).run Tryz.prog w = .ok 8 w := fun w => by
    obtain ⟨i0, hi0, _, h1, _⟩ := partsI
    simp [sizeOf, typeInfo, hi0, h1]
  obtain ⟨cur, hcur, hcs, _⟩ := hN.2
  have hov : ∀ lb cb, (callFunc 142 #[.slice (some ⟨gv, 0, none⟩) 1 1, .slice (some ⟨g, (i + 1) * 8, none⟩) lb cb]).run Tryz.prog w = .ok (.value (.bool false)) w := fun lb cb => by
    rw [run_callFunc_extern Tryz.func142 (by kernel_rfl) (by kernel_rfl) (by kernel_rfl) (e := Extern.SlicesOverlaps.overlaps #[22, 22] #[4]) (by kernel_rfl),
      Lib.run_overlaps_apart w 22 4 33 Tryz.underlying22 8 hsz8 ⟨gv, 0, none⟩ ⟨g, (i + 1) * 8, none⟩ 1 1 lb cb hne 33 33 8 cur.size (by simp [World.shape?, hv, Itm.cells]) (by simp [World.shape?, hcur]) (by omega) (frozen_of_row w gv 0 _ _ hv) (frozen_of_row w gv 8 _ _ hv)]
    rfl
  have hz2 : ¬ ((i : Int) = (n : Int)) := by omega
  have hw1 : IntKind.i64.wrap ((i : Int) + 1) = (i : Int) + 1 := by rw [IntKind.wrap_i64]; omega
  have hb1 : (0 : Int) ≤ (i : Int) + 1 := by omega
  have hin : i ≤ n := by omega
  have htn : ((i : Int) + 1).toNat = i + 1 := by omega
  have htn2 : ((n : Int) + 1).toNat = n + 1 := by omega
  have hb2 : ¬ (c = i + 1) := by omega
  have hb3 : (i : Int) ≤ (n : Int) + 1 := by omega
  have hb4 : ¬ (c = i) := by omega
  obtain ⟨cs, hcsd⟩ : ∃ cs, cs = (cellsI l).drop (i * 8) := ⟨_, rfl⟩
  have hdl : cs.length = (n - i) * 8 := by rw [hcsd, List.length_drop, cellsI_len, hn]; omega
  have h1c : ∀ v ∈ cs, v.oneCell' = true := fun v hv => cellsI_one l v (by rw [hcsd] at hv; exact List.mem_of_mem_drop hv)
  have h1v : ∀ v ∈ y.cellsL, v.oneCell' = true := fun u hu => cellsI_one [y] u (by rw [cellsI, cellsI, List.append_nil]; exact hu)
  have hcp1 : ∀ ty dc sc, (Builtin.copy_ #[22, 22] ty #[.slice (some ⟨g, (i + 1) * 8, none⟩) (n - i) dc, .slice (some ⟨g, i * 8, none⟩) (n + 1 - i) sc]).run Tryz.prog w.drew = .ok (goInt (Nat.min (n + 1 - i) (n - i))) (w.drew.setCells g ((i + 1) * 8) cs) := fun ty dc sc =>
    run_copy_items w.drew ty g ((i + 1) * 8) (n - i) dc ⟨g, i * 8, none⟩ (n + 1 - i) sc cs (by rw [hdl]; simp only [Nat.min_def]; split <;> omega)
      (fun j v hj => by
        rw [hcsd, List.getElem?_drop] at hj
        have := hrg _ v hj
        rw [Addr.add_lit]
        rwa [Nat.zero_add] at this)
      (fun j hj => (hth ((i + 1) * 8 + j) 1 (by omega) 0 (by omega)).1) (fun j hj => (hth ((i + 1) * 8 + j) 1 (by omega) 0 (by omega)).2) h1c
  obtain ⟨W1, hW1⟩ : ∃ W1, W1 = w.drew.setCells g ((i + 1) * 8) cs := ⟨_, rfl⟩
  have hbk1 : BK W1 g c := by rw [hW1]; exact BK.store cs _ w.drew hN.2
  have hcp2 : ∀ (W : World), W.heap = W1.heap → ∀ ty dc, (Builtin.copy_ #[22, 22] ty #[.slice (some ⟨g, i * 8, none⟩) (n + 1 - i) dc, .slice (some ⟨gv, 0, none⟩) 1 1]).run Tryz.prog W = .ok (goInt (Nat.min 1 (n + 1 - i))) (W.setCells g (i * 8) y.cellsL) := fun W hWh ty dc =>
    run_copy_items W ty g (i * 8) (n + 1 - i) dc ⟨gv, 0, none⟩ 1 1 y.cellsL (by show 8 = _; simp only [Nat.min_def]; split <;> omega)
      (fun j v hj => by
        have hh : ∀ x, W.cell? x = W1.cell? x := fun x => by simp [World.cell?, hWh]
        rw [Addr.add_lit, hh, hW1, World.cell?_setCells_out g _ _ _ _ (fun h _ => absurd h hne)]
        exact hvc j v hj)
      (fun j hj => by
        have hj8 : j < 8 := hj
        have := (hbk1.there (i * 8 + j) 1 (by omega) 0 (by omega)).1
        rw [show W.cell? ⟨g, i * 8 + j, none⟩ = W1.cell? ⟨g, i * 8 + j, none⟩ by simp [World.cell?, hWh]]
        exact this)
      (fun j hj => by
        have hj8 : j < 8 := hj
        have := (hbk1.there (i * 8 + j) 1 (by omega) 0 (by omega)).2
        rw [show W.frozen? ⟨g, i * 8 + j, none⟩ = W1.frozen? ⟨g, i * 8 + j, none⟩ by simp [World.frozen?, hWh]]
        exact this) h1v
  have hfin : ∀ (W : World), W.heap = W1.heap → Below B w W → NewB (W.setCells g (i * 8) y.cellsL) B c (some ⟨g, 0, none⟩) (insI l i y) ∧ Below B w (W.setCells g (i * 8) y.cellsL) := fun W hWh hbe => by
    have hbkW : BK W g c := by obtain ⟨cu, q⟩ := hbk1; exact ⟨cu, by rw [hWh]; exact q.1, q.2⟩
    refine ⟨.inr ⟨g, rfl, hg, put_in l i y (by omega) (hbkW.store _ _ _) hc ?_ ?_ ?_⟩, below_setCells' hg y.cellsL _ _ hbe⟩
    · refine World.rangeAt_setCells_apart (fun j v hj => ?_) _ _ _ (.inr (.inl (by rw [List.length_take, cellsI_len]; omega)))
      rw [show W.cell? ⟨g, 0 + j, none⟩ = W1.cell? ⟨g, 0 + j, none⟩ by simp [World.cell?, hWh], hW1]
      have hjl := (List.getElem?_eq_some_iff.1 hj).1
      rw [List.length_take, cellsI_len] at hjl
      refine World.rangeAt_setCells_apart (cs := (cellsI l).take (i * 8)) (fun j v hj => ?_) _ _ _ (.inr (.inl (by rw [List.length_take, cellsI_len]; omega))) j v hj
      rw [List.getElem?_take] at hj
      split at hj
      · exact hrg j v hj
      · cases hj
    · exact World.rangeAt_setCells_same _ _ _ _ (hbkW.there _ _ (by show i * 8 + 8 ≤ _; omega))
    · rw [← hcsd]
      refine World.rangeAt_setCells_apart (fun j v hj => ?_) _ _ _ (.inr (.inr (by show i * 8 + 8 ≤ _; omega)))
      rw [show W.cell? ⟨g, (i + 1) * 8 + j, none⟩ = W1.cell? ⟨g, (i + 1) * 8 + j, none⟩ by simp [World.cell?, hWh], hW1]
      exact World.rangeAt_setCells_same _ _ _ _ (by
        have := hth ((i + 1) * 8) cs.length (by omega)
        exact this) j v hj
  have hbe : Below B w W1 := by rw [hW1]; exact below_setCells' hg cs _ _ (Below.refl B w).drew
  rw [← hW1] at hcp1
  have HBE := Lib.hid hbe
  have HFIN := Lib.hid hfin
  have HCP2 := Lib.hid hcp2
  have HW1 := Lib.hid hW1
  clear hfin hbk1 hrg hth hvc hv hN hcs hcur h1c h1v hcp2 hbe hW1
  subst hn
  have hir := info_item
  have mixed : Tryz.prog.follows .mixedOrders = true := by kernel_rfl
  go_enter Tryz.func102, Tryz.ntmps102
  go_wp2_with (simp only [hov])
  go_region_law_o (refine step_copy_runI rfl _ _ 22 22 rfl (.slice (some ⟨g, (i + 1) * 8, none⟩) (l.length - i) (c - (i + 1))) (.slice (some ⟨g, i * 8, none⟩) (l.length + 1 - i) (c - i)) (by simp [Act.eval, Act.put]) (by simp [Act.eval, Act.put]) (hcp1 _ _ _) ?_)
  have hr2 := fun ty => HCP2.out W1 rfl ty (c - i)
  go_wp2_with (simp only [hr2])
  go_ret
  exact ⟨_, c, rfl, HFIN.out _ rfl (by first | exact HBE.out | exact HBE.out.drew)⟩
set_option maxHeartbeats 8000000 in
theorem ins_grow (B : Nat) (g c gv i : Nat) (l : List Itm) (y : Itm) (w : World) (hN : IC w g c l) (hg : B ≤ g) (hi : i < l.length) (hlc : l.length ≤ c) (hc : c < l.length + 1) (hl : l.length ≤ 100000) (hv : w.heap[gv]? = some (.cells y.cells 33 (0, 0))) (hB : B ≤ w.heap.size) :
    Calls Tryz.prog 102 #[.slice (some ⟨g, 0, none⟩) l.length c, .int .i64 i, .slice (some ⟨gv, 0, none⟩) 1 1] w fun e w' => ∃ A' c', e = .returned (.slice A' (l.length + 1) c') ∧ NewB w' B c' A' (insI l i y) ∧ Below B w w' := by
  obtain ⟨n, hn⟩ : ∃ n, n = l.length := ⟨_, rfl⟩
  obtain ⟨i0, hi0, hz0, hzs, hzb⟩ := partsI
  have hrg := range_of_io hN.1
  have hvc : ∀ j u, y.cellsL[j]? = some u → w.cell? ⟨gv, 0 + j, none⟩ = some u := fun j u hj => by
    rw [Nat.zero_add, cell_of_row w gv j y.cells _ (0, 0) hv]
    rw [← itm_cells]
    simpa using hj
  have hgw : g < w.heap.size := hN.1.1
  have hvw : gv < w.heap.size := lt_of_block hv
  obtain ⟨N, hNN⟩ : ∃ N, N = w.heap.size := ⟨_, rfl⟩
  have hz2 : ¬ ((i : Int) = (n : Int)) := by omega
  have hz3 : (c : Int) < (n : Int) + 1 := by omega
  have hw1 : IntKind.i64.wrap ((i : Int) + 1) = (i : Int) + 1 := by rw [IntKind.wrap_i64]; omega
  have hb1 : (0 : Int) ≤ (i : Int) + 1 := by omega
  have hin : i ≤ n := by omega
  have htn : ((i : Int) + 1).toNat = i + 1 := by omega
  have hb3 : (i : Int) ≤ (n : Int) := by omega
  have hci : ¬ (c = i) := by omega
  have hkk : (n : Int) + 1 - (i : Int) = ((n + 1 - i : Nat) : Int) := by omega
  have hik : i + (n + 1 - i) = n + 1 := by omega
  obtain ⟨cs, hcsd⟩ : ∃ cs, cs = (cellsI l).drop (i * 8) := ⟨_, rfl⟩
  obtain ⟨ts, htsd⟩ : ∃ ts, ts = (cellsI l).take (i * 8) := ⟨_, rfl⟩
  have hdl : cs.length = (n - i) * 8 := by rw [hcsd, List.length_drop, cellsI_len, hn]; omega
  have htl : ts.length = i * 8 := by rw [htsd, List.length_take, cellsI_len]; omega
  have hts : ∀ j v, ts[j]? = some v → w.cell? ⟨g, j, none⟩ = some v := fun j v hj => by
    rw [htsd, List.getElem?_take] at hj
    split at hj
    · have := hrg j v hj
      rwa [Nat.zero_add] at this
    · cases hj
  have h1c : ∀ v ∈ cs, v.oneCell' = true := fun v hv => cellsI_one l v (by rw [hcsd] at hv; exact List.mem_of_mem_drop hv)
  have h1v : ∀ v ∈ y.cellsL, v.oneCell' = true := fun u hu => cellsI_one [y] u (by rw [cellsI, cellsI, List.append_nil]; exact hu)
  have hold : (Builtin.firstCells i0.size i (.slice (some ⟨g, 0, none⟩) i c)).run Tryz.prog w.drew = .ok ts.toArray w.drew := by
    rw [hzs]
    exact run_firstCells_some w.drew 8 i ⟨g, 0, none⟩ i c ts htl (fun j v hj => by
      rw [Addr.add_lit, Nat.zero_add]
      exact hts j v hj)
  obtain ⟨G, hG⟩ : ∃ G, G = grownCap w (n + 1) c 33 := ⟨_, rfl⟩
  have hGn : n + 1 ≤ G := by rw [hG]; exact grownCap_ge w _ _ _
  have hGm : G ≤ maxLen := by rw [hG]; exact grownCap_le_maxLen w (n + 1) c 33 (by unfold maxLen; omega)
  obtain ⟨ROW, hROW⟩ : ∃ ROW : Array Value, ROW = ts.toArray ++ Builtin.zeroCells (Value.cells (.agg #[.string ⟨#[]⟩, .int .i64 0, .int .u32 0, .int .u32 0, .int .u32 0, .int .i64 0, .int .i64 0, .string ⟨#[]⟩])) (n + 1 - i) ++ Builtin.zeroCells (Value.cells (.agg #[.string ⟨#[]⟩, .int .i64 0, .int .u32 0, .int .u32 0, .int .u32 0, .int .i64 0, .int .i64 0, .string ⟨#[]⟩])) (G - (n + 1)) := ⟨_, rfl⟩
  have hRs : ROW.size = G * 8 := by
    rw [hROW]
    simp only [Array.size_append, size_zeroCells, List.size_toArray, htl]
    show i * 8 + (n + 1 - i) * 8 + (G - (n + 1)) * 8 = G * 8
    omega
  obtain ⟨W1, hW1⟩ : ∃ W1, W1 = w.drew.alloc (.cells ROW 33) := ⟨_, rfl⟩
  have hrz : ∀ ty, (Builtin.append_ #[22, 3] ty #[.slice (some ⟨g, 0, none⟩) i c, .int .i64 ((n : Int) + 1 - (i : Int))]).run Tryz.prog w = .ok (.slice (some ⟨N, 0, none⟩) (n + 1) G) W1 := fun ty => by
    have h := Lib.run_append_grow_zeros w 22 3 ty 33 i0 _ .i64 .i64 Tryz.underlying22 Tryz.underlying3 hi0 hz0 (some ⟨g, 0, none⟩) i c ts hold (n + 1 - i) (by omega) (by omega) (by omega) (by omega) (by rw [hzb]; omega) (by rw [hzb, hik]; exact growslice_fits (by omega) (by omega))
    rw [hik] at h
    rw [hkk, hNN, hW1, hROW, hG]
    exact h
  have hbk1 : BK W1 N G := by rw [hW1, hNN]; exact ⟨ROW, heap_alloc_new w.drew _, hRs, hGm⟩
  have hOb : ∀ b j v, b < w.heap.size → w.cell? ⟨b, j, none⟩ = some v → W1.cell? ⟨b, j, none⟩ = some v := fun b j v hb h => by rw [hW1, World.cell?_alloc_past (w := w.drew) _ b j hb]; exact h
  have hcpA : ∀ ty dc, (Builtin.copy_ #[22, 22] ty #[.slice (some ⟨N, i * 8, none⟩) (n + 1 - i) dc, .slice (some ⟨gv, 0, none⟩) 1 1]).run Tryz.prog W1 = .ok (goInt (Nat.min 1 (n + 1 - i))) (W1.setCells N (i * 8) y.cellsL) := fun ty dc =>
    run_copy_items W1 ty N (i * 8) (n + 1 - i) dc ⟨gv, 0, none⟩ 1 1 y.cellsL (by show 8 = _; simp only [Nat.min_def]; split <;> omega)
      (fun j v hj => by rw [Addr.add_lit]; exact hOb _ _ v hvw (hvc j v hj))
      (fun j hj => by
        have hj8 : j < 8 := hj
        exact (hbk1.there (i * 8 + j) 1 (by omega) 0 (by omega)).1)
      (fun j hj => by
        have hj8 : j < 8 := hj
        exact (hbk1.there (i * 8 + j) 1 (by omega) 0 (by omega)).2) h1v
  obtain ⟨W2, hW2⟩ : ∃ W2, W2 = W1.setCells N (i * 8) y.cellsL := ⟨_, rfl⟩
  rw [← hW2] at hcpA
  have hbk2 : BK W2 N G := by rw [hW2]; exact hbk1.store _ _ _
  have hgN : g ≠ N := by omega
  have hcpB : ∀ ty dc sc, (Builtin.copy_ #[22, 22] ty #[.slice (some ⟨N, (i + 1) * 8, none⟩) (n - i) dc, .slice (some ⟨g, i * 8, none⟩) (n - i) sc]).run Tryz.prog W2.drew = .ok (goInt (Nat.min (n - i) (n - i))) (W2.drew.setCells N ((i + 1) * 8) cs) := fun ty dc sc =>
    run_copy_items W2.drew ty N ((i + 1) * 8) (n - i) dc ⟨g, i * 8, none⟩ (n - i) sc cs (by rw [hdl]; simp only [Nat.min_def]; split <;> omega)
      (fun j v hj => by
        rw [hcsd, List.getElem?_drop] at hj
        have h := hrg _ v hj
        rw [Nat.zero_add] at h
        rw [Addr.add_lit]
        show W2.cell? _ = _
        rw [hW2, World.cell?_setCells_out _ _ _ _ _ (fun h _ => absurd h hgN)]
        exact hOb g _ v hgw h)
      (fun j hj => (hbk2.there ((i + 1) * 8 + j) 1 (by omega) 0 (by omega)).1)
      (fun j hj => (hbk2.there ((i + 1) * 8 + j) 1 (by omega) 0 (by omega)).2) h1c
  obtain ⟨W3, hW3⟩ : ∃ W3, W3 = W2.drew.setCells N ((i + 1) * 8) cs := ⟨_, rfl⟩
  rw [← hW3] at hcpB
  have hfin : NewB W3 B G (some ⟨N, 0, none⟩) (insI l i y) ∧ Below B w W3 := by
    have hbk3 : BK W3 N G := by rw [hW3]; exact BK.store _ _ W2.drew hbk2
    have hb1 : Below B w W1 := by rw [hW1]; exact (Below.refl B w).drew.alloc hB _
    have hb2 : Below B w W2 := by rw [hW2]; exact below_setCells' (by omega) _ _ _ hb1
    refine ⟨.inr ⟨N, rfl, by omega, put_in l i y (by omega) hbk3 (by omega) ?_ ?_ ?_⟩, by rw [hW3]; exact below_setCells' (by omega) _ _ _ hb2.drew⟩
    · rw [← htsd, hW3]
      refine World.rangeAt_setCells_apart (w := W2.drew) (fun j v hj => ?_) _ _ _ (.inr (.inl (by omega)))
      show W2.cell? _ = _
      rw [hW2]
      refine World.rangeAt_setCells_apart (w := W1) (cs := ts) (fun j v hj => ?_) _ _ _ (.inr (.inl (by omega))) j v hj
      rw [hW1, hNN, Nat.zero_add, World.cell?_alloc_at (w := w.drew) ROW _ w.heap.size j rfl, hROW]
      have hjl : j < ts.length := (List.getElem?_eq_some_iff.1 hj).1
      rw [Array.append_assoc, Array.getElem?_append_left (by simpa using hjl)]
      simpa using hj
    · rw [hW3]
      refine World.rangeAt_setCells_apart (w := W2.drew) (fun j v hj => ?_) _ _ _ (.inr (.inl (by show i * 8 + 8 ≤ _; omega)))
      show W2.cell? _ = _
      rw [hW2]
      exact World.rangeAt_setCells_same _ _ _ _ (hbk1.there _ _ (by show i * 8 + 8 ≤ _; omega)) j v hj
    · rw [← hcsd, hW3]
      exact World.rangeAt_setCells_same _ _ _ _ (BK.there (w := W2.drew) hbk2 _ _ (by omega))
  have hGi : ¬ (G = i) := by omega
  have hGim : ¬ (G = i + 1) := by omega
  have HFIN := Lib.hid hfin
  clear hfin hbk1 hbk2 hrg hvc hv hN h1c h1v hts hold hOb hW1 hW2 hW3 hROW hRs hG htsd htl hcsd hdl hkk hik hz0 hzs hzb hi0 hgN hNN
  subst hn
  have hir := info_item
  have mixed : Tryz.prog.follows .mixedOrders = true := by kernel_rfl
  go_enter Tryz.func102, Tryz.ntmps102
  go_wp2_with (first
    | (at_builtin; refine Lib.wpList_append_run _ rfl _ _ _ _ rfl _ _ rfl rfl _ _ (hrz _) ?_)
    | simp only [hcpA])
  go_region_law_o (refine step_copy_runI rfl _ _ 22 22 rfl (.slice (some ⟨N, (i + 1) * 8, none⟩) (l.length - i) (G - (i + 1))) (.slice (some ⟨g, i * 8, none⟩) (l.length - i) (c - i)) (by simp [Act.eval, Act.put]) (by simp [Act.eval, Act.put]) (hcpB _ _ _) ?_)
  go_wp2_with fail
  go_ret
  exact ⟨_, G, rfl, HFIN.out⟩
theorem insert_any (B : Nat) (A : Option Addr) (c gv i : Nat) (l : List Itm) (y : Itm) (w : World) (hN : NewB w B c A l) (hc : l.length ≤ c) (hi : i ≤ l.length) (hl : l.length ≤ 100000) (hv : w.heap[gv]? = some (.cells y.cells 33 (0, 0))) (hne : ∀ g, A = some ⟨g, 0, none⟩ → gv ≠ g) (hB : B ≤ w.heap.size) :
    Calls Tryz.prog 102 #[.slice A l.length c, .int .i64 i, .slice (some ⟨gv, 0, none⟩) 1 1] w fun e w' => ∃ A' c', e = .returned (.slice A' (l.length + 1) c') ∧ NewB w' B c' A' (insI l i y) ∧ Below B w w' := by
  by_cases h : i = l.length
  · subst h
    exact ins_end B A c gv l y w hN hc hl hv hB
  · rcases hN with ⟨rfl, _⟩ | ⟨g, rfl, hg, hic⟩
    · have : i ≤ 0 := hi
      have : i ≠ 0 := h
      omega
    · by_cases h2 : l.length + 1 ≤ c
      · exact ins_shift B g c gv i l y w hic hg (by omega) h2 hl hv (hne g rfl) hB
      · exact ins_grow B g c gv i l y w hic hg (by omega) hc (by omega) hl hv hB
end Go.Proofs.YtpkhpaklhfomkaaGreatDoor
