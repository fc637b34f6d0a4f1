/-
  Trees: slices.Insert of one item: what is in memory.
  Trees: slices.Insert of one item.
  Trees: Put.
  Trees: what is put is found; what was dropped isn't there; of a right tree what is dropped leaves a right one.
-/
import Derived.Test.YtpkhpaklhfomkaaGreatDoorTpB
import Derived.Shelf.Spec.SlicesInsertGrow
import Derived.Test.YtpkhpaklhfomkaaGreatDoorTpC
import Derived.Test.YtpkhpaklhfomkaaGreatDoorPkJ

namespace Go.Proofs.YtpkhpaklhfomkaaGreatDoor
set_option maxRecDepth 100000
set_option linter.unusedSimpArgs false
set_option linter.unusedVariables false
open Go.RowKit Go.Joins Go.Deep
open Go.Lib hiding intOf
theorem run_copy_items (w : World) (ty : TypeId) (b o dLen dCap : Nat) (a : Addr) (sLen sCap : Nat) (cs : List Value)
    (hn : cs.length = Nat.min sLen dLen * 8)
    (hsrc : ∀ j v, cs[j]? = some v → w.cell? (a.add j) = some v) (hc : ∀ j, j < cs.length → (w.cell? ⟨b, o + j, none⟩).isSome = true) (hf : ∀ j, j < cs.length → w.frozen? ⟨b, o + j, none⟩ = false) (h1 : ∀ v ∈ cs, v.oneCell' = true) :
    (Builtin.copy_ #[22, 22] ty #[.slice (some ⟨b, o, none⟩) dLen dCap, .slice (some a) sLen sCap]).run Tryz.prog w = .ok (goInt (Nat.min sLen dLen)) (w.setCells b o cs) := by
  have hl := run_loadCells_list (P := Tryz.prog) w a cs hsrc
  have hst := run_storeCells_cells (P := Tryz.prog) b o cs 0 w (by simpa using hc) (by simpa using hf) h1
  have hs := info_item
  cases hq : Tryz.prog.info? 33 with
  | none => simp [hq] at hs
  | some i =>
    have hi : i.size = 8 := by simpa [hq] using hs
    simp [Builtin.copy_, run_underlying Tryz.underlying22, Builtin.lenOf, Builtin.firstCells, sizeOf, typeInfo, hq, hi, ← hn, hl, hst]
theorem BK.there {w : World} {g c : Nat} (h : BK w g c) (o n : Nat) (ho : o + n ≤ c * 8) : w.there g o n := fun j hj => by
  obtain ⟨cur, h1, h2, _⟩ := h
  refine ⟨?_, frozen_of_row w g _ cur _ h1⟩
  rw [cell_of_row w g _ cur _ (0, 0) h1, Array.getElem?_eq_getElem (by omega)]
  rfl
theorem range_of_io {w : World} {g : Nat} {l : List Itm} (h : IO w g l) : w.rangeAt g 0 (cellsI l) := fun j v hj => by
  have hjl : j < l.length * 8 := by rw [← cellsI_len]; exact (List.getElem?_eq_some_iff.1 hj).1
  have hk : j / 8 < l.length := by omega
  have hr := (h.2 (j / 8) l[j / 8] (List.getElem?_eq_getElem hk)).1
  have hm : j % 8 < (l[j / 8]).cellsL.length := Nat.mod_lt _ (by decide)
  have hg := cellsI_get l (j / 8) l[j / 8] (List.getElem?_eq_getElem hk) (j % 8) _ (List.getElem?_eq_getElem hm)
  rw [show j / 8 * 8 + j % 8 = j by omega, hj] at hg
  injection hg with hg
  subst hg
  have h := hr (j % 8) _ (List.getElem?_eq_getElem hm)
  rw [show j / 8 * 8 + j % 8 = 0 + j by omega] at h
  exact h
theorem io_of_range {w : World} {g : Nat} {l : List Itm} (hlt : g < w.heap.size) (h : w.rangeAt g 0 (cellsI l)) (ht : w.there g 0 (l.length * 8)) : IO w g l :=
  ⟨hlt, fun k x hx => by
    have hk : k < l.length := (List.getElem?_eq_some_iff.1 hx).1
    refine ⟨fun j v hv => ?_, fun j hj => ?_⟩
    · have := h (k * 8 + j) v (cellsI_get l k x hx j v hv)
      rwa [Nat.zero_add] at this
    · have := ht (k * 8 + j) (by omega)
      rwa [Nat.zero_add] at this⟩
theorem range_app {w : World} {g o : Nat} {a b : List Value} (h1 : w.rangeAt g o a) (h2 : w.rangeAt g (o + a.length) b) : w.rangeAt g o (a ++ b) := fun j v hj => by
  by_cases hlt : j < a.length
  · rw [List.getElem?_append_left hlt] at hj
    exact h1 j v hj
  · rw [List.getElem?_append_right (by omega)] at hj
    have := h2 _ v hj
    rwa [show o + a.length + (j - a.length) = o + j by omega] at this
theorem cellsI_take : ∀ (l : List Itm) (i : Nat), i ≤ l.length → cellsI (l.take i) = (cellsI l).take (i * 8)
  | l, i, h => by
    have e : cellsI l = cellsI (l.take i) ++ cellsI (l.drop i) := by rw [← cellsI_app, List.take_append_drop]
    rw [e, List.take_left' (by rw [cellsI_len, List.length_take, Nat.min_eq_left h])]
theorem cellsI_drop : ∀ (l : List Itm) (i : Nat), i ≤ l.length → cellsI (l.drop i) = (cellsI l).drop (i * 8)
  | l, i, h => by
    have e : cellsI l = cellsI (l.take i) ++ cellsI (l.drop i) := by rw [← cellsI_app, List.take_append_drop]
    rw [e, List.drop_left' (by rw [cellsI_len, List.length_take, Nat.min_eq_left h])]
/-- With an item put in. -/
def insI (l : List Itm) (i : Nat) (y : Itm) : List Itm := l.take i ++ y :: l.drop i
theorem insI_len (l : List Itm) (i : Nat) (y : Itm) (h : i ≤ l.length) : (insI l i y).length = l.length + 1 := by
  unfold insI
  rw [List.length_append, List.length_cons, List.length_take, List.length_drop, Nat.min_eq_left h]
  omega
theorem insI_cells (l : List Itm) (i : Nat) (y : Itm) (h : i ≤ l.length) : cellsI (insI l i y) = (cellsI l).take (i * 8) ++ (y.cellsL ++ (cellsI l).drop (i * 8)) := by
  unfold insI
  rw [cellsI_app, cellsI, cellsI_take l i h, cellsI_drop l i h]
theorem put_in {w : World} {g c : Nat} (l : List Itm) (i : Nat) (y : Itm) (h : i ≤ l.length) (hbk : BK w g c) (hc : l.length + 1 ≤ c)
    (h1 : w.rangeAt g 0 ((cellsI l).take (i * 8))) (h2 : w.rangeAt g (i * 8) y.cellsL) (h3 : w.rangeAt g ((i + 1) * 8) ((cellsI l).drop (i * 8))) : IC w g c (insI l i y) := by
  have hlt : g < w.heap.size := by obtain ⟨cur, h1, _⟩ := hbk; exact lt_of_block h1
  refine ⟨io_of_range hlt ?_ (hbk.there _ _ (by rw [insI_len l i y h]; omega)), hbk⟩
  rw [insI_cells l i y h]
  have e : ((cellsI l).take (i * 8)).length = i * 8 := by rw [List.length_take, cellsI_len]; omega
  have e8 : y.cellsL.length = 8 := rfl
  refine range_app h1 (range_app ?_ ?_)
  · rw [e, Nat.zero_add]; exact h2
  · rw [e, e8, Nat.zero_add, show i * 8 + 8 = (i + 1) * 8 by omega]; exact h3
theorem own_of {w : World} {B c : Nat} {A : Option Addr} {l : List Itm} (h : NewB w B c A l) (hc : l.length ≤ c) : w.ownsRow B 33 8 (.slice A l.length c) l.length (cellsI l) := by
  rcases h with ⟨rfl, rfl, rfl⟩ | ⟨g, rfl, hg, hio, hbk⟩
  · exact World.ownsRow_nil w B 33 8
  · have hr := range_of_io hio
    obtain ⟨cur, h1, h2, h3⟩ := hbk
    refine ⟨cellsI_len l, .inr ⟨g, c, cur, rfl, hg, h1, hc, h3, h2, ?_⟩⟩
    refine List.ext_getElem? fun j => ?_
    by_cases hj : j < l.length * 8
    · rw [List.getElem?_take, if_pos hj]
      have hjl : j < (cellsI l).length := by rw [cellsI_len]; exact hj
      have h := hr j _ (List.getElem?_eq_getElem hjl)
      rw [Nat.zero_add, cell_of_row w g j cur _ (0, 0) h1] at h
      rw [List.getElem?_eq_getElem hjl, ← h]
      simp
    · rw [List.getElem?_eq_none (by rw [List.length_take]; omega), List.getElem?_eq_none (by rw [cellsI_len]; omega)]
theorem nb_of_own {w : World} {B : Nat} {l : List Itm} (v : Value) (hn : 0 < l.length) (h : w.ownsRow B 33 8 v l.length (cellsI l)) : ∃ A' c', v = .slice A' l.length c' ∧ NewB w B c' A' l := by
  rcases h.2 with ⟨_, h0⟩ | ⟨g, c', cur, rfl, hg, _⟩
  · omega
  · exact ⟨_, c', rfl, .inr ⟨g, rfl, hg, ic_of_own h⟩⟩
end Go.Proofs.YtpkhpaklhfomkaaGreatDoor

namespace Go.Proofs.YtpkhpaklhfomkaaGreatDoor
set_option maxRecDepth 100000
set_option linter.unusedSimpArgs false
set_option linter.unusedVariables false
open Go.RowKit Go.Joins Go.Deep
open Go.Lib hiding intOf
set_option maxHeartbeats 4000000 in
theorem ins_end (B : Nat) (A : Option Addr) (c gv : Nat) (l : List Itm) (y : Itm) (w : World) (hN : NewB w B c A l) (hc : l.length ≤ c) (hl : l.length ≤ 100000) (hv : w.heap[gv]? = some (.cells y.cells 33 (0, 0))) (hB : B ≤ w.heap.size) :
    Calls Tryz.prog 102 #[.slice A l.length c, .int .i64 l.length, .slice (some ⟨gv, 0, none⟩) 1 1] w fun e w' => ∃ A' c', e = .returned (.slice A' (l.length + 1) c') ∧ NewB w' B c' A' (insI l l.length y) ∧ Below B w w' := by
  obtain ⟨i0, hi, hz0, hz1, hz2⟩ := partsI
  have hown := own_of hN hc
  have HN := Lib.hid hN
  have hci : (l.length : Int) ≤ (c : Int) := by omega
  have hvc : ∀ j u, y.cellsL[j]? = some u → w.cell? ((⟨gv, 0, none⟩ : Addr).add j) = some u := fun j u hj => by
    rw [Addr.add_lit, Nat.zero_add, cell_of_row w gv j y.cells _ (0, 0) hv]
    rw [← itm_cells]
    simpa using hj
  clear hN hv
  by_cases hcn : c = l.length
  · subst hcn
    go_enter Tryz.func102, Tryz.ntmps102
    go_wp2_with (at_builtin; refine wpList_append_own _ rfl _ _ 22 rfl B 33 i0 (.agg #[.string ⟨#[]⟩, .int .i64 0, .int .u32 0, .int .u32 0, .int .u32 0, .int .i64 0, .int .i64 0, .string ⟨#[]⟩]) 8 72 Tryz.underlying22 hi hz0 hz1 hz2 rfl (by decide) _ _ _ rfl hown ⟨gv, 0, none⟩ 1 1 y.cellsL rfl ?qc1 ?qc2 ?qc3 ?qc4 ?qc5 ?qc6 ?_)
    case qc1 => rfl
    case qc2 => exact hvc
    case qc3 =>
      intro u hu
      exact cellsI_one [y] u (by rw [cellsI, cellsI, List.append_nil]; exact hu)
    case qc4 => unfold maxLen; omega
    case qc5 => omega
    case qc6 => exact hB
    intro v' w1 hown1 hgrow hnil
    go_wp2_with fail
    go_ret
    have e : cellsI (insI l l.length y) = cellsI l ++ y.cellsL := by
      rw [insI_cells l _ y (Nat.le_refl _), List.take_of_length_le (by rw [cellsI_len]; exact Nat.le_refl _), List.drop_of_length_le (by rw [cellsI_len]; exact Nat.le_refl _), List.append_nil]
    have el := insI_len l l.length y (Nat.le_refl _)
    rw [← e, ← el] at hown1
    obtain ⟨A', c', rfl, hnb⟩ := nb_of_own v' (by omega) hown1
    rw [el]
    exact ⟨A', c', rfl, hnb, (Below.refl B w).grown hgrow hB (fun k hk => (hown.lt k hk).1)⟩
  · go_enter Tryz.func102, Tryz.ntmps102
    go_wp2_with (at_builtin; refine wpList_append_own _ rfl _ _ 22 rfl B 33 i0 (.agg #[.string ⟨#[]⟩, .int .i64 0, .int .u32 0, .int .u32 0, .int .u32 0, .int .i64 0, .int .i64 0, .string ⟨#[]⟩]) 8 72 Tryz.underlying22 hi hz0 hz1 hz2 rfl (by decide) _ _ _ rfl hown ⟨gv, 0, none⟩ 1 1 y.cellsL rfl ?qc1 ?qc2 ?qc3 ?qc4 ?qc5 ?qc6 ?_)
    case qc1 => rfl
    case qc2 => exact hvc
    case qc3 =>
      intro u hu
      exact cellsI_one [y] u (by rw [cellsI, cellsI, List.append_nil]; exact hu)
    case qc4 => unfold maxLen; omega
    case qc5 => omega
    case qc6 => exact hB
    intro v' w1 hown1 hgrow hnil
    go_wp2_with fail
    go_ret
    have e : cellsI (insI l l.length y) = cellsI l ++ y.cellsL := by
      rw [insI_cells l _ y (Nat.le_refl _), List.take_of_length_le (by rw [cellsI_len]; exact Nat.le_refl _), List.drop_of_length_le (by rw [cellsI_len]; exact Nat.le_refl _), List.append_nil]
    have el := insI_len l l.length y (Nat.le_refl _)
    rw [← e, ← el] at hown1
    obtain ⟨A', c', rfl, hnb⟩ := nb_of_own v' (by omega) hown1
    rw [el]
    exact ⟨A', c', rfl, hnb, (Below.refl B w).grown hgrow hB (fun k hk => (hown.lt k hk).1)⟩
set_option maxHeartbeats 8000000 in
theorem ins_shift (B : Nat) (g c gv i : Nat) (l : List Itm) (y : Itm) (w : World) (hN : IC w g c l) (hg : B ≤ g) (hi : i < l.length) (hc : l.length + 1 ≤ c) (hl : l.length ≤ 100000) (hv : w.heap[gv]? = some (.cells y.cells 33 (0, 0))) (hne : gv ≠ g) (hB : B ≤ w.heap.size) :
    Calls Tryz.prog 102 #[.slice (some ⟨g, 0, none⟩) l.length c, .int .i64 i, .slice (some ⟨gv, 0, none⟩) 1 1] w fun e w' => ∃ A' c', e = .returned (.slice A' (l.length + 1) c') ∧ NewB w' B c' A' (insI l i y) ∧ Below B w w' := by
  obtain ⟨n, hn⟩ : ∃ n, n = l.length := ⟨_, rfl⟩
  have hc63 : c ≤ 9223372036854775807 := by obtain ⟨cur, _, _, h⟩ := hN.2; unfold maxLen at h; omega
  have hrg := range_of_io hN.1
  have hth := fun (o m : Nat) (h : o + m ≤ c * 8) => hN.2.there o m h
  have hvc : ∀ j u, y.cellsL[j]? = some u → w.cell? ⟨gv, 0 + j, none⟩ = some u := fun j u hj => by
    rw [Nat.zero_add, cell_of_row w gv j y.cells _ (0, 0) hv]
    rw [← itm_cells]
    simpa using hj
  have hsz8 : ∀ w, (Go.sizeOf 33).run Tryz.prog w = .ok 8 w := fun w => by
    obtain ⟨i0, hi0, _, h1, _⟩ := partsI
    simp [sizeOf, typeInfo, hi0, h1]
  obtain ⟨cur, hcur, hcs, _⟩ := hN.2
  have hov : ∀ lb cb, (callFunc 142 #[.slice (some ⟨gv, 0, none⟩) 1 1, .slice (some ⟨g, (i + 1) * 8, none⟩) lb cb]).run Tryz.prog w = .ok (.value (.bool false)) w := fun lb cb => by
    rw [run_callFunc_extern Tryz.func142 (by kernel_rfl) (by kernel_rfl) (by kernel_rfl) (e := Extern.SlicesOverlaps.overlaps #[22, 22] #[4]) (by kernel_rfl),
      Lib.run_overlaps_apart w 22 4 33 Tryz.underlying22 8 hsz8 ⟨gv, 0, none⟩ ⟨g, (i + 1) * 8, none⟩ 1 1 lb cb hne 33 33 8 cur.size (by simp [World.shape?, hv, Itm.cells]) (by simp [World.shape?, hcur]) (by omega) (frozen_of_row w gv 0 _ _ hv) (frozen_of_row w gv 8 _ _ hv)]
    rfl
  have hz2 : ¬ ((i : Int) = (n : Int)) := by omega
  have hw1 : IntKind.i64.wrap ((i : Int) + 1) = (i : Int) + 1 := by rw [IntKind.wrap_i64]; omega
  have hb1 : (0 : Int) ≤ (i : Int) + 1 := by omega
  have hin : i ≤ n := by omega
  have htn : ((i : Int) + 1).toNat = i + 1 := by omega
  have htn2 : ((n : Int) + 1).toNat = n + 1 := by omega
  have hb2 : ¬ (c = i + 1) := by omega
  have hb3 : (i : Int) ≤ (n : Int) + 1 := by omega
  have hb4 : ¬ (c = i) := by omega
  obtain ⟨cs, hcsd⟩ : ∃ cs, cs = (cellsI l).drop (i * 8) := ⟨_, rfl⟩
  have hdl : cs.length = (n - i) * 8 := by rw [hcsd, List.length_drop, cellsI_len, hn]; omega
  have h1c : ∀ v ∈ cs, v.oneCell' = true := fun v hv => cellsI_one l v (by rw [hcsd] at hv; exact List.mem_of_mem_drop hv)
  have h1v : ∀ v ∈ y.cellsL, v.oneCell' = true := fun u hu => cellsI_one [y] u (by rw [cellsI, cellsI, List.append_nil]; exact hu)
  have hcp1 : ∀ ty dc sc, (Builtin.copy_ #[22, 22] ty #[.slice (some ⟨g, (i + 1) * 8, none⟩) (n - i) dc, .slice (some ⟨g, i * 8, none⟩) (n + 1 - i) sc]).run Tryz.prog w.drew = .ok (goInt (Nat.min (n + 1 - i) (n - i))) (w.drew.setCells g ((i + 1) * 8) cs) := fun ty dc sc =>
    run_copy_items w.drew ty g ((i + 1) * 8) (n - i) dc ⟨g, i * 8, none⟩ (n + 1 - i) sc cs (by rw [hdl]; simp only [Nat.min_def]; split <;> omega)
      (fun j v hj => by
        rw [hcsd, List.getElem?_drop] at hj
        have := hrg _ v hj
        rw [Addr.add_lit]
        rwa [Nat.zero_add] at this)
      (fun j hj => (hth ((i + 1) * 8 + j) 1 (by omega) 0 (by omega)).1) (fun j hj => (hth ((i + 1) * 8 + j) 1 (by omega) 0 (by omega)).2) h1c
  obtain ⟨W1, hW1⟩ : ∃ W1, W1 = w.drew.setCells g ((i + 1) * 8) cs := ⟨_, rfl⟩
  have hbk1 : BK W1 g c := by rw [hW1]; exact BK.store cs _ w.drew hN.2
  have hcp2 : ∀ (W : World), W.heap = W1.heap → ∀ ty dc, (Builtin.copy_ #[22, 22] ty #[.slice (some ⟨g, i * 8, none⟩) (n + 1 - i) dc, .slice (some ⟨gv, 0, none⟩) 1 1]).run Tryz.prog W = .ok (goInt (Nat.min 1 (n + 1 - i))) (W.setCells g (i * 8) y.cellsL) := fun W hWh ty dc =>
    run_copy_items W ty g (i * 8) (n + 1 - i) dc ⟨gv, 0, none⟩ 1 1 y.cellsL (by show 8 = _; simp only [Nat.min_def]; split <;> omega)
      (fun j v hj => by
        have hh : ∀ x, W.cell? x = W1.cell? x := fun x => by simp [World.cell?, hWh]
        rw [Addr.add_lit, hh, hW1, World.cell?_setCells_out g _ _ _ _ (fun h _ => absurd h hne)]
        exact hvc j v hj)
      (fun j hj => by
        have hj8 : j < 8 := hj
        have := (hbk1.there (i * 8 + j) 1 (by omega) 0 (by omega)).1
        rw [show W.cell? ⟨g, i * 8 + j, none⟩ = W1.cell? ⟨g, i * 8 + j, none⟩ by simp [World.cell?, hWh]]
        exact this)
      (fun j hj => by
        have hj8 : j < 8 := hj
        have := (hbk1.there (i * 8 + j) 1 (by omega) 0 (by omega)).2
        rw [show W.frozen? ⟨g, i * 8 + j, none⟩ = W1.frozen? ⟨g, i * 8 + j, none⟩ by simp [World.frozen?, hWh]]
        exact this) h1v
  have hfin : ∀ (W : World), W.heap = W1.heap → Below B w W → NewB (W.setCells g (i * 8) y.cellsL) B c (some ⟨g, 0, none⟩) (insI l i y) ∧ Below B w (W.setCells g (i * 8) y.cellsL) := fun W hWh hbe => by
    have hbkW : BK W g c := by obtain ⟨cu, q⟩ := hbk1; exact ⟨cu, by rw [hWh]; exact q.1, q.2⟩
    refine ⟨.inr ⟨g, rfl, hg, put_in l i y (by omega) (hbkW.store _ _ _) hc ?_ ?_ ?_⟩, below_setCells' hg y.cellsL _ _ hbe⟩
    · refine World.rangeAt_setCells_apart (fun j v hj => ?_) _ _ _ (.inr (.inl (by rw [List.length_take, cellsI_len]; omega)))
      rw [show W.cell? ⟨g, 0 + j, none⟩ = W1.cell? ⟨g, 0 + j, none⟩ by simp [World.cell?, hWh], hW1]
      have hjl := (List.getElem?_eq_some_iff.1 hj).1
      rw [List.length_take, cellsI_len] at hjl
      refine World.rangeAt_setCells_apart (cs := (cellsI l).take (i * 8)) (fun j v hj => ?_) _ _ _ (.inr (.inl (by rw [List.length_take, cellsI_len]; omega))) j v hj
      rw [List.getElem?_take] at hj
      split at hj
      · exact hrg j v hj
      · cases hj
    · exact World.rangeAt_setCells_same _ _ _ _ (hbkW.there _ _ (by show i * 8 + 8 ≤ _; omega))
    · rw [← hcsd]
      refine World.rangeAt_setCells_apart (fun j v hj => ?_) _ _ _ (.inr (.inr (by show i * 8 + 8 ≤ _; omega)))
      rw [show W.cell? ⟨g, (i + 1) * 8 + j, none⟩ = W1.cell? ⟨g, (i + 1) * 8 + j, none⟩ by simp [World.cell?, hWh], hW1]
      exact World.rangeAt_setCells_same _ _ _ _ (by
        have := hth ((i + 1) * 8) cs.length (by omega)
        exact this) j v hj
  have hbe : Below B w W1 := by rw [hW1]; exact below_setCells' hg cs _ _ (Below.refl B w).drew
  rw [← hW1] at hcp1
  have HBE := Lib.hid hbe
  have HFIN := Lib.hid hfin
  have HCP2 := Lib.hid hcp2
  have HW1 := Lib.hid hW1
  clear hfin hbk1 hrg hth hvc hv hN hcs hcur h1c h1v hcp2 hbe hW1
  subst hn
  have hir := info_item
  have mixed : Tryz.prog.follows .mixedOrders = true := by kernel_rfl
  go_enter Tryz.func102, Tryz.ntmps102
  go_wp2_with (simp only [hov])
  go_region_law_o (refine step_copy_runI rfl _ _ 22 22 rfl (.slice (some ⟨g, (i + 1) * 8, none⟩) (l.length - i) (c - (i + 1))) (.slice (some ⟨g, i * 8, none⟩) (l.length + 1 - i) (c - i)) (by simp [Act.eval, Act.put]) (by simp [Act.eval, Act.put]) (hcp1 _ _ _) ?_)
  have hr2 := fun ty => HCP2.out W1 rfl ty (c - i)
  go_wp2_with (simp only [hr2])
  go_ret
  exact ⟨_, c, rfl, HFIN.out _ rfl (by first | exact HBE.out | exact HBE.out.drew)⟩
set_option maxHeartbeats 8000000 in
theorem ins_grow (B : Nat) (g c gv i : Nat) (l : List Itm) (y : Itm) (w : World) (hN : IC w g c l) (hg : B ≤ g) (hi : i < l.length) (hlc : l.length ≤ c) (hc : c < l.length + 1) (hl : l.length ≤ 100000) (hv : w.heap[gv]? = some (.cells y.cells 33 (0, 0))) (hB : B ≤ w.heap.size) :
    Calls Tryz.prog 102 #[.slice (some ⟨g, 0, none⟩) l.length c, .int .i64 i, .slice (some ⟨gv, 0, none⟩) 1 1] w fun e w' => ∃ A' c', e = .returned (.slice A' (l.length + 1) c') ∧ NewB w' B c' A' (insI l i y) ∧ Below B w w' := by
  obtain ⟨n, hn⟩ : ∃ n, n = l.length := ⟨_, rfl⟩
  obtain ⟨i0, hi0, hz0, hzs, hzb⟩ := partsI
  have hrg := range_of_io hN.1
  have hvc : ∀ j u, y.cellsL[j]? = some u → w.cell? ⟨gv, 0 + j, none⟩ = some u := fun j u hj => by
    rw [Nat.zero_add, cell_of_row w gv j y.cells _ (0, 0) hv]
    rw [← itm_cells]
    simpa using hj
  have hgw : g < w.heap.size := hN.1.1
  have hvw : gv < w.heap.size := lt_of_block hv
  obtain ⟨N, hNN⟩ : ∃ N, N = w.heap.size := ⟨_, rfl⟩
  have hz2 : ¬ ((i : Int) = (n : Int)) := by omega
  have hz3 : (c : Int) < (n : Int) + 1 := by omega
  have hw1 : IntKind.i64.wrap ((i : Int) + 1) = (i : Int) + 1 := by rw [IntKind.wrap_i64]; omega
  have hb1 : (0 : Int) ≤ (i : Int) + 1 := by omega
  have hin : i ≤ n := by omega
  have htn : ((i : Int) + 1).toNat = i + 1 := by omega
  have hb3 : (i : Int) ≤ (n : Int) := by omega
  have hci : ¬ (c = i) := by omega
  have hkk : (n : Int) + 1 - (i : Int) = ((n + 1 - i : Nat) : Int) := by omega
  have hik : i + (n + 1 - i) = n + 1 := by omega
  obtain ⟨cs, hcsd⟩ : ∃ cs, cs = (cellsI l).drop (i * 8) := ⟨_, rfl⟩
  obtain ⟨ts, htsd⟩ : ∃ ts, ts = (cellsI l).take (i * 8) := ⟨_, rfl⟩
  have hdl : cs.length = (n - i) * 8 := by rw [hcsd, List.length_drop, cellsI_len, hn]; omega
  have htl : ts.length = i * 8 := by rw [htsd, List.length_take, cellsI_len]; omega
  have hts : ∀ j v, ts[j]? = some v → w.cell? ⟨g, j, none⟩ = some v := fun j v hj => by
    rw [htsd, List.getElem?_take] at hj
    split at hj
    · have := hrg j v hj
      rwa [Nat.zero_add] at this
    · cases hj
  have h1c : ∀ v ∈ cs, v.oneCell' = true := fun v hv => cellsI_one l v (by rw [hcsd] at hv; exact List.mem_of_mem_drop hv)
  have h1v : ∀ v ∈ y.cellsL, v.oneCell' = true := fun u hu => cellsI_one [y] u (by rw [cellsI, cellsI, List.append_nil]; exact hu)
  have hold : (Builtin.firstCells i0.size i (.slice (some ⟨g, 0, none⟩) i c)).run Tryz.prog w.drew = .ok ts.toArray w.drew := by
    rw [hzs]
    exact run_firstCells_some w.drew 8 i ⟨g, 0, none⟩ i c ts htl (fun j v hj => by
      rw [Addr.add_lit, Nat.zero_add]
      exact hts j v hj)
  obtain ⟨G, hG⟩ : ∃ G, G = grownCap w (n + 1) c 33 := ⟨_, rfl⟩
  have hGn : n + 1 ≤ G := by rw [hG]; exact grownCap_ge w _ _ _
  have hGm : G ≤ maxLen := by rw [hG]; exact grownCap_le_maxLen w (n + 1) c 33 (by unfold maxLen; omega)
  obtain ⟨ROW, hROW⟩ : ∃ ROW : Array Value, ROW = ts.toArray ++ Builtin.zeroCells (Value.cells (.agg #[.string ⟨#[]⟩, .int .i64 0, .int .u32 0, .int .u32 0, .int .u32 0, .int .i64 0, .int .i64 0, .string ⟨#[]⟩])) (n + 1 - i) ++ Builtin.zeroCells (Value.cells (.agg #[.string ⟨#[]⟩, .int .i64 0, .int .u32 0, .int .u32 0, .int .u32 0, .int .i64 0, .int .i64 0, .string ⟨#[]⟩])) (G - (n + 1)) := ⟨_, rfl⟩
  have hRs : ROW.size = G * 8 := by
    rw [hROW]
    simp only [Array.size_append, size_zeroCells, List.size_toArray, htl]
    show i * 8 + (n + 1 - i) * 8 + (G - (n + 1)) * 8 = G * 8
    omega
  obtain ⟨W1, hW1⟩ : ∃ W1, W1 = w.drew.alloc (.cells ROW 33) := ⟨_, rfl⟩
  have hrz : ∀ ty, (Builtin.append_ #[22, 3] ty #[.slice (some ⟨g, 0, none⟩) i c, .int .i64 ((n : Int) + 1 - (i : Int))]).run Tryz.prog w = .ok (.slice (some ⟨N, 0, none⟩) (n + 1) G) W1 := fun ty => by
    have h := Lib.run_append_grow_zeros w 22 3 ty 33 i0 _ .i64 .i64 Tryz.underlying22 Tryz.underlying3 hi0 hz0 (some ⟨g, 0, none⟩) i c ts hold (n + 1 - i) (by omega) (by omega) (by omega) (by omega) (by rw [hzb]; omega) (by rw [hzb, hik]; exact growslice_fits (by omega) (by omega))
    rw [hik] at h
    rw [hkk, hNN, hW1, hROW, hG]
    exact h
  have hbk1 : BK W1 N G := by rw [hW1, hNN]; exact ⟨ROW, heap_alloc_new w.drew _, hRs, hGm⟩
  have hOb : ∀ b j v, b < w.heap.size → w.cell? ⟨b, j, none⟩ = some v → W1.cell? ⟨b, j, none⟩ = some v := fun b j v hb h => by rw [hW1, World.cell?_alloc_past (w := w.drew) _ b j hb]; exact h
  have hcpA : ∀ ty dc, (Builtin.copy_ #[22, 22] ty #[.slice (some ⟨N, i * 8, none⟩) (n + 1 - i) dc, .slice (some ⟨gv, 0, none⟩) 1 1]).run Tryz.prog W1 = .ok (goInt (Nat.min 1 (n + 1 - i))) (W1.setCells N (i * 8) y.cellsL) := fun ty dc =>
    run_copy_items W1 ty N (i * 8) (n + 1 - i) dc ⟨gv, 0, none⟩ 1 1 y.cellsL (by show 8 = _; simp only [Nat.min_def]; split <;> omega)
      (fun j v hj => by rw [Addr.add_lit]; exact hOb _ _ v hvw (hvc j v hj))
      (fun j hj => by
        have hj8 : j < 8 := hj
        exact (hbk1.there (i * 8 + j) 1 (by omega) 0 (by omega)).1)
      (fun j hj => by
        have hj8 : j < 8 := hj
        exact (hbk1.there (i * 8 + j) 1 (by omega) 0 (by omega)).2) h1v
  obtain ⟨W2, hW2⟩ : ∃ W2, W2 = W1.setCells N (i * 8) y.cellsL := ⟨_, rfl⟩
  rw [← hW2] at hcpA
  have hbk2 : BK W2 N G := by rw [hW2]; exact hbk1.store _ _ _
  have hgN : g ≠ N := by omega
  have hcpB : ∀ ty dc sc, (Builtin.copy_ #[22, 22] ty #[.slice (some ⟨N, (i + 1) * 8, none⟩) (n - i) dc, .slice (some ⟨g, i * 8, none⟩) (n - i) sc]).run Tryz.prog W2.drew = .ok (goInt (Nat.min (n - i) (n - i))) (W2.drew.setCells N ((i + 1) * 8) cs) := fun ty dc sc =>
    run_copy_items W2.drew ty N ((i + 1) * 8) (n - i) dc ⟨g, i * 8, none⟩ (n - i) sc cs (by rw [hdl]; simp only [Nat.min_def]; split <;> omega)
      (fun j v hj => by
        rw [hcsd, List.getElem?_drop] at hj
        have h := hrg _ v hj
        rw [Nat.zero_add] at h
        rw [Addr.add_lit]
        show W2.cell? _ = _
        rw [hW2, World.cell?_setCells_out _ _ _ _ _ (fun h _ => absurd h hgN)]
        exact hOb g _ v hgw h)
      (fun j hj => (hbk2.there ((i + 1) * 8 + j) 1 (by omega) 0 (by omega)).1)
      (fun j hj => (hbk2.there ((i + 1) * 8 + j) 1 (by omega) 0 (by omega)).2) h1c
  obtain ⟨W3, hW3⟩ : ∃ W3, W3 = W2.drew.setCells N ((i + 1) * 8) cs := ⟨_, rfl⟩
  rw [← hW3] at hcpB
  have hfin : NewB W3 B G (some ⟨N, 0, none⟩) (insI l i y) ∧ Below B w W3 := by
    have hbk3 : BK W3 N G := by rw [hW3]; exact BK.store _ _ W2.drew hbk2
    have hb1 : Below B w W1 := by rw [hW1]; exact (Below.refl B w).drew.alloc hB _
    have hb2 : Below B w W2 := by rw [hW2]; exact below_setCells' (by omega) _ _ _ hb1
    refine ⟨.inr ⟨N, rfl, by omega, put_in l i y (by omega) hbk3 (by omega) ?_ ?_ ?_⟩, by rw [hW3]; exact below_setCells' (by omega) _ _ _ hb2.drew⟩
    · rw [← htsd, hW3]
      refine World.rangeAt_setCells_apart (w := W2.drew) (fun j v hj => ?_) _ _ _ (.inr (.inl (by omega)))
      show W2.cell? _ = _
      rw [hW2]
      refine World.rangeAt_setCells_apart (w := W1) (cs := ts) (fun j v hj => ?_) _ _ _ (.inr (.inl (by omega))) j v hj
      rw [hW1, hNN, Nat.zero_add, World.cell?_alloc_at (w := w.drew) ROW _ w.heap.size j rfl, hROW]
      have hjl : j < ts.length := (List.getElem?_eq_some_iff.1 hj).1
      rw [Array.append_assoc, Array.getElem?_append_left (by simpa using hjl)]
      simpa using hj
    · rw [hW3]
      refine World.rangeAt_setCells_apart (w := W2.drew) (fun j v hj => ?_) _ _ _ (.inr (.inl (by show i * 8 + 8 ≤ _; omega)))
      show W2.cell? _ = _
      rw [hW2]
      exact World.rangeAt_setCells_same _ _ _ _ (hbk1.there _ _ (by show i * 8 + 8 ≤ _; omega)) j v hj
    · rw [← hcsd, hW3]
      exact World.rangeAt_setCells_same _ _ _ _ (BK.there (w := W2.drew) hbk2 _ _ (by omega))
  have hGi : ¬ (G = i) := by omega
  have hGim : ¬ (G = i + 1) := by omega
  have HFIN := Lib.hid hfin
  clear hfin hbk1 hbk2 hrg hvc hv hN h1c h1v hts hold hOb hW1 hW2 hW3 hROW hRs hG htsd htl hcsd hdl hkk hik hz0 hzs hzb hi0 hgN hNN
  subst hn
  have hir := info_item
  have mixed : Tryz.prog.follows .mixedOrders = true := by kernel_rfl
  go_enter Tryz.func102, Tryz.ntmps102
  go_wp2_with (first
    | (at_builtin; refine Lib.wpList_append_run _ rfl _ _ _ _ rfl _ _ rfl rfl _ _ (hrz _) ?_)
    | simp only [hcpA])
  go_region_law_o (refine step_copy_runI rfl _ _ 22 22 rfl (.slice (some ⟨N, (i + 1) * 8, none⟩) (l.length - i) (G - (i + 1))) (.slice (some ⟨g, i * 8, none⟩) (l.length - i) (c - i)) (by simp [Act.eval, Act.put]) (by simp [Act.eval, Act.put]) (hcpB _ _ _) ?_)
  go_wp2_with fail
  go_ret
  exact ⟨_, G, rfl, HFIN.out⟩
theorem insert_any (B : Nat) (A : Option Addr) (c gv i : Nat) (l : List Itm) (y : Itm) (w : World) (hN : NewB w B c A l) (hc : l.length ≤ c) (hi : i ≤ l.length) (hl : l.length ≤ 100000) (hv : w.heap[gv]? = some (.cells y.cells 33 (0, 0))) (hne : ∀ g, A = some ⟨g, 0, none⟩ → gv ≠ g) (hB : B ≤ w.heap.size) :
    Calls Tryz.prog 102 #[.slice A l.length c, .int .i64 i, .slice (some ⟨gv, 0, none⟩) 1 1] w fun e w' => ∃ A' c', e = .returned (.slice A' (l.length + 1) c') ∧ NewB w' B c' A' (insI l i y) ∧ Below B w w' := by
  by_cases h : i = l.length
  · subst h
    exact ins_end B A c gv l y w hN hc hl hv hB
  · rcases hN with ⟨rfl, _⟩ | ⟨g, rfl, hg, hic⟩
    · have : i ≤ 0 := hi
      have : i ≠ 0 := h
      omega
    · by_cases h2 : l.length + 1 ≤ c
      · exact ins_shift B g c gv i l y w hic hg (by omega) h2 hl hv (hne g rfl) hB
      · exact ins_grow B g c gv i l y w hic hg (by omega) hc (by omega) hl hv hB
end Go.Proofs.YtpkhpaklhfomkaaGreatDoor

namespace Go.Proofs.YtpkhpaklhfomkaaGreatDoor
set_option maxRecDepth 100000
set_option linter.unusedSimpArgs false
set_option linter.unusedVariables false
open Go.RowKit Go.Joins Go.Deep
open Go.Lib hiding intOf
set_option maxHeartbeats 4000000 in
theorem put2_any (X : Itm) (p : ByteArray) (g : Nat) (w : World) (hp : BxS w g p) (hX : X.s.size ≤ 1000000) : Calls Tryz.prog 101 #[.agg X.cells, .pointer (some ⟨g, 0, none⟩)] w fun e w' => e = .returned (.bool (decide (0 < ordT X.s p))) ∧ Below w.heap.size w w' := by
  have hir := info_item
  have hb1 := (Below.refl w.heap.size w).alloc (Nat.le_refl _) (.cells X.cells 33)
  have hx1 := heap_alloc_new w (.cells X.cells 33)
  have c0 := (hp.below hb1).2
  have HC := Lib.hid (fun w => order_any X.s p w (by omega))
  have HB := Lib.hid hb1
  obtain ⟨x0, x1, x2, x3, x4, x5, x6, x7⟩ := X
  simp only [Itm.cells] at hx1 HB c0
  dsimp only at HC
  have z0 := (cell_of_row _ _ 0 _ _ _ hx1).trans (show _ = some (Value.string x0) from rfl)
  simp only [Itm.cells]
  clear hb1 hx1 hp hX
  generalize ordT x0 p = v at *
  go_enter Tryz.func101, Tryz.ntmps101
  go_upto_region 1 with fail
  generalize hgg : w.heap.size = gx at *
  generalize w.alloc (.cells #[.string x0, .int .i64 x1, .int .u32 x2, .int .u32 x3, .int .u32 x4, .int .i64 x5, .int .i64 x6, .string x7] 33) = w2 at *
  go_wp2_with fail
  refine (HC.out w2).mono ?_; rintro e w3 ⟨rfl, d, rfl⟩
  go_wp2_with fail
  go_ret
  exact ⟨rfl, by subst hgg; exact below_drewN HB.out d⟩
/-- What Put leaves. -/
def putR (l : List Itm) (p : ByteArray) : List Itm := l.filter (fun X => !(X.s.toList == p.toList))
def putQ (p : ByteArray) (X : Itm) : Bool := decide (0 < ordT X.s p)
def putL (l : List Itm) (y : Itm) : List Itm := insI (putR l y.s) ((putR l y.s).findIdx (putQ y.s)) y
theorem idx_of {α : Type} (q : α → Bool) (l : List α) (k : Nat) (h : k < l.length) (h1 : q l[k] = true) (h2 : (l.take k).any q = false) : l.findIdx q = k := by
  refine (List.findIdx_eq h).2 ⟨h1, fun j hj => ?_⟩
  have := List.any_eq_false.1 h2 l[j] (List.mem_take_iff_getElem.2 ⟨j, by omega, rfl⟩)
  simpa using this
theorem idx_none {α : Type} (q : α → Bool) (l : List α) (h : l.any q = false) : l.findIdx q = l.length := by
  refine List.findIdx_eq_length.2 fun x hx => ?_
  have := List.any_eq_false.1 h x hx
  simpa using this
theorem NewB.lt {w : World} {B c : Nat} {A : Option Addr} {l : List Itm} (h : NewB w B c A l) (g : Nat) (e : A = some ⟨g, 0, none⟩) : g < w.heap.size := by
  rcases h with ⟨_, rfl, _⟩ | ⟨g2, rfl, _, h⟩
  · cases e
  · injection e with e
    injection e with e
    subst e
    exact h.1.1
set_option maxHeartbeats 8000000 in
theorem tput_any (A : Option Addr) (c : Nat) (l : List Itm) (y : Itm) (w : World) (hR : Itms w A l) (hl : l.length ≤ 1000) (hs : ∀ x ∈ l, x.s.size ≤ 1000000) :
    Calls Tryz.prog 74 #[.slice A l.length c, .string y.s, .agg y.node] w fun e w' => ∃ A' c', e = .returned (.slice A' (putL l y).length c') ∧ NewB w' w.heap.size c' A' (putL l y) ∧ Below w.heap.size w w' := by
  have hpl : (putL l y).length = (putR l y.s).length + 1 := insI_len _ _ _ List.findIdx_le_length
  have hrl : (putR l y.s).length ≤ l.length := List.length_filter_le _ _
  have hrs : ∀ x ∈ putR l y.s, x.s.size ≤ 1000000 := fun x hx => hs x (List.mem_filter.1 hx).1
  obtain ⟨W1, hW1⟩ : ∃ W1, W1 = w.alloc (.cells #[.string y.s] 9) := ⟨_, rfl⟩
  obtain ⟨W2, hW2⟩ : ∃ W2, W2 = W1.alloc (.cells y.node 31) := ⟨_, rfl⟩
  have hb1 := (Below.refl w.heap.size w).alloc (Nat.le_refl _) (.cells #[.string y.s] 9)
  have hx1 := heap_alloc_new w (.cells #[.string y.s] 9)
  have hs1 : (w.alloc (.cells #[.string y.s] 9)).heap.size = w.heap.size + 1 := by simp only [World.alloc, Array.size_push]
  rw [← hW1] at hb1 hx1 hs1
  have hb2 := (Below.refl W1.heap.size W1).alloc (Nat.le_refl _) (.cells y.node 31)
  have hx2 := heap_alloc_new W1 (.cells y.node 31)
  have hs2 : (W1.alloc (.cells y.node 31)).heap.size = W1.heap.size + 1 := by simp only [World.alloc, Array.size_push]
  rw [← hW2] at hb2 hx2 hs2
  have hbx1 : BxS W2 w.heap.size y.s := BxS.below (w := W1) ⟨by omega, (cell_of_row _ _ 0 _ _ _ hx1).trans rfl⟩ hb2
  have hC := withoutP_any A c l y.s w.heap.size W2 ((hR.below hb1).below hb2) (by omega) hbx1
  have hb12 : Below w.heap.size w W2 := hb1.trans (hb2.mono (by omega))
  have HC : Hid (Calls Tryz.prog 99 #[.slice A l.length c, .func (.func 100) #[] #[.pointer (some ⟨w.heap.size, 0, none⟩)]] W2 fun e w' => ∃ A' c', e = .returned (.slice A' (putR l y.s).length c') ∧ (putR l y.s).length ≤ c' ∧ NewB w' W2.heap.size c' A' (putR l y.s) ∧ Below W2.heap.size W2 w') := hC
  rw [show W1.heap.size = w.heap.size + 1 from hs1] at hx2
  have HX2 := Lib.hid hx2
  have HBX := Lib.hid hbx1
  have HB2 := Lib.hid hb12
  have HS2 : Hid (W2.heap.size = w.heap.size + 2) := by show _ = _; omega
  have HPL := Lib.hid hpl
  have HRS := Lib.hid hrs
  have HW : Hid ((w.alloc (.cells #[.string y.s] 9)).alloc (.cells y.node 31) = W2) := by show _ = _; rw [hW2, hW1]
  have HP : Hid (putL l y = insI (putR l y.s) ((putR l y.s).findIdx (putQ y.s)) y) := rfl
  generalize putL l y = P at *
  generalize putR l y.s = L at *
  have hL : L.length ≤ 1000 := by omega
  clear hpl hrl hrs hW1 hW2 hb1 hx1 hs1 hb2 hx2 hs2 hbx1 hC hb12 hR hs
  obtain ⟨y0, y1, y2, y3, y4, y5, y6, y7⟩ := y
  simp only [Itm.node] at HX2 HW ⊢
  dsimp only at HC HBX HP HW
  have hir := info_item
  have hinod := info_nodeT
  go_enter Tryz.func74, Tryz.ntmps74
  go_upto_region 1 with fail
  rw [HW.out]
  generalize hgg : w.heap.size = gx at *
  clear W1
  go_wp2_with fail
  refine HC.out.mono ?_; rintro e w3 ⟨A1, c1, rfl, hlc, hN, hb3⟩
  have HN := Lib.hid hN
  have HB3 := Lib.hid hb3
  have HI := Lib.hid (indexP_any (fun w1 => Below W2.heap.size W2 w1) (fun w1 w2 h k => below_then h k) (putQ y0) L A1 c1 gx w3 (by omega) (fun x hx w4 hb4 => put2_any x y0 gx w4 (HBX.out.below hb4) (HRS.out x hx)) hb3 hN.itms)
  clear hN hb3 HC
  go_wp2_with fail
  refine HI.out.mono ?_; rintro e w4 ⟨hb4, hcase⟩
  have HB4 := Lib.hid (below_then HB3.out hb4)
  have HN4 := Lib.hid (HN.out.below hb4)
  have HIX : Hid (∃ i : Nat, i = L.findIdx (putQ y0) ∧ i ≤ L.length ∧ (e = .returned (.int .i64 (-1)) ∧ i = L.length ∨ e = .returned (.int .i64 i))) := by
    rcases hcase with ⟨rfl, h⟩ | ⟨k, hk, rfl, h1, h2⟩
    · exact ⟨L.length, (idx_none _ _ h).symm, Nat.le_refl _, .inl ⟨rfl, rfl⟩⟩
    · exact ⟨k, (idx_of _ _ k hk h1 h2).symm, Nat.le_of_lt hk, .inr rfl⟩
  clear hb4 hcase HB3 HN HI
  obtain ⟨i, hi, hil, hcase⟩ := HIX.out
  have HIE := Lib.hid hi
  have hxn : w4.heap[gx + 1]? = _ := (HB4.out.block (gx + 1) (by have := HS2.out; omega)).trans HX2.out
  have hxs : w4.cell? ⟨gx, 0, none⟩ = _ := (HBX.out.below HB4.out).2
  have HXN := Lib.hid hxn
  clear hi HIX HX2 HBX hxn
  rcases hcase with ⟨rfl, hil2⟩ | rfl
  · subst hil2
    have hneg : decide ((-1 : Int) < 0) = true := rfl
    go_wp2_with (refine wpList_load_row rfl 31 (.tmp 5) rfl (gx + 1) rfl 31 _ (0, 0) _ HXN.out Tryz.underlying31 rfl info_nodeT ?_)
    obtain ⟨w5, hw5⟩ : ∃ w5, w5 = w4.alloc (.cells #[.string y0, .int .i64 y1, .int .u32 y2, .int .u32 y3, .int .u32 y4, .int .i64 y5, .int .i64 y6, .string y7] 33) := ⟨_, rfl⟩
    have hb5 : Below w4.heap.size w4 w5 := by rw [hw5]; exact below_al w4 _
    have hv5 : w5.heap[w4.heap.size]? = some (.cells #[.string y0, .int .i64 y1, .int .u32 y2, .int .u32 y3, .int .u32 y4, .int .i64 y5, .int .i64 y6, .string y7] 33 (0, 0)) := by rw [hw5]; exact heap_alloc_new w4 _
    rw [← hw5]
    have HINS := Lib.hid (insert_any W2.heap.size A1 c1 w4.heap.size L.length L ⟨y0, y1, y2, y3, y4, y5, y6, y7⟩ w5 (HN4.out.below hb5) hlc (Nat.le_refl _) (by omega) hv5 (fun g e => by have := HN4.out.lt g e; omega) (Nat.le_trans HB4.out.size hb5.size))
    have HB5 := Lib.hid (below_then HB4.out hb5)
    rw [← HIE.out] at HP
    clear hw5 hb5 hv5 HN4 HB4 HXN HRS
    refine HINS.out.mono ?_; rintro e w6 ⟨A2, c2, rfl, hN6, hb6⟩
    have HN6 := Lib.hid hN6
    have HB6 := Lib.hid (HB5.out.trans hb6)
    clear hN6 hb6 HINS HB5
    go_wp2_with fail
    go_ret
    refine ⟨A2, c2, by rw [HPL.out]; rfl, ?_, ?_⟩
    · rw [HP.out]
      rcases HN6.out with h | ⟨g1, e, hg1, hic⟩
      · exact .inl h
      · exact .inr ⟨g1, e, by have := HS2.out; omega, hic⟩
    · subst hgg
      exact HB2.out.trans (HB6.out.mono (by have := HS2.out; omega))
  · have hneg : decide ((i : Int) < 0) = false := decide_eq_false (by omega)
    go_wp2_with (refine wpList_load_row rfl 31 (.tmp 5) rfl (gx + 1) rfl 31 _ (0, 0) _ HXN.out Tryz.underlying31 rfl info_nodeT ?_)
    obtain ⟨w5, hw5⟩ : ∃ w5, w5 = w4.alloc (.cells #[.string y0, .int .i64 y1, .int .u32 y2, .int .u32 y3, .int .u32 y4, .int .i64 y5, .int .i64 y6, .string y7] 33) := ⟨_, rfl⟩
    have hb5 : Below w4.heap.size w4 w5 := by rw [hw5]; exact below_al w4 _
    have hv5 : w5.heap[w4.heap.size]? = some (.cells #[.string y0, .int .i64 y1, .int .u32 y2, .int .u32 y3, .int .u32 y4, .int .i64 y5, .int .i64 y6, .string y7] 33 (0, 0)) := by rw [hw5]; exact heap_alloc_new w4 _
    rw [← hw5]
    have HINS := Lib.hid (insert_any W2.heap.size A1 c1 w4.heap.size i L ⟨y0, y1, y2, y3, y4, y5, y6, y7⟩ w5 (HN4.out.below hb5) hlc hil (by omega) hv5 (fun g e => by have := HN4.out.lt g e; omega) (Nat.le_trans HB4.out.size hb5.size))
    have HB5 := Lib.hid (below_then HB4.out hb5)
    rw [← HIE.out] at HP
    clear hw5 hb5 hv5 HN4 HB4 HXN HRS
    refine HINS.out.mono ?_; rintro e w6 ⟨A2, c2, rfl, hN6, hb6⟩
    have HN6 := Lib.hid hN6
    have HB6 := Lib.hid (HB5.out.trans hb6)
    clear hN6 hb6 HINS HB5
    go_wp2_with fail
    go_ret
    refine ⟨A2, c2, by rw [HPL.out]; rfl, ?_, ?_⟩
    · rw [HP.out]
      rcases HN6.out with h | ⟨g1, e, hg1, hic⟩
      · exact .inl h
      · exact .inr ⟨g1, e, by have := HS2.out; omega, hic⟩
    · subst hgg
      exact HB2.out.trans (HB6.out.mono (by have := HS2.out; omega))
end Go.Proofs.YtpkhpaklhfomkaaGreatDoor

namespace Go.Proofs.YtpkhpaklhfomkaaGreatDoor
set_option maxRecDepth 100000
set_option linter.unusedSimpArgs false
set_option linter.unusedVariables false
open Go.RowKit Go.Joins Go.Deep
open Go.Lib hiding intOf
theorem toList_inj' {a b : ByteArray} (h : a.toList = b.toList) : a = b := by
  rw [Lib.toList_data, Lib.toList_data] at h
  exact ByteArray.ext (Array.toList_inj.1 h)
theorem find_put (l : List Itm) (y : Itm) : (putL l y).find? (fun X => X.s.toList == y.s.toList) = some y := by
  unfold putL insI
  rw [List.find?_append]
  have h0 : ∀ m : List Itm, (∀ x ∈ m, x ∈ putR l y.s) → m.find? (fun X => X.s.toList == y.s.toList) = none := fun m hm => List.find?_eq_none.2 fun x hx => by
    have := (List.mem_filter.1 (hm x hx)).2
    simpa using this
  rw [h0 _ fun x hx => List.mem_of_mem_take hx, Option.none_or, List.find?_cons]
  simp
theorem find_drop (l : List Itm) (p : ByteArray) : (drpL p l).find? (fun X => X.s.toList == p.toList) = none := List.find?_eq_none.2 fun x hx h => by
  have h1 := (List.mem_filter.1 hx).2
  have h2 := toList_inj' (eq_of_beq h)
  rw [h2, und_self] at h1
  cases h1
/-- What is under a path's parent is under what that is under. -/
theorem und_par (s p : ByteArray) (hne : (parB s).toList.isEmpty = false) (h : undB (parB s) p = true) : undB s p = true := by
  rcases last_cases s with ⟨h0, _⟩ | ⟨k, hk, h47, hpar, hnum, _⟩
  · rw [Lib.toList_data] at hne
    have : (parB s).data.toList = [] := List.eq_nil_of_length_eq_zero h0
    rw [this] at hne
    cases hne
  · have hs : ∃ t, s.data.toList = (parB s).data.toList ++ 47 :: t := by
      refine ⟨(baseB s).data.toList, ?_⟩
      have inj : ∀ a b : List UInt8, a.map UInt8.toNat = b.map UInt8.toNat → a = b := fun a b h => (List.map_inj_right (fun x y h => UInt8.toNat_inj.1 h)).1 h
      refine inj _ _ ?_
      rw [List.map_append, List.map_cons]
      exact hnum
    obtain ⟨t, hs⟩ := hs
    unfold undB at h ⊢
    rw [hs]
    generalize (parB s).data.toList = a at *
    generalize p.data.toList = r at *
    rw [Bool.and_eq_true] at h
    obtain ⟨h1, h2⟩ := h
    obtain ⟨u, rfl⟩ := List.isPrefixOf_iff_prefix.1 (show r.isPrefixOf a = true from h1)
    have hp1 : Lib.hasPrefix (r ++ u) r = true := h1
    have hp2 : Lib.hasPrefix (r ++ u ++ 47 :: t) r = true := by unfold Lib.hasPrefix; exact List.isPrefixOf_iff_prefix.2 ⟨u ++ 47 :: t, by rw [List.append_assoc]⟩
    unfold Lib.trimPrefix at h2 ⊢
    rw [if_pos hp1] at h2
    rw [if_pos hp2, hp2]
    rw [List.append_assoc, List.drop_left']
    rw [List.drop_left'] at h2
    cases u with
    | nil => simp [Lib.hasPrefix]
    | cons x u =>
      simp [Lib.hasPrefix] at h2 ⊢
      rcases h2 with h2 | h2
      · exact .inl h2
      · exact .inr h2
    all_goals rfl
/-- A right tree's rows. -/
theorem rgt_row {l : List Itm} (h : rgtI l = true) (k : Nat) (hk : k < l.length) : sndL l[k] = true ∧ (∀ j, k = j + 1 → ordT (atI l j).s l[k].s < 0) ∧ kndL l (parB l[k].s) = 1 := by
  have h1 := List.all_eq_true.1 h k (List.mem_range.2 hk)
  have e : atI l k = l[k] := by show l[k]?.getD default = _; rw [List.getElem?_eq_getElem hk]; rfl
  unfold rowI at h1
  rw [e, Bool.and_eq_true, Bool.and_eq_true] at h1
  obtain ⟨⟨h1, h2⟩, h3⟩ := h1
  refine ⟨h1, fun j hj => ?_, eq_of_beq h3⟩
  subst hj
  unfold ordI at h2
  rw [e, decide_eq_false (by omega : ¬ (j + 1 = 0)), Bool.false_or] at h2
  exact of_decide_eq_true h2
theorem ordT_trans {a b c : ByteArray} (h1 : ordT a b < 0) (h2 : ordT b c < 0) : ordT a c < 0 := by
  unfold ordT at *
  have t1 := ordL_trans (nums a) (nums b) (nums c) (by omega) (by omega)
  rcases Int.lt_or_eq_of_le t1 with h | h
  · exact h
  · have h3 := (ordL_zero (nums a) (nums c)).1 h
    rw [h3] at h1
    have := ordL_neg (nums b) (nums c)
    omega
theorem rgt_pw {l : List Itm} (h : rgtI l = true) : l.Pairwise (fun a b => ordT a.s b.s < 0) := by
  refine List.pairwise_iff_getElem.2 fun i j hi hj hij => ?_
  obtain ⟨d, rfl⟩ : ∃ d, j = i + 1 + d := ⟨j - i - 1, by omega⟩
  clear hij
  induction d with
  | zero =>
    have := (rgt_row h (i + 1) hj).2.1 i rfl
    have e : atI l i = l[i] := by show l[i]?.getD default = _; rw [List.getElem?_eq_getElem hi]; rfl
    rw [e] at this
    exact this
  | succ d ih =>
    have hj2 : i + 1 + d < l.length := by omega
    have h1 := ih hj2
    have h2 := (rgt_row h (i + 1 + (d + 1)) hj).2.1 (i + 1 + d) (by omega)
    have e : atI l (i + 1 + d) = l[i + 1 + d] := by show l[i + 1 + d]?.getD default = _; rw [List.getElem?_eq_getElem hj2]; rfl
    rw [e] at h2
    exact ordT_trans h1 h2
theorem rgt_of {l : List Itm} (h1 : ∀ x ∈ l, sndL x = true ∧ kndL l (parB x.s) = 1) (h2 : l.Pairwise (fun a b => ordT a.s b.s < 0)) : rgtI l = true := by
  refine List.all_eq_true.2 fun k hk => ?_
  have hk := List.mem_range.1 hk
  have e : atI l k = l[k] := by show l[k]?.getD default = _; rw [List.getElem?_eq_getElem hk]; rfl
  obtain ⟨a, b⟩ := h1 l[k] (List.getElem_mem hk)
  unfold rowI
  rw [e, a, b]
  have : ordI l k = true := by
    unfold ordI
    cases k with
    | zero => rfl
    | succ j =>
      have e2 : atI l j = l[j] := by show l[j]?.getD default = _; rw [List.getElem?_eq_getElem (by omega)]; rfl
      rw [e, Nat.add_sub_cancel, e2]
      have := List.pairwise_iff_getElem.1 h2 j (j + 1) (by omega) hk (by omega)
      rw [decide_eq_true this]
      simp
  rw [this]
  rfl
theorem rgt_drop {l : List Itm} (p : ByteArray) (h : rgtI l = true) : rgtI (drpL p l) = true := by
  refine rgt_of (fun x hx => ?_) ((rgt_pw h).sublist List.filter_sublist)
  obtain ⟨hxl, hxu⟩ := List.mem_filter.1 hx
  obtain ⟨k, hk, rfl⟩ := List.getElem_of_mem hxl
  obtain ⟨h1, _, h3⟩ := rgt_row h k hk
  refine ⟨h1, ?_⟩
  have hxu : undB l[k].s p = false := by simpa using hxu
  unfold kndL at h3 ⊢
  by_cases h0 : (parB l[k].s).toList.isEmpty = true
  · rw [if_pos h0]
  · rw [if_neg h0] at h3 ⊢
    have hpu : undB (parB l[k].s) p = false := by
      rcases Bool.eq_false_or_eq_true (undB (parB l[k].s) p) with e | e
      · rw [und_par _ _ (Bool.eq_false_iff.2 h0) e] at hxu
        cases hxu
      · exact e
    have hf : (drpL p l).find? (fun X => X.s.toList == (parB l[k].s).toList) = l.find? (fun X => X.s.toList == (parB l[k].s).toList) := by
      unfold drpL
      rw [List.find?_filter]
      congr 1
      funext X
      by_cases e : (X.s.toList == (parB l[k].s).toList) = true
      · have e2 := toList_inj' (eq_of_beq e)
        rw [e, e2, hpu]
        rfl
      · rw [Bool.eq_false_iff.2 e]
        simp
    rw [hf]
    exact h3
theorem dat_drop {l : List Itm} (p : ByteArray) (h : l.any datL = false) : (drpL p l).any datL = false := by
  rw [List.any_eq_false] at h ⊢
  exact fun x hx => h x (List.mem_filter.1 hx).1
end Go.Proofs.YtpkhpaklhfomkaaGreatDoor
