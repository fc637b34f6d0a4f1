/-
  Trees: Put.
  Trees: what is put is found; what was dropped isn't there; of a right tree what is dropped leaves a right one.
  A stable sort, by mathematics: lists of places, what was moved, what is sorted, what is exchanged.
  A stable sort of items: the row by places, what compares.
-/
import Derived.Test.YtmeapijckncoeaaGreatDoorPkAD
import Derived.Test.YtmeapijckncoeaaGreatDoorPkAJ
import Derived.Test.YtmeapijckncoeaaGreatDoorPkAA
import Derived.BigQuiet
import Derived.Deep.RegionHeld3
import Derived.Deep.Cut
import Derived.Deep.CutBlock

namespace Go.Proofs.YtmeapijckncoeaaGreatDoor
set_option maxRecDepth 100000
set_option linter.unusedSimpArgs false
set_option linter.unusedVariables false
open Go.RowKit Go.Joins Go.Deep
open Go.Lib hiding intOf
set_option maxHeartbeats 4000000 in
theorem put2_any (X : Itm) (p : ByteArray) (g : Nat) (w : World) (hp : BxS w g p) (hX : X.s.size ≤ 1000000) : Calls Tryz.prog 38 #[.agg X.cells, .pointer (some ⟨g, 0, none⟩)] w fun e w' => e = .returned (.bool (decide (0 < ordT X.s p))) ∧ Below w.heap.size w w' := by
  have hir := info_item
  have hb1 := (Below.refl w.heap.size w).alloc (Nat.le_refl _) (.cells X.cells 42)
  have hx1 := heap_alloc_new w (.cells X.cells 42)
  have c0 := (hp.below hb1).2
  have HC := Lib.hid (fun w => order_any X.s p w (by omega))
  have HB := Lib.hid hb1
  obtain ⟨x0, x1, x2, x3, x4, x5, x6, x7⟩ := X
  simp only [Itm.cells] at hx1 HB c0
  dsimp only at HC
  have z0 := (cell_of_row _ _ 0 _ _ _ hx1).trans (show _ = some (Value.string x0) from rfl)
  simp only [Itm.cells]
  clear hb1 hx1 hp hX
  generalize ordT x0 p = v at *
  go_enter Tryz.func38, Tryz.ntmps38
  go_upto_region 1 with fail
  generalize hgg : w.heap.size = gx at *
  generalize w.alloc (.cells #[.string x0, .int .i64 x1, .int .u32 x2, .int .u32 x3, .int .u32 x4, .int .i64 x5, .int .i64 x6, .string x7] 42) = w2 at *
  go_wp2_with fail
  refine (HC.out w2).mono ?_; rintro e w3 ⟨rfl, d, rfl⟩
  go_wp2_with fail
  go_ret
  exact ⟨rfl, by subst hgg; exact below_drewN HB.out d⟩
/-- What Put leaves. -/
def putR (l : List Itm) (p : ByteArray) : List Itm := l.filter (fun X => !(X.s.toList == p.toList))
def putQ (p : ByteArray) (X : Itm) : Bool := decide (0 < ordT X.s p)
def putL (l : List Itm) (y : Itm) : List Itm := insI (putR l y.s) ((putR l y.s).findIdx (putQ y.s)) y
theorem idx_of {α : Type} (q : α → Bool) (l : List α) (k : Nat) (h : k < l.length) (h1 : q l[k] = true) (h2 : (l.take k).any q = false) : l.findIdx q = k := by
  refine (List.findIdx_eq h).2 ⟨h1, fun j hj => ?_⟩
  have := List.any_eq_false.1 h2 l[j] (List.mem_take_iff_getElem.2 ⟨j, by omega, rfl⟩)
  simpa using this
theorem idx_none {α : Type} (q : α → Bool) (l : List α) (h : l.any q = false) : l.findIdx q = l.length := by
  refine List.findIdx_eq_length.2 fun x hx => ?_
  have := List.any_eq_false.1 h x hx
  simpa using this
theorem NewB.lt {w : World} {B c : Nat} {A : Option Addr} {l : List Itm} (h : NewB w B c A l) (g : Nat) (e : A = some ⟨g, 0, none⟩) : g < w.heap.size := by
  rcases h with ⟨_, rfl, _⟩ | ⟨g2, rfl, _, h⟩
  · cases e
  · injection e with e
    injection e with e
    subst e
    exact h.1.1
set_option maxHeartbeats 8000000 in
theorem tput_any (A : Option Addr) (c : Nat) (l : List Itm) (y : Itm) (w : World) (hR : Itms w A l) (hl : l.length ≤ 1000) (hs : ∀ x ∈ l, x.s.size ≤ 1000000) :
    Calls Tryz.prog 15 #[.slice A l.length c, .string y.s, .agg y.node] w fun e w' => ∃ A' c', e = .returned (.slice A' (putL l y).length c') ∧ NewB w' w.heap.size c' A' (putL l y) ∧ Below w.heap.size w w' := by
  have hpl : (putL l y).length = (putR l y.s).length + 1 := insI_len _ _ _ List.findIdx_le_length
  have hrl : (putR l y.s).length ≤ l.length := List.length_filter_le _ _
  have hrs : ∀ x ∈ putR l y.s, x.s.size ≤ 1000000 := fun x hx => hs x (List.mem_filter.1 hx).1
  obtain ⟨W1, hW1⟩ : ∃ W1, W1 = w.alloc (.cells #[.string y.s] 9) := ⟨_, rfl⟩
  obtain ⟨W2, hW2⟩ : ∃ W2, W2 = W1.alloc (.cells y.node 25) := ⟨_, rfl⟩
  have hb1 := (Below.refl w.heap.size w).alloc (Nat.le_refl _) (.cells #[.string y.s] 9)
  have hx1 := heap_alloc_new w (.cells #[.string y.s] 9)
  have hs1 : (w.alloc (.cells #[.string y.s] 9)).heap.size = w.heap.size + 1 := by simp only [World.alloc, Array.size_push]
  rw [← hW1] at hb1 hx1 hs1
  have hb2 := (Below.refl W1.heap.size W1).alloc (Nat.le_refl _) (.cells y.node 25)
  have hx2 := heap_alloc_new W1 (.cells y.node 25)
  have hs2 : (W1.alloc (.cells y.node 25)).heap.size = W1.heap.size + 1 := by simp only [World.alloc, Array.size_push]
  rw [← hW2] at hb2 hx2 hs2
  have hbx1 : BxS W2 w.heap.size y.s := BxS.below (w := W1) ⟨by omega, (cell_of_row _ _ 0 _ _ _ hx1).trans rfl⟩ hb2
  have hC := withoutP_any A c l y.s w.heap.size W2 ((hR.below hb1).below hb2) (by omega) hbx1
  have hb12 : Below w.heap.size w W2 := hb1.trans (hb2.mono (by omega))
  have HC : Hid (Calls Tryz.prog 35 #[.slice A l.length c, .func (.func 36) #[] #[.pointer (some ⟨w.heap.size, 0, none⟩)]] W2 fun e w' => ∃ A' c', e = .returned (.slice A' (putR l y.s).length c') ∧ (putR l y.s).length ≤ c' ∧ NewB w' W2.heap.size c' A' (putR l y.s) ∧ Below W2.heap.size W2 w') := hC
  rw [show W1.heap.size = w.heap.size + 1 from hs1] at hx2
  have HX2 := Lib.hid hx2
  have HBX := Lib.hid hbx1
  have HB2 := Lib.hid hb12
  have HS2 : Hid (W2.heap.size = w.heap.size + 2) := by show _ = _; omega
  have HPL := Lib.hid hpl
  have HRS := Lib.hid hrs
  have HW : Hid ((w.alloc (.cells #[.string y.s] 9)).alloc (.cells y.node 25) = W2) := by show _ = _; rw [hW2, hW1]
  have HP : Hid (putL l y = insI (putR l y.s) ((putR l y.s).findIdx (putQ y.s)) y) := rfl
  generalize putL l y = P at *
  generalize putR l y.s = L at *
  have hL : L.length ≤ 1000 := by omega
  clear hpl hrl hrs hW1 hW2 hb1 hx1 hs1 hb2 hx2 hs2 hbx1 hC hb12 hR hs
  obtain ⟨y0, y1, y2, y3, y4, y5, y6, y7⟩ := y
  simp only [Itm.node] at HX2 HW ⊢
  dsimp only at HC HBX HP HW
  have hir := info_item
  have hinod := info_nodeT
  go_enter Tryz.func15, Tryz.ntmps15
  go_upto_region 1 with fail
  rw [HW.out]
  generalize hgg : w.heap.size = gx at *
  clear W1
  go_wp2_with fail
  refine HC.out.mono ?_; rintro e w3 ⟨A1, c1, rfl, hlc, hN, hb3⟩
  have HN := Lib.hid hN
  have HB3 := Lib.hid hb3
  have HI := Lib.hid (indexP_any (fun w1 => Below W2.heap.size W2 w1) (fun w1 w2 h k => below_then h k) (putQ y0) L A1 c1 gx w3 (by omega) (fun x hx w4 hb4 => put2_any x y0 gx w4 (HBX.out.below hb4) (HRS.out x hx)) hb3 hN.itms)
  clear hN hb3 HC
  go_wp2_with fail
  refine HI.out.mono ?_; rintro e w4 ⟨hb4, hcase⟩
  have HB4 := Lib.hid (below_then HB3.out hb4)
  have HN4 := Lib.hid (HN.out.below hb4)
  have HIX : Hid (∃ i : Nat, i = L.findIdx (putQ y0) ∧ i ≤ L.length ∧ (e = .returned (.int .i64 (-1)) ∧ i = L.length ∨ e = .returned (.int .i64 i))) := by
    rcases hcase with ⟨rfl, h⟩ | ⟨k, hk, rfl, h1, h2⟩
    · exact ⟨L.length, (idx_none _ _ h).symm, Nat.le_refl _, .inl ⟨rfl, rfl⟩⟩
    · exact ⟨k, (idx_of _ _ k hk h1 h2).symm, Nat.le_of_lt hk, .inr rfl⟩
  clear hb4 hcase HB3 HN HI
  obtain ⟨i, hi, hil, hcase⟩ := HIX.out
  have HIE := Lib.hid hi
  have hxn : w4.heap[gx + 1]? = _ := (HB4.out.block (gx + 1) (by have := HS2.out; omega)).trans HX2.out
  have hxs : w4.cell? ⟨gx, 0, none⟩ = _ := (HBX.out.below HB4.out).2
  have HXN := Lib.hid hxn
  clear hi HIX HX2 HBX hxn
  rcases hcase with ⟨rfl, hil2⟩ | rfl
  · subst hil2
    have hneg : decide ((-1 : Int) < 0) = true := rfl
    go_wp2_with (refine wpList_load_row rfl 25 (.tmp 5) rfl (gx + 1) rfl 25 _ (0, 0) _ HXN.out Tryz.underlying25 rfl info_nodeT ?_)
    obtain ⟨w5, hw5⟩ : ∃ w5, w5 = w4.alloc (.cells #[.string y0, .int .i64 y1, .int .u32 y2, .int .u32 y3, .int .u32 y4, .int .i64 y5, .int .i64 y6, .string y7] 42) := ⟨_, rfl⟩
    have hb5 : Below w4.heap.size w4 w5 := by rw [hw5]; exact below_al w4 _
    have hv5 : w5.heap[w4.heap.size]? = some (.cells #[.string y0, .int .i64 y1, .int .u32 y2, .int .u32 y3, .int .u32 y4, .int .i64 y5, .int .i64 y6, .string y7] 42 (0, 0)) := by rw [hw5]; exact heap_alloc_new w4 _
    rw [← hw5]
    have HINS := Lib.hid (insert_any W2.heap.size A1 c1 w4.heap.size L.length L ⟨y0, y1, y2, y3, y4, y5, y6, y7⟩ w5 (HN4.out.below hb5) hlc (Nat.le_refl _) (by omega) hv5 (fun g e => by have := HN4.out.lt g e; omega) (Nat.le_trans HB4.out.size hb5.size))
    have HB5 := Lib.hid (below_then HB4.out hb5)
    rw [← HIE.out] at HP
    clear hw5 hb5 hv5 HN4 HB4 HXN HRS
    refine HINS.out.mono ?_; rintro e w6 ⟨A2, c2, rfl, hN6, hb6⟩
    have HN6 := Lib.hid hN6
    have HB6 := Lib.hid (HB5.out.trans hb6)
    clear hN6 hb6 HINS HB5
    go_wp2_with fail
    go_ret
    refine ⟨A2, c2, by rw [HPL.out]; rfl, ?_, ?_⟩
    · rw [HP.out]
      rcases HN6.out with h | ⟨g1, e, hg1, hic⟩
      · exact .inl h
      · exact .inr ⟨g1, e, by have := HS2.out; omega, hic⟩
    · subst hgg
      exact HB2.out.trans (HB6.out.mono (by have := HS2.out; omega))
  · have hneg : decide ((i : Int) < 0) = false := decide_eq_false (by omega)
    go_wp2_with (refine wpList_load_row rfl 25 (.tmp 5) rfl (gx + 1) rfl 25 _ (0, 0) _ HXN.out Tryz.underlying25 rfl info_nodeT ?_)
    obtain ⟨w5, hw5⟩ : ∃ w5, w5 = w4.alloc (.cells #[.string y0, .int .i64 y1, .int .u32 y2, .int .u32 y3, .int .u32 y4, .int .i64 y5, .int .i64 y6, .string y7] 42) := ⟨_, rfl⟩
    have hb5 : Below w4.heap.size w4 w5 := by rw [hw5]; exact below_al w4 _
    have hv5 : w5.heap[w4.heap.size]? = some (.cells #[.string y0, .int .i64 y1, .int .u32 y2, .int .u32 y3, .int .u32 y4, .int .i64 y5, .int .i64 y6, .string y7] 42 (0, 0)) := by rw [hw5]; exact heap_alloc_new w4 _
    rw [← hw5]
    have HINS := Lib.hid (insert_any W2.heap.size A1 c1 w4.heap.size i L ⟨y0, y1, y2, y3, y4, y5, y6, y7⟩ w5 (HN4.out.below hb5) hlc hil (by omega) hv5 (fun g e => by have := HN4.out.lt g e; omega) (Nat.le_trans HB4.out.size hb5.size))
    have HB5 := Lib.hid (below_then HB4.out hb5)
    rw [← HIE.out] at HP
    clear hw5 hb5 hv5 HN4 HB4 HXN HRS
    refine HINS.out.mono ?_; rintro e w6 ⟨A2, c2, rfl, hN6, hb6⟩
    have HN6 := Lib.hid hN6
    have HB6 := Lib.hid (HB5.out.trans hb6)
    clear hN6 hb6 HINS HB5
    go_wp2_with fail
    go_ret
    refine ⟨A2, c2, by rw [HPL.out]; rfl, ?_, ?_⟩
    · rw [HP.out]
      rcases HN6.out with h | ⟨g1, e, hg1, hic⟩
      · exact .inl h
      · exact .inr ⟨g1, e, by have := HS2.out; omega, hic⟩
    · subst hgg
      exact HB2.out.trans (HB6.out.mono (by have := HS2.out; omega))
end Go.Proofs.YtmeapijckncoeaaGreatDoor

namespace Go.Proofs.YtmeapijckncoeaaGreatDoor
set_option maxRecDepth 100000
set_option linter.unusedSimpArgs false
set_option linter.unusedVariables false
open Go.RowKit Go.Joins Go.Deep
open Go.Lib hiding intOf
theorem toList_inj' {a b : ByteArray} (h : a.toList = b.toList) : a = b := by
  rw [Lib.toList_data, Lib.toList_data] at h
  exact ByteArray.ext (Array.toList_inj.1 h)
theorem find_put (l : List Itm) (y : Itm) : (putL l y).find? (fun X => X.s.toList == y.s.toList) = some y := by
  unfold putL insI
  rw [List.find?_append]
  have h0 : ∀ m : List Itm, (∀ x ∈ m, x ∈ putR l y.s) → m.find? (fun X => X.s.toList == y.s.toList) = none := fun m hm => List.find?_eq_none.2 fun x hx => by
    have := (List.mem_filter.1 (hm x hx)).2
    simpa using this
  rw [h0 _ fun x hx => List.mem_of_mem_take hx, Option.none_or, List.find?_cons]
  simp
theorem find_drop (l : List Itm) (p : ByteArray) : (drpL p l).find? (fun X => X.s.toList == p.toList) = none := List.find?_eq_none.2 fun x hx h => by
  have h1 := (List.mem_filter.1 hx).2
  have h2 := toList_inj' (eq_of_beq h)
  rw [h2, und_self] at h1
  cases h1
/-- What is under a path's parent is under what that is under. -/
theorem und_par (s p : ByteArray) (hne : (parB s).toList.isEmpty = false) (h : undB (parB s) p = true) : undB s p = true := by
  rcases last_cases s with ⟨h0, _⟩ | ⟨k, hk, h47, hpar, hnum, _⟩
  · rw [Lib.toList_data] at hne
    have : (parB s).data.toList = [] := List.eq_nil_of_length_eq_zero h0
    rw [this] at hne
    cases hne
  · have hs : ∃ t, s.data.toList = (parB s).data.toList ++ 47 :: t := by
      refine ⟨(baseB s).data.toList, ?_⟩
      have inj : ∀ a b : List UInt8, a.map UInt8.toNat = b.map UInt8.toNat → a = b := fun a b h => (List.map_inj_right (fun x y h => UInt8.toNat_inj.1 h)).1 h
      refine inj _ _ ?_
      rw [List.map_append, List.map_cons]
      exact hnum
    obtain ⟨t, hs⟩ := hs
    unfold undB at h ⊢
    rw [hs]
    generalize (parB s).data.toList = a at *
    generalize p.data.toList = r at *
    rw [Bool.and_eq_true] at h
    obtain ⟨h1, h2⟩ := h
    obtain ⟨u, rfl⟩ := List.isPrefixOf_iff_prefix.1 (show r.isPrefixOf a = true from h1)
    have hp1 : Lib.hasPrefix (r ++ u) r = true := h1
    have hp2 : Lib.hasPrefix (r ++ u ++ 47 :: t) r = true := by unfold Lib.hasPrefix; exact List.isPrefixOf_iff_prefix.2 ⟨u ++ 47 :: t, by rw [List.append_assoc]⟩
    unfold Lib.trimPrefix at h2 ⊢
    rw [if_pos hp1] at h2
    rw [if_pos hp2, hp2]
    rw [List.append_assoc, List.drop_left']
    rw [List.drop_left'] at h2
    cases u with
    | nil => simp [Lib.hasPrefix]
    | cons x u =>
      simp [Lib.hasPrefix] at h2 ⊢
      rcases h2 with h2 | h2
      · exact .inl h2
      · exact .inr h2
    all_goals rfl
/-- A right tree's rows. -/
theorem rgt_row {l : List Itm} (h : rgtI l = true) (k : Nat) (hk : k < l.length) : sndL l[k] = true ∧ (∀ j, k = j + 1 → ordT (atI l j).s l[k].s < 0) ∧ kndL l (parB l[k].s) = 1 := by
  have h1 := List.all_eq_true.1 h k (List.mem_range.2 hk)
  have e : atI l k = l[k] := by show l[k]?.getD default = _; rw [List.getElem?_eq_getElem hk]; rfl
  unfold rowI at h1
  rw [e, Bool.and_eq_true, Bool.and_eq_true] at h1
  obtain ⟨⟨h1, h2⟩, h3⟩ := h1
  refine ⟨h1, fun j hj => ?_, eq_of_beq h3⟩
  subst hj
  unfold ordI at h2
  rw [e, decide_eq_false (by omega : ¬ (j + 1 = 0)), Bool.false_or] at h2
  exact of_decide_eq_true h2
theorem ordT_trans {a b c : ByteArray} (h1 : ordT a b < 0) (h2 : ordT b c < 0) : ordT a c < 0 := by
  unfold ordT at *
  have t1 := ordL_trans (nums a) (nums b) (nums c) (by omega) (by omega)
  rcases Int.lt_or_eq_of_le t1 with h | h
  · exact h
  · have h3 := (ordL_zero (nums a) (nums c)).1 h
    rw [h3] at h1
    have := ordL_neg (nums b) (nums c)
    omega
theorem rgt_pw {l : List Itm} (h : rgtI l = true) : l.Pairwise (fun a b => ordT a.s b.s < 0) := by
  refine List.pairwise_iff_getElem.2 fun i j hi hj hij => ?_
  obtain ⟨d, rfl⟩ : ∃ d, j = i + 1 + d := ⟨j - i - 1, by omega⟩
  clear hij
  induction d with
  | zero =>
    have := (rgt_row h (i + 1) hj).2.1 i rfl
    have e : atI l i = l[i] := by show l[i]?.getD default = _; rw [List.getElem?_eq_getElem hi]; rfl
    rw [e] at this
    exact this
  | succ d ih =>
    have hj2 : i + 1 + d < l.length := by omega
    have h1 := ih hj2
    have h2 := (rgt_row h (i + 1 + (d + 1)) hj).2.1 (i + 1 + d) (by omega)
    have e : atI l (i + 1 + d) = l[i + 1 + d] := by show l[i + 1 + d]?.getD default = _; rw [List.getElem?_eq_getElem hj2]; rfl
    rw [e] at h2
    exact ordT_trans h1 h2
theorem rgt_of {l : List Itm} (h1 : ∀ x ∈ l, sndL x = true ∧ kndL l (parB x.s) = 1) (h2 : l.Pairwise (fun a b => ordT a.s b.s < 0)) : rgtI l = true := by
  refine List.all_eq_true.2 fun k hk => ?_
  have hk := List.mem_range.1 hk
  have e : atI l k = l[k] := by show l[k]?.getD default = _; rw [List.getElem?_eq_getElem hk]; rfl
  obtain ⟨a, b⟩ := h1 l[k] (List.getElem_mem hk)
  unfold rowI
  rw [e, a, b]
  have : ordI l k = true := by
    unfold ordI
    cases k with
    | zero => rfl
    | succ j =>
      have e2 : atI l j = l[j] := by show l[j]?.getD default = _; rw [List.getElem?_eq_getElem (by omega)]; rfl
      rw [e, Nat.add_sub_cancel, e2]
      have := List.pairwise_iff_getElem.1 h2 j (j + 1) (by omega) hk (by omega)
      rw [decide_eq_true this]
      simp
  rw [this]
  rfl
theorem rgt_drop {l : List Itm} (p : ByteArray) (h : rgtI l = true) : rgtI (drpL p l) = true := by
  refine rgt_of (fun x hx => ?_) ((rgt_pw h).sublist List.filter_sublist)
  obtain ⟨hxl, hxu⟩ := List.mem_filter.1 hx
  obtain ⟨k, hk, rfl⟩ := List.getElem_of_mem hxl
  obtain ⟨h1, _, h3⟩ := rgt_row h k hk
  refine ⟨h1, ?_⟩
  have hxu : undB l[k].s p = false := by simpa using hxu
  unfold kndL at h3 ⊢
  by_cases h0 : (parB l[k].s).toList.isEmpty = true
  · rw [if_pos h0]
  · rw [if_neg h0] at h3 ⊢
    have hpu : undB (parB l[k].s) p = false := by
      rcases Bool.eq_false_or_eq_true (undB (parB l[k].s) p) with e | e
      · rw [und_par _ _ (Bool.eq_false_iff.2 h0) e] at hxu
        cases hxu
      · exact e
    have hf : (drpL p l).find? (fun X => X.s.toList == (parB l[k].s).toList) = l.find? (fun X => X.s.toList == (parB l[k].s).toList) := by
      unfold drpL
      rw [List.find?_filter]
      congr 1
      funext X
      by_cases e : (X.s.toList == (parB l[k].s).toList) = true
      · have e2 := toList_inj' (eq_of_beq e)
        rw [e, e2, hpu]
        rfl
      · rw [Bool.eq_false_iff.2 e]
        simp
    rw [hf]
    exact h3
theorem dat_drop {l : List Itm} (p : ByteArray) (h : l.any datL = false) : (drpL p l).any datL = false := by
  rw [List.any_eq_false] at h ⊢
  exact fun x hx => h x (List.mem_filter.1 hx).1
end Go.Proofs.YtmeapijckncoeaaGreatDoor

namespace Go.Proofs.YtmeapijckncoeaaGreatDoor.Is
set_option maxRecDepth 100000

def at0 (S : List Nat) (k : Nat) : Nat := S[k]?.getD 0
/-- Only what stands from a on, short of b, was moved. -/
structure Mov (a b : Nat) (S S' : List Nat) : Prop where
  len : S'.length = S.length
  perm : S'.Perm S
  out : ∀ k, k < a ∨ b ≤ k → at0 S' k = at0 S k
  ins : ∀ i, a ≤ i → i < b → ∃ i', a ≤ i' ∧ i' < b ∧ at0 S' i = at0 S i'
theorem Mov.refl (a b : Nat) (S : List Nat) : Mov a b S S := ⟨rfl, List.Perm.refl _, fun _ _ => rfl, fun i h1 h2 => ⟨i, h1, h2, rfl⟩⟩
theorem Mov.trans {a b : Nat} {S S' S'' : List Nat} (h : Mov a b S S') (k : Mov a b S' S'') : Mov a b S S'' :=
  ⟨k.len.trans h.len, k.perm.trans h.perm, fun i hi => (k.out i hi).trans (h.out i hi), fun i h1 h2 => by
    obtain ⟨i', h3, h4, h5⟩ := k.ins i h1 h2
    obtain ⟨i'', h6, h7, h8⟩ := h.ins i' h3 h4
    exact ⟨i'', h6, h7, h5.trans h8⟩⟩
theorem Mov.wide {a b a' b' : Nat} {S S' : List Nat} (h : Mov a b S S') (ha : a' ≤ a) (hb : b ≤ b') : Mov a' b' S S' :=
  ⟨h.len, h.perm, fun k hk => h.out k (by omega), fun i h1 h2 => by
    by_cases hi : a ≤ i ∧ i < b
    · obtain ⟨i', h3, h4, h5⟩ := h.ins i hi.1 hi.2
      exact ⟨i', by omega, by omega, h5⟩
    · exact ⟨i, h1, h2, h.out i (by omega)⟩⟩
def swp (S : List Nat) (i j : Nat) : List Nat := (S.set i (at0 S j)).set j (at0 S i)
theorem swp_at (S : List Nat) (i j k : Nat) (hi : i < S.length) (hj : j < S.length) : at0 (swp S i j) k = if k = j then at0 S i else if k = i then at0 S j else at0 S k := by
  unfold swp
  show (((S.set i (at0 S j)).set j (at0 S i))[k]?).getD 0 = _
  rw [List.getElem?_set, List.getElem?_set, List.length_set]
  by_cases h1 : j = k
  · subst h1; simp [hj]
  · have h1' : ¬ k = j := fun e => h1 e.symm
    by_cases h2 : i = k
    · subst h2; simp [h1, h1', hi]
    · have h2' : ¬ k = i := fun e => h2 e.symm
      simp [h1, h1', h2, h2', at0]
theorem swp_mov (S : List Nat) (a b i j : Nat) (hi : i < S.length) (hj : j < S.length) (h1 : a ≤ i ∧ i < b) (h2 : a ≤ j ∧ j < b) : Mov a b S (swp S i j) := by
  refine ⟨by simp [swp], ?_, fun k hk => ?_, fun k h3 h4 => ?_⟩
  · have e : ∀ k (h : k < S.length), at0 S k = S[k] := fun k h => by simp [at0, List.getElem?_eq_getElem h]
    unfold swp
    rw [e i hi, e j hj]
    exact List.set_set_perm hi hj
  · rw [swp_at S i j k hi hj, if_neg (by omega), if_neg (by omega)]
  · rw [swp_at S i j k hi hj]
    by_cases e1 : k = j
    · rw [if_pos e1]; exact ⟨i, h1.1, h1.2, rfl⟩
    · rw [if_neg e1]
      by_cases e2 : k = i
      · rw [if_pos e2]; exact ⟨j, h2.1, h2.2, rfl⟩
      · rw [if_neg e2]; exact ⟨k, h3, h4, rfl⟩
/-- Sorted by f from a on, short of b. -/
def SrtOn (f : Nat → Nat) (a b : Nat) (S : List Nat) : Prop := ∀ i j, a ≤ i → i ≤ j → j < b → f (at0 S i) ≤ f (at0 S j)
/-- The signs of the left part stand ahead of those of the right. -/
def Ord (a c b : Nat) (S : List Nat) : Prop := ∀ i j, a ≤ i → i < c → c ≤ j → j < b → at0 S i < at0 S j
theorem Mov.all {a b : Nat} {S S' : List Nat} {n : Nat} (h : Mov a b S S') (hx : ∀ x ∈ S, x < n) : ∀ x ∈ S', x < n := fun x hm => hx x (h.perm.mem_iff.1 hm)
/-- What lies elsewhere stays sorted. -/
theorem Mov.srt {f : Nat → Nat} {a b c d : Nat} {S S' : List Nat} (h : Mov a b S S') (hd : d ≤ a ∨ b ≤ c) (hs : SrtOn f c d S) : SrtOn f c d S' := fun i j h1 h2 h3 => by
  rw [h.out i (by omega), h.out j (by omega)]
  exact hs i j h1 h2 h3
/-- Where the signs come from: below A out of the same pair of blocks, from A on out of the same block. -/
def Org (m : Nat) (S S1 : List Nat) (A bs : Nat) : Prop := ∀ p, p < m → ∃ p', p' < m ∧ at0 S1 p = at0 S p' ∧ (p < A → p' / (2 * bs) = p / (2 * bs)) ∧ (A ≤ p → p' / bs = p / bs)
theorem div_in (bs k p : Nat) (h1 : bs * k ≤ p) (h2 : p < bs * k + bs) : p / bs = k := by
  apply Nat.div_eq_of_lt_le
  · rw [Nat.mul_comm]; exact h1
  · rw [Nat.mul_comm, Nat.mul_succ]; exact h2
theorem div_two (bs p q : Nat) (h : p / bs = q / bs) : p / (2 * bs) = q / (2 * bs) := by
  rw [Nat.mul_comm 2 bs, ← Nat.div_div_eq_div_mul, ← Nat.div_div_eq_div_mul, h]
theorem lt_of_div (bs p q : Nat) (h : p / bs < q / bs) : p < q := by
  apply Nat.lt_of_not_le
  intro h2
  have := Nat.div_le_div_right (c := bs) h2
  omega
theorem org_ord {m A bs k b : Nat} {S S1 : List Nat} (h : Org m S S1 A bs) (hA : A = 2 * bs * k) (hinc : ∀ p q, p < q → q < m → at0 S p < at0 S q) (hb : b ≤ m) (hb2 : b ≤ A + 2 * bs) : Ord A (A + bs) b S1 := fun i j h1 h2 h3 h4 => by
  obtain ⟨i', e1, e2, _, e3⟩ := h i (by omega)
  obtain ⟨j', g1, g2, _, g3⟩ := h j (by omega)
  have e4 := e3 h1
  have g4 := g3 (by omega)
  have hA2 : A = bs * (2 * k) := by rw [hA, Nat.mul_comm 2 bs, Nat.mul_assoc]
  have hA3 : bs * (2 * k + 1) = A + bs := by rw [Nat.mul_succ, hA2]
  rw [div_in bs (2 * k) i (by omega) (by omega)] at e4
  rw [div_in bs (2 * k + 1) j (by omega) (by omega)] at g4
  rw [e2, g2]
  exact hinc i' j' (lt_of_div bs i' j' (by omega)) g1
theorem org_step {m A bs k : Nat} {S S1 S2 : List Nat} (h : Org m S S1 A bs) (hA : A = 2 * bs * k) (hm : Mov A (A + 2 * bs) S1 S2) (hb : A + 2 * bs ≤ m) : Org m S S2 (A + 2 * bs) bs := fun p hp => by
  by_cases h1 : A ≤ p
  · by_cases h2 : p < A + 2 * bs
    · obtain ⟨p1, e1, e2, e3⟩ := hm.ins p h1 h2
      obtain ⟨p', g1, g2, _, g3⟩ := h p1 (by omega)
      refine ⟨p', g1, by rw [e3, g2], fun _ => ?_, fun h3 => by omega⟩
      rw [div_two bs p' p1 (g3 e1), div_in (2 * bs) k p1 (by omega) (by omega), div_in (2 * bs) k p (by omega) (by omega)]
    · obtain ⟨p', g1, g2, _, g3⟩ := h p hp
      exact ⟨p', g1, by rw [hm.out p (by omega), g2], fun h3 => by omega, fun _ => g3 h1⟩
  · obtain ⟨p', g1, g2, g3, _⟩ := h p hp
    exact ⟨p', g1, by rw [hm.out p (by omega), g2], fun _ => g3 (by omega), fun h3 => by omega⟩
theorem org_fin {m A bs k : Nat} {S S1 S2 : List Nat} (h : Org m S S1 A bs) (hA : A = 2 * bs * k) (hm : Mov A m S1 S2) (hb : m < A + 2 * bs) : Org m S S2 0 (2 * bs) := fun p hp => by
  by_cases h1 : A ≤ p
  · obtain ⟨p1, e1, e2, e3⟩ := hm.ins p h1 hp
    obtain ⟨p', g1, g2, _, g3⟩ := h p1 (by omega)
    refine ⟨p', g1, by rw [e3, g2], fun h3 => by omega, fun _ => ?_⟩
    rw [div_two bs p' p1 (g3 e1), div_in (2 * bs) k p1 (by omega) (by omega), div_in (2 * bs) k p (by omega) (by omega)]
  · obtain ⟨p', g1, g2, g3, _⟩ := h p hp
    exact ⟨p', g1, by rw [hm.out p (by omega), g2], fun h3 => by omega, fun _ => g3 (by omega)⟩
theorem org_ins {m A B k : Nat} {S S1 S2 : List Nat} (h : Org m S S1 0 20) (ht : ∀ q, A ≤ q → at0 S1 q = at0 S q) (hA : 20 * k = A) (hm : Mov A B S1 S2) (hb : B ≤ A + 20) (hbm : B ≤ m) : Org m S S2 0 20 := fun p hp => by
  by_cases h1 : A ≤ p ∧ p < B
  · obtain ⟨p1, e1, e2, e3⟩ := hm.ins p h1.1 h1.2
    exact ⟨p1, by omega, by rw [e3, ht p1 e1], fun h3 => by omega, fun _ => by omega⟩
  · obtain ⟨p', g1, g2, g3, g4⟩ := h p hp
    exact ⟨p', g1, by rw [hm.out p (by omega), g2], g3, g4⟩
theorem org_refl (m : Nat) (S : List Nat) : Org m S S 0 20 := fun p hp => ⟨p, hp, rfl, fun _ => rfl, fun _ => rfl⟩
/-- Where what stands at k comes from: two ranges exchanged. -/
def swI (x y n k : Nat) : Nat := if x ≤ k ∧ k < x + n then y + (k - x) else if y ≤ k ∧ k < y + n then x + (k - y) else k
/-- .. two neighbours exchanged: [x, y) and [y, z). -/
def rotI (x y z k : Nat) : Nat := if x ≤ k ∧ k < x + (z - y) then y + (k - x) else if x + (z - y) ≤ k ∧ k < z then k - (z - y) else k
theorem swI_zero (x y k : Nat) : swI x y 0 k = k := by unfold swI; (repeat' split) <;> omega
theorem swI_step (x y n i k : Nat) (hi : i < n) (hxy : x + n ≤ y) : (if k = y + i then swI x y i (x + i) else if k = x + i then swI x y i (y + i) else swI x y i k) = swI x y (i + 1) k := by
  unfold swI
  (repeat' split) <;> omega
/-- The first range the longer one. -/
theorem rot_a (c i j k : Nat) (hic : i ≤ c) (hj : 1 ≤ j) (h : j < i) : swI (c - i) c j (rotI (c - (i - j)) c (c + j) k) = rotI (c - i) c (c + j) k := by
  unfold swI rotI
  (repeat' split) <;> omega
/-- The second one. -/
theorem rot_b (c i j k : Nat) (hic : i ≤ c) (hi : 1 ≤ i) (h : i < j) : swI (c - i) (c + j - i) i (rotI (c - i) c (c + (j - i)) k) = rotI (c - i) c (c + j) k := by
  unfold swI rotI
  (repeat' split) <;> omega
theorem rot_c (c i k : Nat) (hic : i ≤ c) : swI (c - i) c i k = rotI (c - i) c (c + i) k := by
  unfold swI rotI
  (repeat' split) <;> omega
theorem half_lt {i j : Nat} (h : i < j) : i ≤ (i + j) / 2 ∧ (i + j) / 2 < j := by omega
theorem rotI_1 (s c e k : Nat) (h : k < s) (_ : s ≤ c) : rotI s c e k = k := by unfold rotI; (repeat' split) <;> omega
theorem rotI_2 (s c e k : Nat) (h1 : s ≤ k) (h2 : k < s + (e - c)) : rotI s c e k = c + (k - s) := by unfold rotI; rw [if_pos ⟨h1, h2⟩]
theorem rotI_3 (s c e k : Nat) (h1 : s + (e - c) ≤ k) (h2 : k < e) : rotI s c e k = k - (e - c) := by unfold rotI; rw [if_neg (by omega), if_pos ⟨h1, h2⟩]
theorem rotI_4 (s c e k : Nat) (h : e ≤ k) (hs : s ≤ c) (he : c ≤ e) : rotI s c e k = k := by unfold rotI; (repeat' split) <;> omega
theorem rotI_id (s c e k : Nat) (h : s = c ∨ e = c) : rotI s c e k = k := by unfold rotI; (repeat' split) <;> omega
/-- Behind the rotation: four sorted parts, and nothing on the left above the right. -/
theorem sym_parts {f : Nat → Nat} {a c b s e mid : Nat} {S S1 : List Nat} (hL : SrtOn f a c S) (hR : SrtOn f c b S) (has : a ≤ s) (hsc : s ≤ c) (hce : c ≤ e) (heb : e ≤ b) (hse : e + s = mid + c)
    (h1 : s = a ∨ e = b ∨ f (at0 S (s - 1)) ≤ f (at0 S e)) (h2 : s = c ∨ e = c ∨ f (at0 S (e - 1)) < f (at0 S s)) (hrot : ∀ k, at0 S1 k = at0 S (rotI s c e k)) :
    SrtOn f a s S1 ∧ SrtOn f s mid S1 ∧ SrtOn f mid e S1 ∧ SrtOn f e b S1 ∧ ∀ i j, a ≤ i → i < mid → mid ≤ j → j < b → f (at0 S1 i) ≤ f (at0 S1 j) := by
  refine ⟨fun i j g1 g2 g3 => ?_, fun i j g1 g2 g3 => ?_, fun i j g1 g2 g3 => ?_, fun i j g1 g2 g3 => ?_, fun i j g1 g2 g3 g4 => ?_⟩
  · rw [hrot, hrot, rotI_1 _ _ _ _ (by omega) hsc, rotI_1 _ _ _ _ g3 hsc]
    exact hL _ _ g1 g2 (by omega)
  · rw [hrot, hrot, rotI_2 _ _ _ _ g1 (by omega), rotI_2 _ _ _ _ (by omega) (by omega)]
    exact hR _ _ (by omega) (by omega) (by omega)
  · rw [hrot, hrot, rotI_3 _ _ _ _ (by omega) (by omega), rotI_3 _ _ _ _ (by omega) g3]
    exact hL _ _ (by omega) (by omega) (by omega)
  · rw [hrot, hrot, rotI_4 _ _ _ _ (by omega) hsc hce, rotI_4 _ _ _ _ (by omega) hsc hce]
    exact hR _ _ (by omega) g2 g3
  · rw [hrot, hrot]
    by_cases ei : i < s
    · rw [rotI_1 _ _ _ _ ei hsc]
      by_cases ej : j < e
      · rw [rotI_3 _ _ _ _ (by omega) ej]
        exact hL _ _ g1 (by omega) (by omega)
      · rw [rotI_4 _ _ _ _ (by omega) hsc hce]
        rcases h1 with h | h | h
        · omega
        · omega
        · exact Nat.le_trans (hL i (s - 1) g1 (by omega) (by omega)) (Nat.le_trans h (hR e j hce (by omega) g4))
    · rw [rotI_2 _ _ _ _ (by omega) (by omega)]
      by_cases ej : j < e
      · rw [rotI_3 _ _ _ _ (by omega) ej]
        rcases h2 with h | h | h
        · omega
        · omega
        · exact Nat.le_of_lt (Nat.lt_of_le_of_lt (hR (c + (i - s)) (e - 1) (by omega) (by omega) (by omega)) (Nat.lt_of_lt_of_le h (hL s (j - (e - c)) has (by omega) (by omega))))
      · rw [rotI_4 _ _ _ _ (by omega) hsc hce]
        exact hR _ _ (by omega) (by omega) g4
theorem sym_ord {a c b s e mid : Nat} {S S1 : List Nat} (ho : Ord a c b S) (has : a ≤ s) (hsc : s ≤ c) (hce : c ≤ e) (heb : e ≤ b) (hse : e + s = mid + c) (hrot : ∀ k, at0 S1 k = at0 S (rotI s c e k)) :
    Ord a s mid S1 ∧ Ord mid e b S1 := by
  refine ⟨fun i j h1 h2 h3 h4 => ?_, fun i j h1 h2 h3 h4 => ?_⟩
  · rw [hrot, hrot, rotI_1 _ _ _ _ h2 hsc, rotI_2 _ _ _ _ h3 (by omega)]
    exact ho _ _ h1 (by omega) (by omega) (by omega)
  · rw [hrot, hrot, rotI_3 _ _ _ _ (by omega) h2, rotI_4 _ _ _ _ h3 hsc hce]
    exact ho _ _ (by omega) (by omega) (by omega) h4
/-- The halves sorted, all is. -/
theorem sym_join {f : Nat → Nat} {a b mid : Nat} {S S1 S2 S3 : List Nat} (ham : a ≤ mid) (hmb : mid ≤ b) (hm0 : Mov a b S S1) (hm1 : Mov a mid S1 S2) (hs1 : SrtOn f a mid S2) (hm2 : Mov mid b S2 S3) (hs2 : SrtOn f mid b S3)
    (hx : ∀ i j, a ≤ i → i < mid → mid ≤ j → j < b → f (at0 S1 i) ≤ f (at0 S1 j)) : Mov a b S S3 ∧ SrtOn f a b S3 := by
  refine ⟨(hm0.trans (hm1.wide (Nat.le_refl _) hmb)).trans (hm2.wide ham (Nat.le_refl _)), fun i j g1 g2 g3 => ?_⟩
  by_cases ej : j < mid
  · exact hm2.srt (.inl (Nat.le_refl _)) hs1 i j g1 g2 ej
  · by_cases ei : i < mid
    · obtain ⟨j', k1, k2, k3⟩ := hm2.ins j (by omega) g3
      obtain ⟨i', l1, l2, l3⟩ := hm1.ins i g1 ei
      rw [hm2.out i (by omega), l3, k3, hm1.out j' (by omega)]
      exact hx i' j' l1 l2 k1 k2
    · exact hs2 i j (by omega) g2 g3
end Go.Proofs.YtmeapijckncoeaaGreatDoor.Is

namespace Go.Proofs.YtmeapijckncoeaaGreatDoor.Is
set_option maxRecDepth 100000
set_option linter.unusedSimpArgs false
set_option linter.unusedVariables false
open Go.RowKit Go.Joins Go.Deep
/-- The items' own row, by places. -/
def SnO (T : Nat → Itm) (w : World) (base gd m cap : Nat) (S : List Nat) : Prop := S.length = m ∧ IO w gd (S.map T)
theorem SnO.get {T : Nat → Itm} {w : World} {base gd m cap : Nat} {S : List Nat} (h : SnO T w base gd m cap S) (k : Nat) (hk : k < m) : (S.map T)[k]? = some (T (at0 S k)) := by
  rw [List.getElem?_map, at0, List.getElem?_eq_getElem (by rw [h.1]; exact hk)]
  rfl
theorem SnO.range {T : Nat → Itm} {w : World} {base gd m cap : Nat} {S : List Nat} (h : SnO T w base gd m cap S) (k : Nat) (hk : k < m) : w.rangeAt gd (k * 8) (T (at0 S k)).cellsL := (h.2.2 k _ (h.get k hk)).1
theorem SnO.there {T : Nat → Itm} {w : World} {base gd m cap : Nat} {S : List Nat} (h : SnO T w base gd m cap S) (k : Nat) (hk : k < m) : w.there gd (k * 8) 8 := (h.2.2 k _ (h.get k hk)).2
/-- An item's eight cells. -/
def C8 (w : World) (g o : Nat) (x : Itm) : Prop := w.cell? ⟨g, o, none⟩ = some (.string x.s) ∧ w.cell? ⟨g, o + 1, none⟩ = some (.int .i64 x.k) ∧ w.cell? ⟨g, o + 2, none⟩ = some (.int .u32 x.m) ∧ w.cell? ⟨g, o + 3, none⟩ = some (.int .u32 x.u) ∧ w.cell? ⟨g, o + 4, none⟩ = some (.int .u32 x.g) ∧ w.cell? ⟨g, o + 5, none⟩ = some (.int .i64 x.t) ∧ w.cell? ⟨g, o + 6, none⟩ = some (.int .i64 x.a) ∧ w.cell? ⟨g, o + 7, none⟩ = some (.string x.d)
theorem SnO.c8 {T : Nat → Itm} {w : World} {base gd m cap : Nat} {S : List Nat} (h : SnO T w base gd m cap S) (k : Nat) (hk : k < m) : C8 w gd (k * 8) (T (at0 S k)) := by
  have hr := h.range k hk
  exact ⟨hr 0 _ rfl, hr 1 _ rfl, hr 2 _ rfl, hr 3 _ rfl, hr 4 _ rfl, hr 5 _ rfl, hr 6 _ rfl, hr 7 _ rfl⟩
theorem SnO.drewN {T : Nat → Itm} {w : World} {base gd m cap : Nat} {S : List Nat} (h : SnO T w base gd m cap S) (d : Nat) : SnO T (w.drewN d) base gd m cap S := h
theorem SnO.drew {T : Nat → Itm} {w : World} {base gd m cap : Nat} {S : List Nat} (h : SnO T w base gd m cap S) : SnO T w.drew base gd m cap S := h
theorem SnO.below {T : Nat → Itm} {w w' : World} {base gd m cap : Nat} {S : List Nat} (h : SnO T w base gd m cap S) (hb : Below w.heap.size w w') : SnO T w' base gd m cap S := ⟨h.1, h.2.below hb⟩
theorem SnO.swap {T : Nat → Itm} {w : World} {base gd m cap : Nat} {S : List Nat} (h : SnO T w base gd m cap S) (i j : Nat) (hi : i < m) (hj : j < m) :
    SnO T ((w.setCells gd (i * 8) (T (at0 S j)).cellsL).setCells gd (j * 8) (T (at0 S i)).cellsL) base gd m cap (swp S i j) := by
  refine ⟨by simp [swp, h.1], ?_⟩
  have h1 := h.2.store i (T (at0 S j)) (by rw [List.length_map, h.1]; exact hi)
  have h2 := h1.store j (T (at0 S i)) (by rw [List.length_set, List.length_map, h.1]; exact hj)
  unfold swp
  rw [List.map_set, List.map_set]
  exact h2
theorem gdrewN (w : World) (d : Nat) (row : Option Nat) : w.grownBy (w.drewN d) row := ⟨rfl, rfl, rfl, Nat.le_refl _, fun _ _ _ => rfl⟩
theorem gset2 {a w : World} {b : Nat} (h : a.grownBy w (some b)) (i : Nat) (v : Value) : a.grownBy (w.setCell ⟨b, i, none⟩ v) (some b) :=
  ⟨h.os, h.tape, h.output, by simp; exact h.size, fun k hk hne => (Below.heap_setCell w _ v k (fun e => hne (by rw [e]))).trans (h.block k hk hne)⟩
theorem gsetC {a : World} {b : Nat} : ∀ (vs : List Value) (o : Nat) (w : World), a.grownBy w (some b) → a.grownBy (w.setCells b o vs) (some b)
  | [], _, _, h => h
  | v :: r, o, w, h => by rw [World.setCells]; exact gsetC r (o + 1) _ (gset2 h o v)
theorem gdrew {a w : World} {row : Option Nat} (h : a.grownBy w row) (d : Nat) : a.grownBy (w.drewN d) row := ⟨h.os, h.tape, h.output, h.size, h.block⟩
theorem gdrew1 {a w : World} {row : Option Nat} (h : a.grownBy w row) : a.grownBy w.drew row := ⟨h.os, h.tape, h.output, h.size, h.block⟩
theorem gbel {a w w' : World} {row : Option Nat} (h : a.grownBy w row) (hb : Below w.heap.size w w') : a.grownBy w' row :=
  ⟨hb.os.trans h.os, hb.tape.trans h.tape, hb.output.trans h.output, Nat.le_trans h.size hb.size, fun k hk hne => (hb.block k (Nat.lt_of_lt_of_le hk h.size)).trans (h.block k hk hne)⟩
theorem gtrans {w w1 w2 : World} {row : Option Nat} (h : w.grownBy w1 row) (k : w1.grownBy w2 row) : w.grownBy w2 row :=
  ⟨k.os.trans h.os, k.tape.trans h.tape, k.output.trans h.output, Nat.le_trans h.size k.size, fun i hi hne => (k.block i (Nat.lt_of_lt_of_le hi h.size) hne).trans (h.block i hi hne)⟩
/-- What compares, in every world that the sort passes. -/
def CmpAt (T : Nat → Itm) (cm : Nat → Nat → Int) (w : World) (gd pc n : Nat) : Prop := ∀ w1, w.grownBy w1 (some gd) → ∀ a b, a < n → b < n →
  Calls Tryz.prog 44 #[.agg (T a).cells, .agg (T b).cells] w1 fun e w' => e = .returned (.int .i64 (cm a b)) ∧ Below w1.heap.size w1 w'
/-- .. it tells of a later place whether it stands ahead of an earlier one. -/
def CmpOk (T : Nat → Itm) (w : World) (gd pc n : Nat) (f : Nat → Nat) : Prop := ∃ cm : Nat → Nat → Int, (∀ a b, a < n → b < n → b < a → (cm a b < 0 ↔ f a < f b)) ∧ CmpAt T cm w gd pc n
theorem CmpAt.grown {T : Nat → Itm} {w w1 : World} {gd pc n : Nat} {cm : Nat → Nat → Int} (h : CmpAt T cm w gd pc n) (hg : w.grownBy w1 (some gd)) : CmpAt T cm w1 gd pc n := fun w2 hg2 => h w2 (gtrans hg hg2)
theorem CmpOk.grown {T : Nat → Itm} {w w1 : World} {gd pc n : Nat} {f : Nat → Nat} (h : CmpOk T w gd pc n f) (hg : w.grownBy w1 (some gd)) : CmpOk T w1 gd pc n f := by
  obtain ⟨cm, h1, h2⟩ := h
  exact ⟨cm, h1, h2.grown hg⟩
end Go.Proofs.YtmeapijckncoeaaGreatDoor.Is
