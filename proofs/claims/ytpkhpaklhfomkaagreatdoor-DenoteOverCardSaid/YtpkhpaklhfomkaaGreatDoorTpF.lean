/-
  Trees: Put.
-/
import Derived.Test.YtpkhpaklhfomkaaGreatDoorTpC
import Derived.Test.YtpkhpaklhfomkaaGreatDoorTpE
namespace Go.Proofs.YtpkhpaklhfomkaaGreatDoor
set_option maxRecDepth 100000
set_option linter.unusedSimpArgs false
set_option linter.unusedVariables false
open Go.RowKit Go.Joins Go.Deep
open Go.Lib hiding intOf
set_option maxHeartbeats 4000000 in
theorem put2_any (X : Itm) (p : ByteArray) (g : Nat) (w : World) (hp : BxS w g p) (hX : X.s.size ≤ 1000000) : Calls Tryz.prog 101 #[.agg X.cells, .pointer (some ⟨g, 0, none⟩)] w fun e w' => e = .returned (.bool (decide (0 < ordT X.s p))) ∧ Below w.heap.size w w' := by
  have hir := info_item
  have hb1 := (Below.refl w.heap.size w).alloc (Nat.le_refl _) (.cells X.cells 33)
  have hx1 := heap_alloc_new w (.cells X.cells 33)
  have c0 := (hp.below hb1).2
  have HC := Lib.hid (fun w => order_any X.s p w (by omega))
  have HB := Lib.hid hb1
  obtain ⟨x0, x1, x2, x3, x4, x5, x6, x7⟩ := X
  simp only [Itm.cells] at hx1 HB c0
  dsimp only at HC
  have z0 := (cell_of_row _ _ 0 _ _ _ hx1).trans (show _ = some (Value.string x0) from rfl)
  simp only [Itm.cells]
  clear hb1 hx1 hp hX
  generalize ordT x0 p = v at *
  go_enter Tryz.func101, Tryz.ntmps101
  go_upto_region 1 with fail
  generalize hgg : w.heap.size = gx at *
  generalize w.alloc (.cells #[.string x0, .int .i64 x1, .int .u32 x2, .int .u32 x3, .int .u32 x4, .int .i64 x5, .int .i64 x6, .string x7] 33) = w2 at *
  go_wp2_with fail
  refine (HC.out w2).mono ?_; rintro e w3 ⟨rfl, d, rfl⟩
  go_wp2_with fail
  go_ret
  exact ⟨rfl, by subst hgg; exact below_drewN HB.out d⟩
/-- What Put leaves. -/
def putR (l : List Itm) (p : ByteArray) : List Itm := l.filter (fun X => !(X.s.toList == p.toList))
def putQ (p : ByteArray) (X : Itm) : Bool := decide (0 < ordT X.s p)
def putL (l : List Itm) (y : Itm) : List Itm := insI (putR l y.s) ((putR l y.s).findIdx (putQ y.s)) y
theorem idx_of {α : Type} (q : α → Bool) (l : List α) (k : Nat) (h : k < l.length) (h1 : q l[k] = true) (h2 : (l.take k).any q = false) : l.findIdx q = k := by
  refine (List.findIdx_eq h).2 ⟨h1, fun j hj => ?_⟩
  have := List.any_eq_false.1 h2 l[j] (List.mem_take_iff_getElem.2 ⟨j, by omega, rfl⟩)
  simpa using this
theorem idx_none {α : Type} (q : α → Bool) (l : List α) (h : l.any q = false) : l.findIdx q = l.length := by
  refine List.findIdx_eq_length.2 fun x hx => ?_
  have := List.any_eq_false.1 h x hx
  simpa using this
theorem NewB.lt {w : World} {B c : Nat} {A : Option Addr} {l : List Itm} (h : NewB w B c A l) (g : Nat) (e : A = some ⟨g, 0, none⟩) : g < w.heap.size := by
  rcases h with ⟨_, rfl, _⟩ | ⟨g2, rfl, _, h⟩
  · cases e
  · injection e with e
    injection e with e
    subst e
    exact h.1.1
set_option maxHeartbeats 8000000 in
theorem tput_any (A : Option Addr) (c : Nat) (l : List Itm) (y : Itm) (w : World) (hR : Itms w A l) (hl : l.length ≤ 1000) (hs : ∀ x ∈ l, x.s.size ≤ 1000000) :
    Calls Tryz.prog 74 #[.slice A l.length c, .string y.s, .agg y.node] w fun e w' => ∃ A' c', e = .returned (.slice A' (putL l y).length c') ∧ NewB w' w.heap.size c' A' (putL l y) ∧ Below w.heap.size w w' := by
  have hpl : (putL l y).length = (putR l y.s).length + 1 := insI_len _ _ _ List.findIdx_le_length
  have hrl : (putR l y.s).length ≤ l.length := List.length_filter_le _ _
  have hrs : ∀ x ∈ putR l y.s, x.s.size ≤ 1000000 := fun x hx => hs x (List.mem_filter.1 hx).1
  obtain ⟨W1, hW1⟩ : ∃ W1, W1 = w.alloc (.cells #[.string y.s] 9) := ⟨_, rfl⟩
  obtain ⟨W2, hW2⟩ : ∃ W2, W2 = W1.alloc (.cells y.node 31) := ⟨_, rfl⟩
  have hb1 := (Below.refl w.heap.size w).alloc (Nat.le_refl _) (.cells #[.string y.s] 9)
  have hx1 := heap_alloc_new w (.cells #[.string y.s] 9)
  have hs1 : (w.alloc (.cells #[.string y.s] 9)).heap.size = w.heap.size + 1 := by simp only [World.alloc, Array.size_push]
  rw [← hW1] at hb1 hx1 hs1
  have hb2 := (Below.refl W1.heap.size W1).alloc (Nat.le_refl _) (.cells y.node 31)
  have hx2 := heap_alloc_new W1 (.cells y.node 31)
  have hs2 : (W1.alloc (.cells y.node 31)).heap.size = W1.heap.size + 1 := by simp only [World.alloc, Array.size_push]
  rw [← hW2] at hb2 hx2 hs2
  have hbx1 : BxS W2 w.heap.size y.s := BxS.below (w := W1) ⟨by omega, (cell_of_row _ _ 0 _ _ _ hx1).trans rfl⟩ hb2
  have hC := withoutP_any A c l y.s w.heap.size W2 ((hR.below hb1).below hb2) (by omega) hbx1
  have hb12 : Below w.heap.size w W2 := hb1.trans (hb2.mono (by omega))
  have HC : Hid (Calls Tryz.prog 99 #[.slice A l.length c, .func (.func 100) #[] #[.pointer (some ⟨w.heap.size, 0, none⟩)]] W2 fun e w' => ∃ A' c', e = .returned (.slice A' (putR l y.s).length c') ∧ (putR l y.s).length ≤ c' ∧ NewB w' W2.heap.size c' A' (putR l y.s) ∧ Below W2.heap.size W2 w') := hC
  rw [show W1.heap.size = w.heap.size + 1 from hs1] at hx2
  have HX2 := Lib.hid hx2
  have HBX := Lib.hid hbx1
  have HB2 := Lib.hid hb12
  have HS2 : Hid (W2.heap.size = w.heap.size + 2) := by show _ = _; omega
  have HPL := Lib.hid hpl
  have HRS := Lib.hid hrs
  have HW : Hid ((w.alloc (.cells #[.string y.s] 9)).alloc (.cells y.node 31) = W2) := by show _ = _; rw [hW2, hW1]
  have HP : Hid (putL l y = insI (putR l y.s) ((putR l y.s).findIdx (putQ y.s)) y) := rfl
  generalize putL l y = P at *
  generalize putR l y.s = L at *
  have hL : L.length ≤ 1000 := by omega
  clear hpl hrl hrs hW1 hW2 hb1 hx1 hs1 hb2 hx2 hs2 hbx1 hC hb12 hR hs
  obtain ⟨y0, y1, y2, y3, y4, y5, y6, y7⟩ := y
  simp only [Itm.node] at HX2 HW ⊢
  dsimp only at HC HBX HP HW
  have hir := info_item
  have hinod := info_nodeT
  go_enter Tryz.func74, Tryz.ntmps74
  go_upto_region 1 with fail
  rw [HW.out]
  generalize hgg : w.heap.size = gx at *
  clear W1
  go_wp2_with fail
  refine HC.out.mono ?_; rintro e w3 ⟨A1, c1, rfl, hlc, hN, hb3⟩
  have HN := Lib.hid hN
  have HB3 := Lib.hid hb3
  have HI := Lib.hid (indexP_any (fun w1 => Below W2.heap.size W2 w1) (fun w1 w2 h k => below_then h k) (putQ y0) L A1 c1 gx w3 (by omega) (fun x hx w4 hb4 => put2_any x y0 gx w4 (HBX.out.below hb4) (HRS.out x hx)) hb3 hN.itms)
  clear hN hb3 HC
  go_wp2_with fail
  refine HI.out.mono ?_; rintro e w4 ⟨hb4, hcase⟩
  have HB4 := Lib.hid (below_then HB3.out hb4)
  have HN4 := Lib.hid (HN.out.below hb4)
  have HIX : Hid (∃ i : Nat, i = L.findIdx (putQ y0) ∧ i ≤ L.length ∧ (e = .returned (.int .i64 (-1)) ∧ i = L.length ∨ e = .returned (.int .i64 i))) := by
    rcases hcase with ⟨rfl, h⟩ | ⟨k, hk, rfl, h1, h2⟩
    · exact ⟨L.length, (idx_none _ _ h).symm, Nat.le_refl _, .inl ⟨rfl, rfl⟩⟩
    · exact ⟨k, (idx_of _ _ k hk h1 h2).symm, Nat.le_of_lt hk, .inr rfl⟩
  clear hb4 hcase HB3 HN HI
  obtain ⟨i, hi, hil, hcase⟩ := HIX.out
  have HIE := Lib.hid hi
  have hxn : w4.heap[gx + 1]? = _ := (HB4.out.block (gx + 1) (by have := HS2.out; omega)).trans HX2.out
  have hxs : w4.cell? ⟨gx, 0, none⟩ = _ := (HBX.out.below HB4.out).2
  have HXN := Lib.hid hxn
  clear hi HIX HX2 HBX hxn
  rcases hcase with ⟨rfl, hil2⟩ | rfl
  · subst hil2
    have hneg : decide ((-1 : Int) < 0) = true := rfl
    go_wp2_with (refine wpList_load_row rfl 31 (.tmp 5) rfl (gx + 1) rfl 31 _ (0, 0) _ HXN.out Tryz.underlying31 rfl info_nodeT ?_)
    obtain ⟨w5, hw5⟩ : ∃ w5, w5 = w4.alloc (.cells #[.string y0, .int .i64 y1, .int .u32 y2, .int .u32 y3, .int .u32 y4, .int .i64 y5, .int .i64 y6, .string y7] 33) := ⟨_, rfl⟩
    have hb5 : Below w4.heap.size w4 w5 := by rw [hw5]; exact below_al w4 _
    have hv5 : w5.heap[w4.heap.size]? = some (.cells #[.string y0, .int .i64 y1, .int .u32 y2, .int .u32 y3, .int .u32 y4, .int .i64 y5, .int .i64 y6, .string y7] 33 (0, 0)) := by rw [hw5]; exact heap_alloc_new w4 _
    rw [← hw5]
    have HINS := Lib.hid (insert_any W2.heap.size A1 c1 w4.heap.size L.length L ⟨y0, y1, y2, y3, y4, y5, y6, y7⟩ w5 (HN4.out.below hb5) hlc (Nat.le_refl _) (by omega) hv5 (fun g e => by have := HN4.out.lt g e; omega) (Nat.le_trans HB4.out.size hb5.size))
    have HB5 := Lib.hid (below_then HB4.out hb5)
    rw [← HIE.out] at HP
    clear hw5 hb5 hv5 HN4 HB4 HXN HRS
    refine HINS.out.mono ?_; rintro e w6 ⟨A2, c2, rfl, hN6, hb6⟩
    have HN6 := Lib.hid hN6
    have HB6 := Lib.hid (HB5.out.trans hb6)
    clear hN6 hb6 HINS HB5
    go_wp2_with fail
    go_ret
    refine ⟨A2, c2, by rw [HPL.out]; rfl, ?_, ?_⟩
    · rw [HP.out]
      rcases HN6.out with h | ⟨g1, e, hg1, hic⟩
      · exact .inl h
      · exact .inr ⟨g1, e, by have := HS2.out; omega, hic⟩
    · subst hgg
      exact HB2.out.trans (HB6.out.mono (by have := HS2.out; omega))
  · have hneg : decide ((i : Int) < 0) = false := decide_eq_false (by omega)
    go_wp2_with (refine wpList_load_row rfl 31 (.tmp 5) rfl (gx + 1) rfl 31 _ (0, 0) _ HXN.out Tryz.underlying31 rfl info_nodeT ?_)
    obtain ⟨w5, hw5⟩ : ∃ w5, w5 = w4.alloc (.cells #[.string y0, .int .i64 y1, .int .u32 y2, .int .u32 y3, .int .u32 y4, .int .i64 y5, .int .i64 y6, .string y7] 33) := ⟨_, rfl⟩
    have hb5 : Below w4.heap.size w4 w5 := by rw [hw5]; exact below_al w4 _
    have hv5 : w5.heap[w4.heap.size]? = some (.cells #[.string y0, .int .i64 y1, .int .u32 y2, .int .u32 y3, .int .u32 y4, .int .i64 y5, .int .i64 y6, .string y7] 33 (0, 0)) := by rw [hw5]; exact heap_alloc_new w4 _
    rw [← hw5]
    have HINS := Lib.hid (insert_any W2.heap.size A1 c1 w4.heap.size i L ⟨y0, y1, y2, y3, y4, y5, y6, y7⟩ w5 (HN4.out.below hb5) hlc hil (by omega) hv5 (fun g e => by have := HN4.out.lt g e; omega) (Nat.le_trans HB4.out.size hb5.size))
    have HB5 := Lib.hid (below_then HB4.out hb5)
    rw [← HIE.out] at HP
    clear hw5 hb5 hv5 HN4 HB4 HXN HRS
    refine HINS.out.mono ?_; rintro e w6 ⟨A2, c2, rfl, hN6, hb6⟩
    have HN6 := Lib.hid hN6
    have HB6 := Lib.hid (HB5.out.trans hb6)
    clear hN6 hb6 HINS HB5
    go_wp2_with fail
    go_ret
    refine ⟨A2, c2, by rw [HPL.out]; rfl, ?_, ?_⟩
    · rw [HP.out]
      rcases HN6.out with h | ⟨g1, e, hg1, hic⟩
      · exact .inl h
      · exact .inr ⟨g1, e, by have := HS2.out; omega, hic⟩
    · subst hgg
      exact HB2.out.trans (HB6.out.mono (by have := HS2.out; omega))
end Go.Proofs.YtpkhpaklhfomkaaGreatDoor
