/-
  Items: the law's Few; Same of the same items.
  DenoteTrees: the walk.
  A slice of items as it comes in.
  The walk of DenoteTrees as the frame wants it.
-/
import Derived.Test.YtpkhpaklhfomkaaGreatDoorItA
import Derived.BigQuiet
import Derived.Test.YtpkhpaklhfomkaaGreatDoorOvB
import Derived.Test.YtpkhpaklhfomkaaGreatDoorOvD
import Derived.Test.YtpkhpaklhfomkaaGreatDoorPkL
import Derived.Test.YtpkhpaklhfomkaaGreatDoorPkD
import Derived.Deep.Slices
import Derived.Deep.Strs
import Derived.ArgAppend
import Derived.Deep.SlicePairs

namespace Go.Proofs.YtpkhpaklhfomkaaGreatDoor
set_option maxRecDepth 100000
set_option linter.unusedSimpArgs false
set_option linter.unusedVariables false
open Go.RowKit Go.Joins Go.Deep
def FewP (l : List Itm) : Prop := ∀ x ∈ l, l.length ≤ 60 ∧ x.s.size ≤ 1000 ∧ x.d.size ≤ 5000
instance (l : List Itm) : Decidable (FewP l) := by unfold FewP; infer_instance
set_option maxHeartbeats 8000000 in
theorem fewI_any (A : Option Addr) (cap : Nat) (l : List Itm) (w : World) (hR : Itms w A l) (hl : l.length ≤ 9223372036854775807) :
    Calls Tryz.prog 7 #[.slice A l.length cap] w fun e w' => e = .returned (.bool (decide (FewP l))) ∧ Below w.heap.size w w' := by
  have hir := info_item
  have HR := Lib.hid hR
  obtain ⟨V, hV⟩ : ∃ V, V = decide (FewP l) := ⟨_, rfl⟩
  rw [← hV]
  have HV := Lib.hid hV
  clear hR hV
  go_enter Tryz.func7, Tryz.ntmps7
  go_wp2_with fail
  go_loopw [4, 7] (fun _ v7 wr => ∃ k : Nat, k ≤ l.length ∧ v7 = .int .i64 (k : Nat) ∧ Hid (∀ x ∈ l.take k, l.length ≤ 60 ∧ x.s.size ≤ 1000 ∧ x.d.size ≤ 5000) ∧ Hid (Below w.heap.size w wr)) (fun _ v _ => l.length - (intOf v).toNat)
  case atStart => exact ⟨0, Nat.zero_le _, rfl, (fun s hs => by cases hs), Below.refl _ _⟩
  case round =>
    obtain ⟨k, hk, rfl, HS, HB⟩ := hrel
    by_cases hlt : k < l.length
    · have hd : decide ((k : Int) < (l.length : Int)) = true := decide_eq_true (by omega)
      obtain ⟨b, off, rfl, hb, hcc⟩ := (HR.out.below HB.out) (by omega)
      obtain ⟨c0, c1, c2, c3, c4, c5, c6, c7⟩ := hcc k l[k] (List.getElem?_eq_getElem hlt)
      have HMEM : Hid (l[k] ∈ l) := List.getElem_mem hlt
      have HTK : Hid (l.take (k + 1) = l.take k ++ [l[k]]) := List.take_succ_eq_append_getElem hlt
      have hx0 := heap_alloc_new wr (.cells l[k].cells 33)
      have HB1 := Lib.hid (HB.out.alloc HB.out.size (.cells l[k].cells 33))
      simp only [Itm.cells] at hx0 HB1
      generalize l[k] = x at *
      obtain ⟨x0, x1, x2, x3, x4, x5, x6, x7⟩ := x
      dsimp only at c0 c1 c2 c3 c4 c5 c6 c7 HB1 hx0
      have d0 := (cell_of_row _ _ 0 _ _ _ hx0).trans (show _ = some (.string x0) from rfl)
      have d7 := (cell_of_row _ _ 7 _ _ _ hx0).trans (show _ = some (.string x7) from rfl)
      clear hcc hx0
      by_cases h60 : 60 < l.length
      · have e1 : decide ((60 : Int) < (l.length : Int)) = true := decide_eq_true (by omega)
        have HF : Hid (V = false) := by
          show V = false
          rw [HV.out]
          exact decide_eq_false (fun h => by have := (h _ HMEM.out).1; omega)
        clear HR HS HTK HMEM HV
        go_wp2_with fail
        go_ret
        exact ⟨by rw [HF.out]; rfl, HB1.out⟩
      have e1 : decide ((60 : Int) < (l.length : Int)) = false := decide_eq_false (by omega)
      by_cases h1000 : 1000 < x0.size
      · have e2 : decide ((1000 : Int) < (x0.size : Int)) = true := decide_eq_true (by omega)
        have HF : Hid (V = false) := by
          show V = false
          rw [HV.out]
          exact decide_eq_false (fun h => by have : x0.size ≤ 1000 := (h _ HMEM.out).2.1; omega)
        clear HR HS HTK HMEM HV
        go_wp2_with fail
        go_ret
        exact ⟨by rw [HF.out]; rfl, HB1.out⟩
      have e2 : decide ((1000 : Int) < (x0.size : Int)) = false := decide_eq_false (by omega)
      by_cases h5000 : 5000 < x7.size
      · have e3 : decide ((5000 : Int) < (x7.size : Int)) = true := decide_eq_true (by omega)
        have HF : Hid (V = false) := by
          show V = false
          rw [HV.out]
          exact decide_eq_false (fun h => by have : x7.size ≤ 5000 := (h _ HMEM.out).2.2; omega)
        clear HR HS HTK HMEM HV
        go_wp2_with fail
        go_ret
        exact ⟨by rw [HF.out]; rfl, HB1.out⟩
      have e3 : decide ((5000 : Int) < (x7.size : Int)) = false := decide_eq_false (by omega)
      have HS2 : Hid (∀ y ∈ l.take (k + 1), l.length ≤ 60 ∧ y.s.size ≤ 1000 ∧ y.d.size ≤ 5000) := fun y hy => by
        rw [HTK.out, List.mem_append] at hy
        rcases hy with hy | hy
        · exact HS.out y hy
        · obtain rfl : y = _ := by simpa using hy
          exact ⟨by omega, by show x0.size ≤ 1000; omega, by show x7.size ≤ 5000; omega⟩
      have hk62 : (k : Int) + 1 < 9223372036854775807 := by omega
      clear HR HTK HMEM HV HS
      go_wp2_with fail
      go_roundw
      case rel => exact ⟨k + 1, by omega, by go_num, HS2, HB1⟩
      case measure => simp [intOf]; omega
    · obtain rfl : k = l.length := by omega
      have hd : decide ((l.length : Int) < (l.length : Int)) = false := decide_eq_false (by omega)
      have HF : Hid (V = true) := by
        show V = true
        rw [HV.out]
        refine decide_eq_true (fun x hx => ?_)
        exact HS.out x (by rw [List.take_length]; exact hx)
      go_wp2_with fail
      go_ret
      exact ⟨by rw [HF.out]; rfl, HB.out⟩
set_option maxHeartbeats 8000000 in
theorem sameI_any (A B : Option Addr) (cA cB : Nat) (l : List Itm) (w : World) (hA : Itms w A l) (hB : Itms w B l) (hl : l.length ≤ 1000000) :
    Calls Tryz.prog 10 #[.slice A l.length cA, .slice B l.length cB] w fun e w' => e = .returned (.bool true) ∧ ∃ d, w' = w.drewN d := by
  have hit := info_item
  have HA := Lib.hid hA
  have HB := Lib.hid hB
  clear hA hB
  go_enter Tryz.func10, Tryz.ntmps10
  go_wp2_with fail
  go_loopw [13] (fun i wr => ∃ (k d : Nat), k ≤ l.length ∧ i = .int .i64 (k : Nat) ∧ wr = w.drewN d) (fun i _ => l.length - (intOf i).toNat)
  case atStart => exact ⟨0, 0, Nat.zero_le _, rfl, rfl⟩
  case round =>
    obtain ⟨k, d, hk, rfl, rfl⟩ := hrel
    by_cases hkn : k < l.length
    · obtain ⟨b, off, rfl, hbl, hc⟩ := HA.out (by omega)
      obtain ⟨b2, off2, rfl, hbl2, hc2⟩ := HB.out (by omega)
      obtain ⟨c0, c1, c2, c3, c4, c5, c6, c7⟩ := hc k l[k] (List.getElem?_eq_getElem hkn)
      obtain ⟨e0, e1, e2, e3, e4, e5, e6, e7⟩ := hc2 k l[k] (List.getElem?_eq_getElem hkn)
      clear hc hc2
      generalize l[k] = x at *
      obtain ⟨x0, x1, x2, x3, x4, x5, x6, x7⟩ := x
      dsimp only at c0 c1 c2 c3 c4 c5 c6 c7 e0 e1 e2 e3 e4 e5 e6 e7
      have heq := eqv_node x1 x2 x3 x4 x5 x6 x7
      have hki : (k : Int) < (l.length : Int) := by omega
      go_wp2_with fail
      go_quiet (fail)
      go_wp2_with fail
      go_roundw
      case rel => exact ⟨k + 1, d + nq, by omega, by go_num, by first | rfl | rw [World.drewN_drewN]⟩
      case measure => simp [intOf]; omega
    · obtain rfl : k = l.length := by omega
      go_wp2_with fail
      go_ret
      exact ⟨rfl, d, rfl⟩
end Go.Proofs.YtpkhpaklhfomkaaGreatDoor

namespace Go.Proofs.YtpkhpaklhfomkaaGreatDoor
set_option maxRecDepth 100000
set_option linter.unusedSimpArgs false
set_option linter.unusedVariables false
open Go.RowKit Go.Joins Go.Deep
open Go.Lib hiding intOf
theorem few_boundsT {l : List Itm} (h : FewP l) : l.length ≤ 100 ∧ ∀ x ∈ l, x.s.size ≤ 100000 := by
  refine ⟨?_, fun x hx => by have := h x hx; omega⟩
  cases l with
  | nil => decide
  | cons x l => have := (h x (by simp)).1; omega
set_option maxHeartbeats 16000000 in
theorem denoteTrees_core (A B : Option Addr) (cA cB : Nat) (t u : List Itm) (w : World) (hA : Itms w A t) (hB : Itms w B u) (hlt : t.length ≤ 9223372036854775807) (hlu : u.length ≤ 9223372036854775807) :
    Calls Tryz.prog 3 #[.slice A t.length cA, .slice B u.length cB] w fun e w' => e = .returned (.bool true) ∧ Below w.heap.size w w' := by
  have HA := Lib.hid (fun w1 (hb : Below w.heap.size w w1) => hA.below hb)
  have HB := Lib.hid (fun w1 (hb : Below w.heap.size w w1) => hB.below hb)
  have HF1 := Lib.hid (fun w1 (hb : Below w.heap.size w w1) => fewI_any A cA t w1 (hA.below hb) hlt)
  have HF2 := Lib.hid (fun w1 (hb : Below w.heap.size w w1) => fewI_any B cB u w1 (hB.below hb) hlu)
  have HAW := Lib.hid (awake21_any w)
  clear hA hB
  go_enter Tryz.func3, Tryz.ntmps3
  go_wp2_with fail
  refine HAW.out.mono ?_; rintro e w1 ⟨rfl, hb1⟩
  have HB1 := Lib.hid hb1
  have H1 := Lib.hid (HF1.out w1 hb1)
  clear hb1 HAW HF1
  by_cases hf1 : FewP t
  case neg =>
    rw [decide_eq_false hf1] at H1
    go_wp2_with fail
    refine H1.out.mono ?_; rintro e w2 ⟨rfl, hb2⟩
    have HB2 := Lib.hid (below_then HB1.out hb2)
    clear hb2 H1 HA HB HF2
    go_wp2_with fail
    go_ret
    exact ⟨rfl, HB2.out⟩
  rw [decide_eq_true hf1] at H1
  obtain ⟨hlt1, hst⟩ := few_boundsT hf1
  have HST := Lib.hid hst
  clear hf1 hst
  go_wp2_with fail
  refine H1.out.mono ?_; rintro e w2 ⟨rfl, hb2⟩
  have HB2 := Lib.hid (below_then HB1.out hb2)
  have H2 := Lib.hid (HF2.out w2 HB2.out)
  clear hb2 H1 HB1 HF2
  by_cases hf2 : FewP u
  case neg =>
    rw [decide_eq_false hf2] at H2
    go_wp2_with fail
    refine H2.out.mono ?_; rintro e w3 ⟨rfl, hb3⟩
    have HB3 := Lib.hid (below_then HB2.out hb3)
    clear hb3 H2 HA HB
    go_wp2_with fail
    go_ret
    exact ⟨rfl, HB3.out⟩
  rw [decide_eq_true hf2] at H2
  obtain ⟨hlu1, hsu⟩ := few_boundsT hf2
  have HSU := Lib.hid hsu
  clear hf2 hsu
  go_wp2_with fail
  refine H2.out.mono ?_; rintro e w3 ⟨rfl, hb3⟩
  have HB3 := Lib.hid (below_then HB2.out hb3)
  have HO1 := Lib.hid (odds_any A cA t w3 (HA.out w3 HB3.out) (by omega) HST.out)
  have HO2 := Lib.hid (fun w1 (hb : Below w.heap.size w w1) => rodds_any A cA t w1 (HA.out w1 hb) (by omega) HST.out)
  clear hb3 H2 HB2
  generalize oddS t = R1 at *
  generalize oddB t = R2 at *
  go_wp2_with fail
  refine HO1.out.mono ?_; rintro e w4 ⟨rfl, hb4⟩
  have HB4 := Lib.hid (below_then HB3.out hb4)
  have HO3 := Lib.hid (HO2.out w4 HB4.out)
  clear hb4 HO1 HO2 HB3
  go_wp2_with fail
  refine HO3.out.mono ?_; rintro e w5 ⟨rfl, hb5⟩
  have HB5 := Lib.hid (below_then HB4.out hb5)
  have HV1 := Lib.hid (override_any A B cA cB t u w5 (HA.out w5 HB5.out) (HB.out w5 HB5.out) (by omega) (by omega) HST.out HSU.out)
  have HV2 := Lib.hid (fun w1 (hb : Below w.heap.size w w1) => roverride_any A B cA cB t u w1 (HA.out w1 hb) (HB.out w1 hb) (by omega) (by omega) HST.out HSU.out)
  have HOL : Hid ((ovrL t u).length ≤ 200) := by
    show (sortI (leftL t u ++ u)).length ≤ 200
    rw [sortI_len, List.length_append]
    have : (leftL t u).length ≤ t.length := List.length_filter_le _ _
    omega
  clear hb5 HO3 HB4
  generalize ovrL t u = O at *
  have h1 : (R1.toList == R1.toList) = true := by simp
  have h2 : (R2 == R2) = true := by simp
  go_wp2_with fail
  refine HV1.out.mono ?_; rintro e w6 ⟨A6, c6, rfl, hN6, hb6⟩
  have HB6 := Lib.hid (below_then HB5.out hb6)
  have HI6 := Lib.hid hN6.itms
  have HV3 := Lib.hid (HV2.out w6 HB6.out)
  clear hb6 hN6 HV1 HV2 HB5
  go_wp2_with fail
  refine HV3.out.mono ?_; rintro e w7 ⟨A7, c7, rfl, hN7, hb7⟩
  have HB7 := Lib.hid (below_then HB6.out hb7)
  have HSM := Lib.hid (sameI_any A6 A7 c6 c7 O w7 (HI6.out.below hb7) hN7.itms (by have := HOL.out; omega))
  clear hb7 hN7 HV3 HB6 HI6
  go_wp2_with fail
  refine HSM.out.mono ?_; rintro e w8 ⟨rfl, dd, rfl⟩
  go_wp2_with fail
  go_ret
  exact ⟨rfl, below_drewN HB7.out dd⟩
end Go.Proofs.YtpkhpaklhfomkaaGreatDoor

namespace Go.Proofs.YtpkhpaklhfomkaaGreatDoor
set_option maxRecDepth 100000
set_option linter.unusedVariables false
open Go.Joins Go.RowKit Go.Deep Go.ChangeShapes Go.WideShapes
theorem cells_item : Tryz.prog.cellsOf 33 = 8 := by kernel_rfl
theorem cells_node : Tryz.prog.cellsOf 31 = 7 := by kernel_rfl
theorem cells_istr : Tryz.prog.cellsOf 9 = 1 := by kernel_rfl
theorem cells_iint : Tryz.prog.cellsOf 3 = 1 := by kernel_rfl
theorem cells_iu32 : Tryz.prog.cellsOf 29 = 1 := by kernel_rfl
theorem cells_ii64 : Tryz.prog.cellsOf 2 = 1 := by kernel_rfl
/-- What an item's parts are within. -/
def ItmOk (x : Itm) : Prop := x.s.size ≤ maxLen ∧ (Lit.int .i64 x.k).wf = true ∧ (Lit.int .u32 x.m).wf = true ∧ (Lit.int .u32 x.u).wf = true ∧ (Lit.int .u32 x.g).wf = true ∧ (Lit.int .i64 x.t).wf = true ∧ (Lit.int .i64 x.a).wf = true ∧ x.d.size ≤ maxLen
/-- A slice of items is one. -/
theorem itms_row {H : Type} {enc : TypeId × Value → H} {W : World} {fuel : Nat} {a : Option Addr} {len cap : Nat} {x : DataW H × List MemPlace} (h : DataW.trod enc Tryz.prog W 0 (fun _ => true) true fuel 22 [.slice a len cap] = some x) : ∃ l : List Itm, len = l.length ∧ Itms W a l ∧ (∀ f ∈ l, ItmOk f) ∧ (a = none → len = 0 ∧ cap = 0) ∧ len ≤ cap := by
  rcases open_slice Tryz.underlying22 h with ⟨hcs, _⟩ | ⟨ad, len', cap', m, n, D, Pl, hcs, _, hl, hm, hmm, _, hel⟩
  · simp at hcs
    obtain ⟨rfl, rfl, rfl⟩ := hcs
    exact ⟨[], rfl, Itms.nil _ _, fun f hf => (by cases hf), fun _ => ⟨rfl, rfl⟩, Nat.le_refl _⟩
  · simp at hcs
    obtain ⟨rfl, rfl, rfl⟩ := hcs
    have hm2 : len ≤ m := by rw [hmm]; simp; exact hl
    have each : ∀ i, i < len → ∃ t : Itm, ItmOk t ∧ W.cell? (ad.add (i * 8)) = some (.string t.s) ∧ W.cell? (ad.add (i * 8 + 1)) = some (.int .i64 t.k) ∧ W.cell? (ad.add (i * 8 + 2)) = some (.int .u32 t.m) ∧ W.cell? (ad.add (i * 8 + 3)) = some (.int .u32 t.u) ∧ W.cell? (ad.add (i * 8 + 4)) = some (.int .u32 t.g) ∧ W.cell? (ad.add (i * 8 + 5)) = some (.int .i64 t.t) ∧ W.cell? (ad.add (i * 8 + 6)) = some (.int .i64 t.a) ∧ W.cell? (ad.add (i * 8 + 7)) = some (.string t.d) := by
      intro i hi
      obtain ⟨cs', h1, h2⟩ := hel i (by omega)
      rw [cells_item] at h1
      obtain ⟨_, hlen, hcell⟩ := World.cells?_some h1
      obtain ⟨xs, k, hk, hxy, _, hxl, hf⟩ := DataW.trod_struct Tryz.underlying33 h2
      match xs, hxl, cs', hlen with
      | [y0, y1], _, [v0, v1, v2, v3, v4, v5, v6, v7], _ =>
        have g0 := hf 0 _ rfl
        have g1 := hf 1 _ rfl
        simp [cells_istr, cells_node] at g0 g1
        have e0 := hcell 0 (by omega)
        have e1 := hcell 1 (by omega)
        have e2 := hcell 2 (by omega)
        have e3 := hcell 3 (by omega)
        have e4 := hcell 4 (by omega)
        have e5 := hcell 5 (by omega)
        have e6 := hcell 6 (by omega)
        have e7 := hcell 7 (by omega)
        rw [add_add] at e0 e1 e2 e3 e4 e5 e6 e7
        obtain ⟨ys, k2, hk2, hxy2, _, hyl, hf2⟩ := DataW.trod_struct Tryz.underlying31 g1
        match ys, hyl with
        | [z1, z2, z3, z4, z5, z6, z7], _ =>
          have k1 := hf2 0 _ rfl
          have k2 := hf2 1 _ rfl
          have k3 := hf2 2 _ rfl
          have k4 := hf2 3 _ rfl
          have k5 := hf2 4 _ rfl
          have k6 := hf2 5 _ rfl
          have k7 := hf2 6 _ rfl
          simp [cells_istr, cells_iint, cells_iu32, cells_ii64] at k1 k2 k3 k4 k5 k6 k7
          obtain ⟨x0, q0, _, w0⟩ := DataW.trod_string Tryz.underlying9 g0
          obtain ⟨x1, q1, _, w1⟩ := DataW.trod_int Tryz.underlying3 k1
          obtain ⟨x2, q2, _, w2⟩ := DataW.trod_int Tryz.underlying29 k2
          obtain ⟨x3, q3, _, w3⟩ := DataW.trod_int Tryz.underlying29 k3
          obtain ⟨x4, q4, _, w4⟩ := DataW.trod_int Tryz.underlying29 k4
          obtain ⟨x5, q5, _, w5⟩ := DataW.trod_int Tryz.underlying2 k5
          obtain ⟨x6, q6, _, w6⟩ := DataW.trod_int Tryz.underlying2 k6
          obtain ⟨x7, q7, _, w7⟩ := DataW.trod_string Tryz.underlying9 k7
          simp at q0 q1 q2 q3 q4 q5 q6 q7
          subst q0 q1 q2 q3 q4 q5 q6 q7
          exact ⟨⟨x0, x1, x2, x3, x4, x5, x6, x7⟩, ⟨w0, w1, w2, w3, w4, w5, w6, w7⟩, by simpa using e0, by simpa using e1, by simpa using e2, by simpa using e3, by simpa using e4, by simpa using e5, by simpa using e6, by simpa using e7⟩
    obtain ⟨f, hf⟩ := choose_lt each
    refine ⟨(List.range len).map f, by simp, fun hpos => ?_, fun t ht => ?_, fun h => (by cases h), hl⟩
    · rw [List.length_map, List.length_range] at hpos
      obtain ⟨b, off, spot⟩ := ad
      have hz := (hf 0 hpos).2.1
      have hspot : spot = none := by simpa [Addr.add] using World.cell?_spot hz
      subst hspot
      refine ⟨b, off, rfl, block_lt_of_cell hz, fun i x hx => ?_⟩
      have hi : i < len := by have := (List.getElem?_eq_some_iff.1 hx).1; simpa using this
      obtain ⟨h0, c0, c1, c2, c3, c4, c5, c6, c7⟩ := hf i hi
      rw [Addr.add_lit] at c0 c1 c2 c3 c4 c5 c6 c7
      rw [List.getElem?_map, List.getElem?_range hi] at hx
      injection hx with hx
      subst hx
      rw [← Nat.add_assoc] at c1 c2 c3 c4 c5 c6 c7
      exact ⟨c0, c1, c2, c3, c4, c5, c6, c7⟩
    · obtain ⟨i, hi, rfl⟩ := List.mem_map.1 ht
      exact (hf i (by simpa using hi)).1
theorem itms_len {H : Type} {enc : TypeId × Value → H} {W : World} {fuel : Nat} {a : Option Addr} {len cap : Nat} {x : DataW H × List MemPlace} (h : DataW.trod enc Tryz.prog W 0 (fun _ => true) true fuel 22 [.slice a len cap] = some x) : len ≤ maxLen := by
  rcases open_slice Tryz.underlying22 h with ⟨hcs, _⟩ | ⟨ad, len', cap', m, n, D, Pl, hcs, _, hl, hm, hmm, _, hel⟩
  · simp at hcs
    obtain ⟨rfl, rfl, rfl⟩ := hcs
    exact Nat.zero_le _
  · simp at hcs
    obtain ⟨rfl, rfl, rfl⟩ := hcs
    omega
end Go.Proofs.YtpkhpaklhfomkaaGreatDoor

namespace Go.Proofs.YtpkhpaklhfomkaaGreatDoor
set_option maxRecDepth 100000
set_option linter.unusedVariables false
open Go.RowKit Go.Joins Go.Deep
theorem itms_row' {H : Type} {enc : TypeId × Value → H} {W : World} {fuel : Nat} {a : Option Addr} {len cap : Nat} {x : DataW H × List MemPlace} (h : DataW.trod enc Tryz.prog W 0 (fun _ => true) true fuel 22 [.slice a len cap] = some x) : ∃ l : List Itm, len = l.length ∧ Itms W a l ∧ ((∀ f ∈ l, ItmOk f) ∧ l.length ≤ maxLen) ∧ (a = none → len = 0 ∧ cap = 0) ∧ len ≤ cap := by
  obtain ⟨l, h1, h2, h3, h4, h5⟩ := itms_row h
  refine ⟨l, h1, h2, ⟨h3, ?_⟩, h4, h5⟩
  rw [← h1]
  exact itms_len h
theorem denoteTrees_walk (a0 : Option Addr) (cap0 : Nat) (l0 : List Itm) (a1 : Option Addr) (cap1 : Nat) (l1 : List Itm) (w : World) (hp0 : Itms w a0 l0) (ho0 : (∀ f ∈ l0, ItmOk f) ∧ l0.length ≤ maxLen) (hn0 : a0 = none → l0.length = 0 ∧ cap0 = 0) (hc0 : l0.length ≤ cap0) (hp1 : Itms w a1 l1) (ho1 : (∀ f ∈ l1, ItmOk f) ∧ l1.length ≤ maxLen) (hn1 : a1 = none → l1.length = 0 ∧ cap1 = 0) (hc1 : l1.length ≤ cap1) :
    Calls Tryz.prog 3 #[.slice a0 l0.length cap0, .slice a1 l1.length cap1] w fun e w' => e = .returned (.bool true) ∧ Below w.heap.size w w' :=
  denoteTrees_core a0 a1 cap0 cap1 l0 l1 w hp0 hp1 (by have := ho0.2; unfold maxLen at this; omega) (by have := ho1.2; unfold maxLen at this; omega)
end Go.Proofs.YtpkhpaklhfomkaaGreatDoor
