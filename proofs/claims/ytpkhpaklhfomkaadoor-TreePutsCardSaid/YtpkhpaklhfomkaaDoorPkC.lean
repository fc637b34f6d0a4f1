/-
  Items: the law's Few; Same of the same items.
  TreePuts: the walk (awake's contract is a premise HAW).
  Trees: awake.
  A slice of items as it comes in.
  The walk of TreePuts as the frame wants it.
-/
import Derived.Test.YtpkhpaklhfomkaaDoorItA
import Derived.BigQuiet
import Derived.Test.YtpkhpaklhfomkaaDoorPkA
import Derived.Test.YtpkhpaklhfomkaaDoorPkB
import Derived.Deep.Slices
import Derived.Deep.Strs
import Derived.ArgAppend
import Derived.Deep.SlicePairs

namespace Go.Proofs.YtpkhpaklhfomkaaDoor
set_option maxRecDepth 100000
set_option linter.unusedSimpArgs false
set_option linter.unusedVariables false
open Go.RowKit Go.Joins Go.Deep
def FewP (l : List Itm) : Prop := ∀ x ∈ l, l.length ≤ 60 ∧ x.s.size ≤ 1000 ∧ x.d.size ≤ 5000
instance (l : List Itm) : Decidable (FewP l) := by unfold FewP; infer_instance
set_option maxHeartbeats 8000000 in
theorem fewI_any (A : Option Addr) (cap : Nat) (l : List Itm) (w : World) (hR : Itms w A l) (hl : l.length ≤ 9223372036854775807) :
    Calls Tryd.prog 5 #[.slice A l.length cap] w fun e w' => e = .returned (.bool (decide (FewP l))) ∧ Below w.heap.size w w' := by
  have hir := info_item
  have HR := Lib.hid hR
  obtain ⟨V, hV⟩ : ∃ V, V = decide (FewP l) := ⟨_, rfl⟩
  rw [← hV]
  have HV := Lib.hid hV
  clear hR hV
  go_enter Tryd.func5, Tryd.ntmps5
  go_wp2_with fail
  go_loopw [4, 7] (fun _ v7 wr => ∃ k : Nat, k ≤ l.length ∧ v7 = .int .i64 (k : Nat) ∧ Hid (∀ x ∈ l.take k, l.length ≤ 60 ∧ x.s.size ≤ 1000 ∧ x.d.size ≤ 5000) ∧ Hid (Below w.heap.size w wr)) (fun _ v _ => l.length - (intOf v).toNat)
  case atStart => exact ⟨0, Nat.zero_le _, rfl, (fun s hs => by cases hs), Below.refl _ _⟩
  case round =>
    obtain ⟨k, hk, rfl, HS, HB⟩ := hrel
    by_cases hlt : k < l.length
    · have hd : decide ((k : Int) < (l.length : Int)) = true := decide_eq_true (by omega)
      obtain ⟨b, off, rfl, hb, hcc⟩ := (HR.out.below HB.out) (by omega)
      obtain ⟨c0, c1, c2, c3, c4, c5, c6, c7⟩ := hcc k l[k] (List.getElem?_eq_getElem hlt)
      have HMEM : Hid (l[k] ∈ l) := List.getElem_mem hlt
      have HTK : Hid (l.take (k + 1) = l.take k ++ [l[k]]) := List.take_succ_eq_append_getElem hlt
      have hx0 := heap_alloc_new wr (.cells l[k].cells 38)
      have HB1 := Lib.hid (HB.out.alloc HB.out.size (.cells l[k].cells 38))
      simp only [Itm.cells] at hx0 HB1
      generalize l[k] = x at *
      obtain ⟨x0, x1, x2, x3, x4, x5, x6, x7⟩ := x
      dsimp only at c0 c1 c2 c3 c4 c5 c6 c7 HB1 hx0
      have d0 := (cell_of_row _ _ 0 _ _ _ hx0).trans (show _ = some (.string x0) from rfl)
      have d7 := (cell_of_row _ _ 7 _ _ _ hx0).trans (show _ = some (.string x7) from rfl)
      clear hcc hx0
      by_cases h60 : 60 < l.length
      · have e1 : decide ((60 : Int) < (l.length : Int)) = true := decide_eq_true (by omega)
        have HF : Hid (V = false) := by
          show V = false
          rw [HV.out]
          exact decide_eq_false (fun h => by have := (h _ HMEM.out).1; omega)
        clear HR HS HTK HMEM HV
        go_wp2_with fail
        go_ret
        exact ⟨by rw [HF.out]; rfl, HB1.out⟩
      have e1 : decide ((60 : Int) < (l.length : Int)) = false := decide_eq_false (by omega)
      by_cases h1000 : 1000 < x0.size
      · have e2 : decide ((1000 : Int) < (x0.size : Int)) = true := decide_eq_true (by omega)
        have HF : Hid (V = false) := by
          show V = false
          rw [HV.out]
          exact decide_eq_false (fun h => by have : x0.size ≤ 1000 := (h _ HMEM.out).2.1; omega)
        clear HR HS HTK HMEM HV
        go_wp2_with fail
        go_ret
        exact ⟨by rw [HF.out]; rfl, HB1.out⟩
      have e2 : decide ((1000 : Int) < (x0.size : Int)) = false := decide_eq_false (by omega)
      by_cases h5000 : 5000 < x7.size
      · have e3 : decide ((5000 : Int) < (x7.size : Int)) = true := decide_eq_true (by omega)
        have HF : Hid (V = false) := by
          show V = false
          rw [HV.out]
          exact decide_eq_false (fun h => by have : x7.size ≤ 5000 := (h _ HMEM.out).2.2; omega)
        clear HR HS HTK HMEM HV
        go_wp2_with fail
        go_ret
        exact ⟨by rw [HF.out]; rfl, HB1.out⟩
      have e3 : decide ((5000 : Int) < (x7.size : Int)) = false := decide_eq_false (by omega)
      have HS2 : Hid (∀ y ∈ l.take (k + 1), l.length ≤ 60 ∧ y.s.size ≤ 1000 ∧ y.d.size ≤ 5000) := fun y hy => by
        rw [HTK.out, List.mem_append] at hy
        rcases hy with hy | hy
        · exact HS.out y hy
        · obtain rfl : y = _ := by simpa using hy
          exact ⟨by omega, by show x0.size ≤ 1000; omega, by show x7.size ≤ 5000; omega⟩
      have hk62 : (k : Int) + 1 < 9223372036854775807 := by omega
      clear HR HTK HMEM HV HS
      go_wp2_with fail
      go_roundw
      case rel => exact ⟨k + 1, by omega, by go_num, HS2, HB1⟩
      case measure => simp [intOf]; omega
    · obtain rfl : k = l.length := by omega
      have hd : decide ((l.length : Int) < (l.length : Int)) = false := decide_eq_false (by omega)
      have HF : Hid (V = true) := by
        show V = true
        rw [HV.out]
        refine decide_eq_true (fun x hx => ?_)
        exact HS.out x (by rw [List.take_length]; exact hx)
      go_wp2_with fail
      go_ret
      exact ⟨by rw [HF.out]; rfl, HB.out⟩
set_option maxHeartbeats 8000000 in
theorem sameI_any (A B : Option Addr) (cA cB : Nat) (l : List Itm) (w : World) (hA : Itms w A l) (hB : Itms w B l) (hl : l.length ≤ 1000000) :
    Calls Tryd.prog 10 #[.slice A l.length cA, .slice B l.length cB] w fun e w' => e = .returned (.bool true) ∧ ∃ d, w' = w.drewN d := by
  have hit := info_item
  have HA := Lib.hid hA
  have HB := Lib.hid hB
  clear hA hB
  go_enter Tryd.func10, Tryd.ntmps10
  go_wp2_with fail
  go_loopw [13] (fun i wr => ∃ (k d : Nat), k ≤ l.length ∧ i = .int .i64 (k : Nat) ∧ wr = w.drewN d) (fun i _ => l.length - (intOf i).toNat)
  case atStart => exact ⟨0, 0, Nat.zero_le _, rfl, rfl⟩
  case round =>
    obtain ⟨k, d, hk, rfl, rfl⟩ := hrel
    by_cases hkn : k < l.length
    · obtain ⟨b, off, rfl, hbl, hc⟩ := HA.out (by omega)
      obtain ⟨b2, off2, rfl, hbl2, hc2⟩ := HB.out (by omega)
      obtain ⟨c0, c1, c2, c3, c4, c5, c6, c7⟩ := hc k l[k] (List.getElem?_eq_getElem hkn)
      obtain ⟨e0, e1, e2, e3, e4, e5, e6, e7⟩ := hc2 k l[k] (List.getElem?_eq_getElem hkn)
      clear hc hc2
      generalize l[k] = x at *
      obtain ⟨x0, x1, x2, x3, x4, x5, x6, x7⟩ := x
      dsimp only at c0 c1 c2 c3 c4 c5 c6 c7 e0 e1 e2 e3 e4 e5 e6 e7
      have heq := eqv_node x1 x2 x3 x4 x5 x6 x7
      have hki : (k : Int) < (l.length : Int) := by omega
      go_wp2_with fail
      go_quiet (fail)
      go_wp2_with fail
      go_roundw
      case rel => exact ⟨k + 1, d + nq, by omega, by go_num, by first | rfl | rw [World.drewN_drewN]⟩
      case measure => simp [intOf]; omega
    · obtain rfl : k = l.length := by omega
      go_wp2_with fail
      go_ret
      exact ⟨rfl, d, rfl⟩
end Go.Proofs.YtpkhpaklhfomkaaDoor

namespace Go.Proofs.YtpkhpaklhfomkaaDoor
set_option maxRecDepth 100000
set_option linter.unusedSimpArgs false
set_option linter.unusedVariables false
open Go.RowKit Go.Joins Go.Deep
open Go.Lib hiding intOf
theorem few_bounds {l : List Itm} (h : FewP l) : l.length ≤ 1000 ∧ ∀ x ∈ l, x.s.size ≤ 100000 := by
  refine ⟨?_, fun x hx => by have := h x hx; omega⟩
  cases l with
  | nil => decide
  | cons x l => have := (h x (by simp)).1; omega
theorem puts_fact (l : List Itm) (p : ByteArray) : (!(!(l.any datL) && rgtI l) || (!((drpL p l).any datL) && rgtI (drpL p l))) = true := by
  by_cases h1 : l.any datL = true
  · rw [h1]; rfl
  · have h1 := Bool.eq_false_iff.2 h1
    by_cases h2 : rgtI l = true
    · rw [dat_drop p h1, rgt_drop p h2, h1, h2]; rfl
    · rw [Bool.eq_false_iff.2 h2, h1]; rfl
set_option maxHeartbeats 16000000 in
theorem treePuts_core (A : Option Addr) (c : Nat) (l : List Itm) (y : Itm) (w : World) (hR : Itms w A l) (hl : l.length ≤ 9223372036854775807)
    (hAW : ∀ w1, Below w.heap.size w w1 → Calls Tryd.prog 4 #[] w1 fun e w' => e = .returned (.bool true) ∧ Below w1.heap.size w1 w') :
    Calls Tryd.prog 3 #[.slice A l.length c, .string y.s, .agg y.node] w fun e w' => e = .returned (.bool true) ∧ Below w.heap.size w w' := by
  have hir := info_item
  have hinod := info_nodeT
  obtain ⟨W1, hW1⟩ : ∃ W1, W1 = w.alloc (.cells y.node 25) := ⟨_, rfl⟩
  have hb1 : Below w.heap.size w W1 := by rw [hW1]; exact below_al w _
  have hx1 : W1.heap[w.heap.size]? = some (.cells y.node 25 (0, 0)) := by rw [hW1]; exact heap_alloc_new w _
  have HB1 := Lib.hid hb1
  have HX1 := Lib.hid hx1
  have HW1 := Lib.hid hW1
  have HR := Lib.hid (fun w1 (hb : Below w.heap.size w w1) => hR.below hb)
  have HAW := Lib.hid (hAW W1 hb1)
  have HFEW := Lib.hid (fun w1 (hb : Below w.heap.size w w1) => fewI_any A c l w1 (hR.below hb) hl)
  clear hAW hR hb1 hx1 hW1
  have HBN : Hid (∀ w1, Below w.heap.size w w1 → Below W1.heap.size W1 w1 → w1.heap[w.heap.size]? = some (.cells y.node 25 (0, 0))) := fun w1 _ h => (h.block _ (lt_of_block HX1.out)).trans HX1.out
  have HFP := Lib.hid (find_put l y)
  obtain ⟨p, hp⟩ : ∃ p, p = y.s := ⟨_, rfl⟩
  have HP := Lib.hid hp
  rw [← hp]
  have hnode : y.node = #[.int .i64 y.k, .int .u32 y.m, .int .u32 y.u, .int .u32 y.g, .int .i64 y.t, .int .i64 y.a, .string y.d] := rfl
  rw [hnode]
  rw [hnode] at HW1
  clear hp
  go_enter Tryd.func3, Tryd.ntmps3
  go_upto_region 1 with fail
  rw [← HW1.out]
  go_wp2_with fail
  refine HAW.out.mono ?_; rintro e w2 ⟨rfl, hb2⟩
  have HK2 : Hid (Below W1.heap.size W1 w2) := hb2
  have HB2 := Lib.hid (below_then HB1.out hb2)
  clear hb2 HAW
  have HF := Lib.hid (HFEW.out w2 HB2.out)
  by_cases hf : FewP l
  case neg =>
    rw [decide_eq_false hf] at HF
    go_wp2_with fail
    refine HF.out.mono ?_; rintro e w3 ⟨rfl, hb3⟩
    have HB3 := Lib.hid (below_then HB2.out hb3)
    clear hb3 HF HR HFEW
    go_wp2_with fail
    go_ret
    exact ⟨rfl, HB3.out⟩
  rw [decide_eq_true hf] at HF
  obtain ⟨hl1, hs1⟩ := few_bounds hf
  have HS := Lib.hid hs1
  clear hf hs1 HFEW
  go_wp2_with fail
  refine HF.out.mono ?_; rintro e w3 ⟨rfl, hb3⟩
  have HB3 := Lib.hid (below_then HB2.out hb3)
  have HK3 := Lib.hid (below_then HK2.out hb3)
  clear hb3 HF HB2 HK2
  by_cases hp1 : 1000 < p.size
  case pos =>
    have hp2 : (1000 : Int) < (p.size : Int) := by omega
    clear HR
    go_wp2_with fail
    go_ret
    exact ⟨rfl, HB3.out⟩
  have hp2 : ¬ (1000 : Int) < (p.size : Int) := by omega
  have hx3 := HBN.out w3 HB3.out HK3.out
  rw [hnode] at hx3
  have HX3 := Lib.hid hx3
  have HPUT := Lib.hid (tput_any A c l y w3 (HR.out w3 HB3.out) hl1 (fun x hx => by have := HS.out x hx; omega))
  rw [hnode, ← HP.out] at HPUT
  clear hx3
  go_wp2_with (refine wpList_load_row rfl 25 (.tmp 5) rfl w.heap.size rfl 25 _ (0, 0) _ HX3.out Tryd.underlying25 rfl info_nodeT ?_)
  refine HPUT.out.mono ?_; rintro e w4 ⟨A4, c4, rfl, hN4, hb4⟩
  have HB4 := Lib.hid (below_then HB3.out hb4)
  have HK4 := Lib.hid (below_then HK3.out hb4)
  have HI4 := Lib.hid hN4.itms
  clear hb4 hN4 HPUT HX3 HB3 HK3
  have HLP : Hid ((putL l y).length ≤ 2000) := by
    have h1 : (putL l y).length = (putR l y.s).length + 1 := insI_len _ _ _ List.findIdx_le_length
    have h2 : (putR l y.s).length ≤ l.length := List.length_filter_le _ _
    show _ ≤ _
    omega
  obtain ⟨P, hP⟩ : ∃ P, P = putL l y := ⟨_, rfl⟩
  rw [← hP] at HI4 HLP HFP ⊢
  clear hP
  have HF4 := Lib.hid (tfind_any A4 c4 P p w4 HI4.out (by have := HLP.out; omega))
  have hfv : fndV P p = .tuple #[.agg y.node, .bool true] := by unfold fndV; rw [HP.out, HFP.out]
  rw [hfv, hnode] at HF4
  clear hfv
  go_wp2_with fail
  refine HF4.out.mono ?_; rintro e w5 ⟨rfl, hb5⟩
  obtain ⟨w6, hw6⟩ : ∃ w6, w6 = w5.alloc (.cells #[.int .i64 y.k, .int .u32 y.m, .int .u32 y.u, .int .u32 y.g, .int .i64 y.t, .int .i64 y.a, .string y.d] 25) := ⟨_, rfl⟩
  have HX6 : Hid (w6.heap[w5.heap.size]? = some (.cells #[.int .i64 y.k, .int .u32 y.m, .int .u32 y.u, .int .u32 y.g, .int .i64 y.t, .int .i64 y.a, .string y.d] 25 (0, 0))) := by show _ = _; rw [hw6]; exact heap_alloc_new w5 _
  have h56 : Below w5.heap.size w5 w6 := by rw [hw6]; exact below_al w5 _
  have HB6 := Lib.hid (below_then (below_then HB4.out hb5) h56)
  have HK6 := Lib.hid (below_then (below_then HK4.out hb5) h56)
  have HI6 := Lib.hid ((HI4.out.below hb5).below h56)
  have HW6 := Lib.hid hw6
  clear hb5 h56 HF4 HI4 HB4 HK4 hw6
  have HD := Lib.hid (tdrop_any A4 c4 P p w6 HI6.out (by have := HLP.out; omega))
  go_wp2_with fail
  rw [← HW6.out]
  refine HD.out.mono ?_; rintro e w7 ⟨A7, c7, rfl, hN7, hb7⟩
  have HB7 := Lib.hid (below_then HB6.out hb7)
  have HK7 := Lib.hid (below_then HK6.out hb7)
  have HI7 := Lib.hid hN7.itms
  have HX7 : Hid (w7.heap[w5.heap.size]? = some (.cells #[.int .i64 y.k, .int .u32 y.m, .int .u32 y.u, .int .u32 y.g, .int .i64 y.t, .int .i64 y.a, .string y.d] 25 (0, 0))) := (hb7.block _ (lt_of_block HX6.out)).trans HX6.out
  have HDL : Hid ((drpL p P).length ≤ P.length) := List.length_filter_le _ _
  clear hb7 hN7 HD HX6 HI6 HB6 HK6 HW6
  have hfd : fndV (drpL p P) p = .tuple #[.agg #[.int .i64 0, .int .u32 0, .int .u32 0, .int .u32 0, .int .i64 0, .int .i64 0, .string ⟨#[]⟩], .bool false] := by unfold fndV; rw [find_drop]
  obtain ⟨Q, hQ⟩ : ∃ Q, Q = drpL p P := ⟨_, rfl⟩
  rw [← hQ] at hfd HI7 HDL ⊢
  clear hQ
  have HF7 := Lib.hid (tfind_any A7 c7 Q p w7 HI7.out (by have := HLP.out; have := HDL.out; omega))
  rw [hfd] at HF7
  clear hfd
  go_wp2_with fail
  refine HF7.out.mono ?_; rintro e w8 ⟨rfl, hb8⟩
  obtain ⟨w9, hw9⟩ : ∃ w9, w9 = w8.alloc (.cells #[.int .i64 0, .int .u32 0, .int .u32 0, .int .u32 0, .int .i64 0, .int .i64 0, .string ⟨#[]⟩] 25) := ⟨_, rfl⟩
  have h89 : Below w8.heap.size w8 w9 := by rw [hw9]; exact below_al w8 _
  have HB9 := Lib.hid (below_then (below_then HB7.out hb8) h89)
  have HK9 := Lib.hid (below_then (below_then HK7.out hb8) h89)
  have hx9 := (h89.block _ (Nat.lt_of_lt_of_le (lt_of_block HX7.out) hb8.size)).trans ((hb8.block _ (lt_of_block HX7.out)).trans HX7.out)
  have HX9 := Lib.hid hx9
  have hy9 := HBN.out w9 HB9.out HK9.out
  rw [hnode] at hy9
  have HY9 := Lib.hid hy9
  have HW9 := Lib.hid hw9
  clear hb8 h89 HF7 hw9 hx9 hy9 HX7 HI7 HB7 HK7
  have heq := eqv_node y.k y.m y.u y.g y.t y.a y.d
  have HR9 := Lib.hid (right16_any A c l w9 (HR.out w9 HB9.out) hl1 HS.out)
  go_upto_region 9 with fail
  rw [← HW9.out]
  have a0 := (cell_of_row _ _ 0 _ _ _ HX9.out).trans (show _ = some (.int .i64 y.k) from rfl)
  have a1 := (cell_of_row _ _ 1 _ _ _ HX9.out).trans (show _ = some (.int .u32 y.m) from rfl)
  have a2 := (cell_of_row _ _ 2 _ _ _ HX9.out).trans (show _ = some (.int .u32 y.u) from rfl)
  have a3 := (cell_of_row _ _ 3 _ _ _ HX9.out).trans (show _ = some (.int .u32 y.g) from rfl)
  have a4 := (cell_of_row _ _ 4 _ _ _ HX9.out).trans (show _ = some (.int .i64 y.t) from rfl)
  have a5 := (cell_of_row _ _ 5 _ _ _ HX9.out).trans (show _ = some (.int .i64 y.a) from rfl)
  have a6 := (cell_of_row _ _ 6 _ _ _ HX9.out).trans (show _ = some (.string y.d) from rfl)
  have b0 := (cell_of_row _ _ 0 _ _ _ HY9.out).trans (show _ = some (.int .i64 y.k) from rfl)
  have b1 := (cell_of_row _ _ 1 _ _ _ HY9.out).trans (show _ = some (.int .u32 y.m) from rfl)
  have b2 := (cell_of_row _ _ 2 _ _ _ HY9.out).trans (show _ = some (.int .u32 y.u) from rfl)
  have b3 := (cell_of_row _ _ 3 _ _ _ HY9.out).trans (show _ = some (.int .u32 y.g) from rfl)
  have b4 := (cell_of_row _ _ 4 _ _ _ HY9.out).trans (show _ = some (.int .i64 y.t) from rfl)
  have b5 := (cell_of_row _ _ 5 _ _ _ HY9.out).trans (show _ = some (.int .i64 y.a) from rfl)
  have b6 := (cell_of_row _ _ 6 _ _ _ HY9.out).trans (show _ = some (.string y.d) from rfl)
  clear HW9 HX9 HY9 HBN HX1
  go_wp2_with fail
  refine HR9.out.mono ?_; rintro e w10 ⟨rfl, hb10⟩
  have HB10 := Lib.hid (below_then HB9.out hb10)
  have HPF := Lib.hid (puts_fact l p)
  generalize (!(l.any datL) && rgtI l) = R1 at *
  clear hb10 HR9 HB9 HK9 a0 a1 a2 a3 a4 a5 a6 b0 b1 b2 b3 b4 b5 b6 heq
  cases R1 with
  | false =>
    obtain ⟨wz, hwz⟩ : ∃ wz, wz = w10 := ⟨_, rfl⟩
    have HBZ := Lib.hid HB10.out
    subst hwz
    clear HPF HB10
    have HS1 := Lib.hid (tsort_any A c l wz (HR.out wz HBZ.out) hl1 (fun x hx => by have := HS.out x hx; omega))
    go_wp2_with fail
    refine HS1.out.mono ?_; rintro e u1 ⟨B1, d1, rfl, hN1, hu1⟩
    have HU1 := Lib.hid (below_then HBZ.out hu1)
    have HI1 := Lib.hid hN1.itms
    have HLS : Hid ((sortI l).length = l.length) := sortI_len l
    have HMS : Hid (∀ x ∈ sortI l, x.s.size ≤ 100000) := fun x hx => HS.out x (sortI_mem l x hx)
    have hss := sortI_sort l
    have HS3 := Lib.hid (fun w1 (hb : Below w.heap.size w w1) => tsort_any A c l w1 (HR.out w1 hb) hl1 (fun x hx => by have := HS.out x hx; omega))
    obtain ⟨Z, hZ⟩ : ∃ Z, Z = sortI l := ⟨_, rfl⟩
    rw [← hZ] at HI1 HLS HMS HS3 hss
    have HS2 := Lib.hid (tsort_any B1 d1 Z u1 HI1.out (by have := HLS.out; omega) (fun x hx => by have := HMS.out x hx; omega))
    rw [hss, HLS.out] at HS2
    clear hN1 hu1 HS1 hss hZ HBZ
    go_wp2_with fail
    refine HS2.out.mono ?_; rintro e u2 ⟨B2, d2, rfl, hN2, hu2⟩
    have HU2 := Lib.hid (below_then HU1.out hu2)
    have HI2 := Lib.hid hN2.itms
    have HS4 := Lib.hid (HS3.out u2 HU2.out)
    clear hN2 hu2 HS2 HS3 HI1
    go_wp2_with fail
    refine HS4.out.mono ?_; rintro e u3 ⟨B3, d3, rfl, hN3, hu3⟩
    have HU3 := Lib.hid (below_then HU2.out hu3)
    have HI3 := Lib.hid hN3.itms
    have HSM := Lib.hid (sameI_any B2 B3 d2 d3 Z u3 (HI2.out.below hu3) HI3.out (by have := HLS.out; omega))
    rw [HLS.out] at HSM
    clear hN3 hu3 HS4 HI2 HI3
    go_wp2_with fail
    refine HSM.out.mono ?_; rintro e u4 ⟨rfl, dd, rfl⟩
    go_wp2_with fail
    go_ret
    exact ⟨rfl, below_drewN HU3.out dd⟩
  | true =>
    have HDR := Lib.hid (tdrop_any A c l p w10 (HR.out w10 HB10.out) (by omega))
    have HDL2 : Hid ((drpL p l).length ≤ l.length) := List.length_filter_le _ _
    have HMD : Hid (∀ x ∈ drpL p l, x.s.size ≤ 100000) := fun x hx => HS.out x (List.mem_filter.1 hx).1
    have HRD := Lib.hid (fun A1 c1 w1 (h : Itms w1 A1 (drpL p l)) => right16_any A1 c1 (drpL p l) w1 h (by have := HDL2.out; omega) HMD.out)
    have hpf : (!((drpL p l).any datL) && rgtI (drpL p l)) = true := HPF.out
    rw [hpf] at HRD
    generalize drpL p l = D at *
    clear HPF hpf
    go_wp2_with fail
    refine HDR.out.mono ?_; rintro e w11 ⟨A11, c11, rfl, hN11, hb11⟩
    have HB11 := Lib.hid (below_then HB10.out hb11)
    have HR11 := Lib.hid (HRD.out A11 c11 w11 hN11.itms)
    clear hN11 hb11 HDR HRD HB10
    go_wp2_with fail
    refine HR11.out.mono ?_; rintro e wz ⟨rfl, hb12⟩
    have HBZ := Lib.hid (below_then HB11.out hb12)
    clear hb12 HB11 HR11
    have HS1 := Lib.hid (tsort_any A c l wz (HR.out wz HBZ.out) hl1 (fun x hx => by have := HS.out x hx; omega))
    go_wp2_with fail
    refine HS1.out.mono ?_; rintro e u1 ⟨B1, d1, rfl, hN1, hu1⟩
    have HU1 := Lib.hid (below_then HBZ.out hu1)
    have HI1 := Lib.hid hN1.itms
    have HLS : Hid ((sortI l).length = l.length) := sortI_len l
    have HMS : Hid (∀ x ∈ sortI l, x.s.size ≤ 100000) := fun x hx => HS.out x (sortI_mem l x hx)
    have hss := sortI_sort l
    have HS3 := Lib.hid (fun w1 (hb : Below w.heap.size w w1) => tsort_any A c l w1 (HR.out w1 hb) hl1 (fun x hx => by have := HS.out x hx; omega))
    obtain ⟨Z, hZ⟩ : ∃ Z, Z = sortI l := ⟨_, rfl⟩
    rw [← hZ] at HI1 HLS HMS HS3 hss
    have HS2 := Lib.hid (tsort_any B1 d1 Z u1 HI1.out (by have := HLS.out; omega) (fun x hx => by have := HMS.out x hx; omega))
    rw [hss, HLS.out] at HS2
    clear hN1 hu1 HS1 hss hZ HBZ
    go_wp2_with fail
    refine HS2.out.mono ?_; rintro e u2 ⟨B2, d2, rfl, hN2, hu2⟩
    have HU2 := Lib.hid (below_then HU1.out hu2)
    have HI2 := Lib.hid hN2.itms
    have HS4 := Lib.hid (HS3.out u2 HU2.out)
    clear hN2 hu2 HS2 HS3 HI1
    go_wp2_with fail
    refine HS4.out.mono ?_; rintro e u3 ⟨B3, d3, rfl, hN3, hu3⟩
    have HU3 := Lib.hid (below_then HU2.out hu3)
    have HI3 := Lib.hid hN3.itms
    have HSM := Lib.hid (sameI_any B2 B3 d2 d3 Z u3 (HI2.out.below hu3) HI3.out (by have := HLS.out; omega))
    rw [HLS.out] at HSM
    clear hN3 hu3 HS4 HI2 HI3
    go_wp2_with fail
    refine HSM.out.mono ?_; rintro e u4 ⟨rfl, dd, rfl⟩
    go_wp2_with fail
    go_ret
    exact ⟨rfl, below_drewN HU3.out dd⟩
end Go.Proofs.YtpkhpaklhfomkaaDoor

namespace Go.Proofs.YtpkhpaklhfomkaaDoor
set_option maxRecDepth 100000
set_option linter.unusedSimpArgs false
set_option linter.unusedVariables false
open Go.RowKit Go.Joins Go.Deep Go.WideMaps
open Go.Lib hiding intOf
set_option maxHeartbeats 8000000 in
theorem awake16_any (w : World) (hE : Env w) : Calls Tryd.prog 4 #[] w fun e w' => e = .returned (.bool true) ∧ Below w.heap.size w w' := by
  have hir := info_item
  obtain ⟨w1, hw1⟩ : ∃ w1, w1 = w.alloc (.cells #[.string ⟨#[97, 47, 98]⟩, .int .i64 2, .int .u32 0, .int .u32 0, .int .u32 0, .int .i64 0, .int .i64 0, .string ⟨#[]⟩] 38) := ⟨_, rfl⟩
  have h01 : Below w.heap.size w w1 := by rw [hw1]; exact below_al w _
  have hx1 : w1.heap[w.heap.size]? = some (.cells #[.string ⟨#[97, 47, 98]⟩, .int .i64 2, .int .u32 0, .int .u32 0, .int .u32 0, .int .i64 0, .int .i64 0, .string ⟨#[]⟩] 38 (0, 0)) := by rw [hw1]; exact heap_alloc_new w _
  have hT1 : Itms w1 (some ⟨w.heap.size, 0, none⟩) [itF] := fun _ => ⟨w.heap.size, 0, rfl, lt_of_block hx1, fun k x hk => by
    cases k with
    | succ k => simp at hk
    | zero =>
      simp at hk
      subst hk
      exact ⟨(cell_of_row _ _ 0 _ _ _ hx1).trans rfl, (cell_of_row _ _ 1 _ _ _ hx1).trans rfl, (cell_of_row _ _ 2 _ _ _ hx1).trans rfl, (cell_of_row _ _ 3 _ _ _ hx1).trans rfl, (cell_of_row _ _ 4 _ _ _ hx1).trans rfl, (cell_of_row _ _ 5 _ _ _ hx1).trans rfl, (cell_of_row _ _ 6 _ _ _ hx1).trans rfl, (cell_of_row _ _ 7 _ _ _ hx1).trans rfl⟩⟩
  have HF := Lib.hid (fill_one (some ⟨w.heap.size, 0, none⟩) 1 w1 hT1)
  have hnd : itD.node = #[.int .i64 1, .int .u32 0, .int .u32 0, .int .u32 0, .int .i64 0, .int .i64 0, .string ⟨#[]⟩] := rfl
  rw [hnd] at HF
  have HB1 := Lib.hid h01
  have HW1 := Lib.hid hw1
  have HE := Lib.hid hE
  clear h01 hx1 hT1 hw1 hnd hE
  go_enter Tryd.func4, Tryd.ntmps4
  go_wp2_with fail
  rw [← HW1.out]
  refine HF.out.mono ?_; rintro e w2 ⟨A2, c2, rfl, hN2, hb2⟩
  have HB2 := Lib.hid (below_then HB1.out hb2)
  obtain ⟨b, off, rfl, hb, ⟨c0, _⟩, _⟩ := two_cells hN2.itms
  have HR := Lib.hid (tright_two (some ⟨b, off, none⟩) c2 w2 hN2.itms (HE.out.below HB2.out))
  dsimp only [itD] at c0
  clear hN2 hb2 HF HW1 HB1
  go_wp2_with fail
  refine HR.out.mono ?_; rintro e w3 ⟨rfl, hb3⟩
  have HB3 := Lib.hid (below_then HB2.out hb3)
  clear hb3 HR HB2
  go_wp2_with fail
  go_ret
  exact ⟨rfl, HB3.out⟩
end Go.Proofs.YtpkhpaklhfomkaaDoor

namespace Go.Proofs.YtpkhpaklhfomkaaDoor
set_option maxRecDepth 100000
set_option linter.unusedVariables false
open Go.Joins Go.RowKit Go.Deep Go.ChangeShapes Go.WideShapes
theorem cells_item : Tryd.prog.cellsOf 38 = 8 := by kernel_rfl
theorem cells_node : Tryd.prog.cellsOf 25 = 7 := by kernel_rfl
theorem cells_istr : Tryd.prog.cellsOf 9 = 1 := by kernel_rfl
theorem cells_iint : Tryd.prog.cellsOf 3 = 1 := by kernel_rfl
theorem cells_iu32 : Tryd.prog.cellsOf 23 = 1 := by kernel_rfl
theorem cells_ii64 : Tryd.prog.cellsOf 2 = 1 := by kernel_rfl
/-- What an item's parts are within. -/
def ItmOk (x : Itm) : Prop := x.s.size ≤ maxLen ∧ (Lit.int .i64 x.k).wf = true ∧ (Lit.int .u32 x.m).wf = true ∧ (Lit.int .u32 x.u).wf = true ∧ (Lit.int .u32 x.g).wf = true ∧ (Lit.int .i64 x.t).wf = true ∧ (Lit.int .i64 x.a).wf = true ∧ x.d.size ≤ maxLen
/-- A slice of items is one. -/
theorem itms_row {H : Type} {enc : TypeId × Value → H} {W : World} {fuel : Nat} {a : Option Addr} {len cap : Nat} {x : DataW H × List MemPlace} (h : DataW.trod enc Tryd.prog W 0 (fun _ => true) true fuel 22 [.slice a len cap] = some x) : ∃ l : List Itm, len = l.length ∧ Itms W a l ∧ (∀ f ∈ l, ItmOk f) ∧ (a = none → len = 0 ∧ cap = 0) ∧ len ≤ cap := by
  rcases open_slice Tryd.underlying22 h with ⟨hcs, _⟩ | ⟨ad, len', cap', m, n, D, Pl, hcs, _, hl, hm, hmm, _, hel⟩
  · simp at hcs
    obtain ⟨rfl, rfl, rfl⟩ := hcs
    exact ⟨[], rfl, Itms.nil _ _, fun f hf => (by cases hf), fun _ => ⟨rfl, rfl⟩, Nat.le_refl _⟩
  · simp at hcs
    obtain ⟨rfl, rfl, rfl⟩ := hcs
    have hm2 : len ≤ m := by rw [hmm]; simp; exact hl
    have each : ∀ i, i < len → ∃ t : Itm, ItmOk t ∧ W.cell? (ad.add (i * 8)) = some (.string t.s) ∧ W.cell? (ad.add (i * 8 + 1)) = some (.int .i64 t.k) ∧ W.cell? (ad.add (i * 8 + 2)) = some (.int .u32 t.m) ∧ W.cell? (ad.add (i * 8 + 3)) = some (.int .u32 t.u) ∧ W.cell? (ad.add (i * 8 + 4)) = some (.int .u32 t.g) ∧ W.cell? (ad.add (i * 8 + 5)) = some (.int .i64 t.t) ∧ W.cell? (ad.add (i * 8 + 6)) = some (.int .i64 t.a) ∧ W.cell? (ad.add (i * 8 + 7)) = some (.string t.d) := by
      intro i hi
      obtain ⟨cs', h1, h2⟩ := hel i (by omega)
      rw [cells_item] at h1
      obtain ⟨_, hlen, hcell⟩ := World.cells?_some h1
      obtain ⟨xs, k, hk, hxy, _, hxl, hf⟩ := DataW.trod_struct Tryd.underlying38 h2
      match xs, hxl, cs', hlen with
      | [y0, y1], _, [v0, v1, v2, v3, v4, v5, v6, v7], _ =>
        have g0 := hf 0 _ rfl
        have g1 := hf 1 _ rfl
        simp [cells_istr, cells_node] at g0 g1
        have e0 := hcell 0 (by omega)
        have e1 := hcell 1 (by omega)
        have e2 := hcell 2 (by omega)
        have e3 := hcell 3 (by omega)
        have e4 := hcell 4 (by omega)
        have e5 := hcell 5 (by omega)
        have e6 := hcell 6 (by omega)
        have e7 := hcell 7 (by omega)
        rw [add_add] at e0 e1 e2 e3 e4 e5 e6 e7
        obtain ⟨ys, k2, hk2, hxy2, _, hyl, hf2⟩ := DataW.trod_struct Tryd.underlying25 g1
        match ys, hyl with
        | [z1, z2, z3, z4, z5, z6, z7], _ =>
          have k1 := hf2 0 _ rfl
          have k2 := hf2 1 _ rfl
          have k3 := hf2 2 _ rfl
          have k4 := hf2 3 _ rfl
          have k5 := hf2 4 _ rfl
          have k6 := hf2 5 _ rfl
          have k7 := hf2 6 _ rfl
          simp [cells_istr, cells_iint, cells_iu32, cells_ii64] at k1 k2 k3 k4 k5 k6 k7
          obtain ⟨x0, q0, _, w0⟩ := DataW.trod_string Tryd.underlying9 g0
          obtain ⟨x1, q1, _, w1⟩ := DataW.trod_int Tryd.underlying3 k1
          obtain ⟨x2, q2, _, w2⟩ := DataW.trod_int Tryd.underlying23 k2
          obtain ⟨x3, q3, _, w3⟩ := DataW.trod_int Tryd.underlying23 k3
          obtain ⟨x4, q4, _, w4⟩ := DataW.trod_int Tryd.underlying23 k4
          obtain ⟨x5, q5, _, w5⟩ := DataW.trod_int Tryd.underlying2 k5
          obtain ⟨x6, q6, _, w6⟩ := DataW.trod_int Tryd.underlying2 k6
          obtain ⟨x7, q7, _, w7⟩ := DataW.trod_string Tryd.underlying9 k7
          simp at q0 q1 q2 q3 q4 q5 q6 q7
          subst q0 q1 q2 q3 q4 q5 q6 q7
          exact ⟨⟨x0, x1, x2, x3, x4, x5, x6, x7⟩, ⟨w0, w1, w2, w3, w4, w5, w6, w7⟩, by simpa using e0, by simpa using e1, by simpa using e2, by simpa using e3, by simpa using e4, by simpa using e5, by simpa using e6, by simpa using e7⟩
    obtain ⟨f, hf⟩ := choose_lt each
    refine ⟨(List.range len).map f, by simp, fun hpos => ?_, fun t ht => ?_, fun h => (by cases h), hl⟩
    · rw [List.length_map, List.length_range] at hpos
      obtain ⟨b, off, spot⟩ := ad
      have hz := (hf 0 hpos).2.1
      have hspot : spot = none := by simpa [Addr.add] using World.cell?_spot hz
      subst hspot
      refine ⟨b, off, rfl, block_lt_of_cell hz, fun i x hx => ?_⟩
      have hi : i < len := by have := (List.getElem?_eq_some_iff.1 hx).1; simpa using this
      obtain ⟨h0, c0, c1, c2, c3, c4, c5, c6, c7⟩ := hf i hi
      rw [Addr.add_lit] at c0 c1 c2 c3 c4 c5 c6 c7
      rw [List.getElem?_map, List.getElem?_range hi] at hx
      injection hx with hx
      subst hx
      rw [← Nat.add_assoc] at c1 c2 c3 c4 c5 c6 c7
      exact ⟨c0, c1, c2, c3, c4, c5, c6, c7⟩
    · obtain ⟨i, hi, rfl⟩ := List.mem_map.1 ht
      exact (hf i (by simpa using hi)).1
theorem itms_len {H : Type} {enc : TypeId × Value → H} {W : World} {fuel : Nat} {a : Option Addr} {len cap : Nat} {x : DataW H × List MemPlace} (h : DataW.trod enc Tryd.prog W 0 (fun _ => true) true fuel 22 [.slice a len cap] = some x) : len ≤ maxLen := by
  rcases open_slice Tryd.underlying22 h with ⟨hcs, _⟩ | ⟨ad, len', cap', m, n, D, Pl, hcs, _, hl, hm, hmm, _, hel⟩
  · simp at hcs
    obtain ⟨rfl, rfl, rfl⟩ := hcs
    exact Nat.zero_le _
  · simp at hcs
    obtain ⟨rfl, rfl, rfl⟩ := hcs
    omega
end Go.Proofs.YtpkhpaklhfomkaaDoor

namespace Go.Proofs.YtpkhpaklhfomkaaDoor
set_option maxRecDepth 100000
set_option linter.unusedVariables false
open Go.RowKit Go.Joins Go.Deep
theorem itms_row' {H : Type} {enc : TypeId × Value → H} {W : World} {fuel : Nat} {a : Option Addr} {len cap : Nat} {x : DataW H × List MemPlace} (h : DataW.trod enc Tryd.prog W 0 (fun _ => true) true fuel 22 [.slice a len cap] = some x) : ∃ l : List Itm, len = l.length ∧ Itms W a l ∧ ((∀ f ∈ l, ItmOk f) ∧ l.length ≤ maxLen) ∧ (a = none → len = 0 ∧ cap = 0) ∧ len ≤ cap := by
  obtain ⟨l, h1, h2, h3, h4, h5⟩ := itms_row h
  refine ⟨l, h1, h2, ⟨h3, ?_⟩, h4, h5⟩
  rw [← h1]
  exact itms_len h
theorem treePuts_walk (a0 : Option Addr) (cap0 : Nat) (l0 : List Itm) (p : ByteArray) (n0 n1 n2 n3 n4 n5 : Int) (n6 : ByteArray) {q0 q1 q2 q3 q4 q5 q6 q7 : Prop} (_ : q0) (_ : q1) (_ : q2) (_ : q3) (_ : q4) (_ : q5) (_ : q6) (_ : q7) (w : World) (hp0 : Itms w a0 l0) (ho0 : (∀ f ∈ l0, ItmOk f) ∧ l0.length ≤ maxLen) (hn0 : a0 = none → l0.length = 0 ∧ cap0 = 0) (hc0 : l0.length ≤ cap0) (hE : Env w) :
    Calls Tryd.prog 3 #[.slice a0 l0.length cap0, .string p, .agg #[.int .i64 n0, .int .u32 n1, .int .u32 n2, .int .u32 n3, .int .i64 n4, .int .i64 n5, .string n6]] w fun e w' => e = .returned (.bool true) ∧ Below w.heap.size w w' :=
  treePuts_core a0 cap0 l0 ⟨p, n0, n1, n2, n3, n4, n5, n6⟩ w hp0 (by have := ho0.2; unfold maxLen at this; omega) (fun w1 hb => awake16_any w1 (hE.below hb))
end Go.Proofs.YtpkhpaklhfomkaaDoor
