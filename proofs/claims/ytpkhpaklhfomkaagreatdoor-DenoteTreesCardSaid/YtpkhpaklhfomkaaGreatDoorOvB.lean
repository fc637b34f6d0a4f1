/-
  Trees: denote's Override.
-/
import Derived.Test.YtpkhpaklhfomkaaGreatDoorOvA
import Derived.Test.YtpkhpaklhfomkaaGreatDoorOvC
import Derived.Test.YtpkhpaklhfomkaaGreatDoorPkH
import Derived.StringKeys
import Derived.Maps.Own
import Derived.Maps.OwnSet
namespace Go.Proofs.YtpkhpaklhfomkaaGreatDoor
set_option maxRecDepth 100000
set_option linter.unusedSimpArgs false
set_option linter.unusedVariables false
open Go.RowKit Go.Joins Go.Deep Go.WideMaps
open Go.Lib hiding intOf
theorem keyO : Maps.Keyed Tryz.prog 9 := Maps.string_keyed Tryz.underlying9
theorem zero_unitO (w : World) : (zeroValue 54).run Tryz.prog w = .ok (.agg #[]) w := by kernel_rfl
/-- A set of texts. -/
def setS (ks : List ByteArray) : DataW Unit := Maps.setOf (.agg []) (ks.map fun s => Lit.string s.data.toList)
theorem setS_snoc (ks : List ByteArray) (x : ByteArray) : setS (ks ++ [x]) = (setS ks).put (.string x.data.toList) (.agg []) := by
  unfold setS
  rw [List.map_append]
  exact Maps.setOf_snoc _ _ _
theorem setS_has (ks : List ByteArray) (p : ByteArray) : Maps.has (setS ks) (.string p.data.toList) = ks.any (fun s => s.toList == p.toList) := by
  unfold setS Maps.setOf
  rw [Maps.has_fold _ _ _ _ ⟨[], rfl⟩ (fun y hy => by obtain ⟨i, _, rfl⟩ := List.mem_map.1 hy; trivial)]
  rw [show Maps.has (DataW.map [] : DataW Unit) (.string p.data.toList) = false from rfl, Bool.false_or, List.any_map]
  rw [Bool.eq_iff_iff, List.any_eq_true, List.any_eq_true]
  constructor
  · rintro ⟨y, hy, h⟩
    have := WideAt.sameKey_eq (a := Lit.string y.data.toList) (b := Lit.string p.data.toList) h
    injection this with h2
    exact ⟨y, hy, by rw [Lib.toList_data, Lib.toList_data, h2]; simp⟩
  · rintro ⟨y, hy, h⟩
    have h2 := eq_of_beq h
    rw [Lib.toList_data, Lib.toList_data] at h2
    refine ⟨y, hy, ?_⟩
    show Lit.sameKey (Lit.string y.data.toList) (Lit.string p.data.toList) = true
    rw [h2]
    exact WideAt.sameKey_self (a := Lit.string p.data.toList) trivial
/-- A box with a set of the paths of some items. -/
def BxM (w : World) (gb gm n : Nat) (u : List Itm) : Prop := gb < w.heap.size ∧ w.cell? ⟨gb, 0, none⟩ = some (.map (some gm)) ∧ w.ownsMap Tryz.prog 9 (unitElem (H := Unit)) gm n (setS (u.map (·.s)))
theorem ownsMap_below {w w' : World} {R : Value → Option (DataW Unit × List MemPlace)} {b n : Nat} {D : DataW Unit} (h : w.ownsMap Tryz.prog 9 R b n D) (hb : Below w.heap.size w w') : w'.ownsMap Tryz.prog 9 R b n D :=
  h.kept (row := none) ⟨hb.os, hb.tape, hb.output, hb.size, fun i hi _ => hb.block i hi⟩ (by simp)
theorem BxM.below {w w' : World} {gb gm n : Nat} {u : List Itm} (h : BxM w gb gm n u) (hb : Below w.heap.size w w') : BxM w' gb gm n u := ⟨Nat.lt_of_lt_of_le h.1 hb.size, (hb.cell h.1).trans h.2.1, ownsMap_below h.2.2 hb⟩
theorem has_paths (u : List Itm) (p : ByteArray) : Maps.has (setS (u.map (·.s))) (.string p.data.toList) = hasP u p := by
  rw [setS_has, List.any_map]
  rfl
set_option maxHeartbeats 4000000 in
theorem ov1_any (X : Itm) (u : List Itm) (gb gm n : Nat) (w : World) (h : BxM w gb gm n u) (hX : X.s.size ≤ maxLen) : Calls Tryz.prog 26 #[.agg X.cells, .pointer (some ⟨gb, 0, none⟩)] w fun e w' => e = .returned (.bool (hasP u X.s)) ∧ Below w.heap.size w w' := by
  have hir := info_item
  have hzu := zero_unitO
  have hb1 := below_al w (.cells X.cells 33)
  have hx1 := heap_alloc_new w (.cells X.cells 33)
  have h1 := h.below hb1
  simp only [Itm.cells] at hx1 hb1 h1
  have x0 := (cell_of_row _ _ 0 _ _ _ hx1).trans (show _ = some (.string X.s) from rfl)
  have g0 := h1.2.1
  have HM := Lib.hid h1.2.2
  have HH := Lib.hid (has_paths u X.s)
  have hk := keyOf_string_mk (P := Tryz.prog) Tryz.underlying9 hX
  have HK := Lib.hid hk
  have HB1 := Lib.hid hb1
  simp only [Itm.cells]
  generalize hasP u X.s = V at *
  clear hx1 hb1 h1 h hk
  go_enter Tryz.func26, Tryz.ntmps26
  go_wp2_with (at_lookup; refine wpList_lookup_own_unit _ rfl _ _ 53 rfl 9 54 keyO Tryz.underlying53 (zero_unitO _) gm n _ rfl HM.out _ _ rfl HK.out ?_; rw [HH.out])
  go_ret
  exact ⟨rfl, below_then HB1.out (below_al _ _)⟩
set_option maxHeartbeats 8000000 in
theorem override_any (A B : Option Addr) (cA cB : Nat) (t u : List Itm) (w : World) (hA : Itms w A t) (hB : Itms w B u) (hlt : t.length ≤ 400) (hlu : u.length ≤ 400) (hst : ∀ x ∈ t, x.s.size ≤ 100000) (hsu : ∀ x ∈ u, x.s.size ≤ 100000) :
    Calls Tryz.prog 11 #[.slice A t.length cA, .slice B u.length cB] w fun e w' => ∃ A' c', e = .returned (.slice A' (ovrL t u).length c') ∧ NewI w' w.heap.size A' (ovrL t u) ∧ Below w.heap.size w w' := by
  have hir := info_item
  have hmm := @run_makeMap Tryz.prog
  obtain ⟨W1, hW1⟩ : ∃ W1, W1 = (w.alloc (.map #[] 0)).alloc (.cells #[.map (some w.heap.size)] 53) := ⟨_, rfl⟩
  have hb1 : Below w.heap.size w W1 := by rw [hW1]; exact below_then (below_al w _) (below_al _ _)
  have hz0 : (w.alloc (.map #[] 0)).heap.size = w.heap.size + 1 := by simp only [World.alloc, Array.size_push]
  have hbm : BxM W1 (w.heap.size + 1) w.heap.size 0 [] := by
    rw [hW1]
    refine ⟨by simp only [World.alloc, Array.size_push]; omega, ?_, (World.ownsMap_made w _ _ _).alloc _⟩
    rw [← hz0]
    exact (cell_of_row _ _ 0 _ _ _ (heap_alloc_new (w.alloc (.map #[] 0)) (.cells #[.map (some w.heap.size)] 53))).trans rfl
  have HW1 := Lib.hid hW1
  have HB1 := Lib.hid hb1
  have HBM := Lib.hid hbm
  have HZ1 : Hid (W1.heap.size = w.heap.size + 2) := by show _ = _; rw [hW1]; simp only [World.alloc, Array.size_push]
  have HAT := Lib.hid hA
  have HBU := Lib.hid hB
  have HST := Lib.hid hst
  have HSU := Lib.hid hsu
  clear hW1 hb1 hbm hA hB hst hsu
  go_enter Tryz.func11, Tryz.ntmps11
  go_wp2_with fail
  rw [← HW1.out]
  generalize hgw : w.heap.size = gw at *
  clear HW1 hz0
  go_loopw [12] (fun v12 wr => ∃ k : Nat, k ≤ u.length ∧ v12 = .int .i64 (k : Nat) ∧ Hid (BxM wr (gw + 1) gw k (u.take k)) ∧ Hid (Below gw w wr)) (fun v _ => u.length - (intOf v).toNat)
  case atStart => exact ⟨0, Nat.zero_le _, rfl, HBM.out, HB1.out⟩
  case round =>
    clear HBM HB1
    obtain ⟨k, hk, rfl, HBX, HBR⟩ := hrel
    by_cases hkn : k < u.length
    · have hd : decide ((k : Int) < (u.length : Int)) = true := decide_eq_true (by omega)
      obtain ⟨b, off, rfl, hb, hcc⟩ := (HBU.out.below (by rw [hgw]; exact HBR.out)) (by omega)
      obtain ⟨c0, c1, c2, c3, c4, c5, c6, c7⟩ := hcc k u[k] (List.getElem?_eq_getElem hkn)
      have HTK : Hid (u.take (k + 1) = u.take k ++ [u[k]]) := List.take_succ_eq_append_getElem hkn
      have HSX := Lib.hid (HSU.out u[k] (List.getElem_mem hkn))
      obtain ⟨W4, hW4⟩ : ∃ W4, W4 = wr.alloc (.cells u[k].cells 33) := ⟨_, rfl⟩
      have hb4 : Below wr.heap.size wr W4 := by rw [hW4]; exact below_al wr _
      have hx4 : W4.heap[wr.heap.size]? = some (.cells u[k].cells 33 (0, 0)) := by rw [hW4]; exact heap_alloc_new wr _
      have HBX4 := Lib.hid (HBX.out.below hb4)
      have HBR4 := Lib.hid (below_then (by rw [hgw]; exact HBR.out : Below w.heap.size w wr) hb4)
      generalize u[k] = X at *
      simp only [Itm.cells] at hW4 hx4
      have x0 := (cell_of_row _ _ 0 _ _ _ hx4).trans (show _ = some (.string X.s) from rfl)
      have HK := Lib.hid (keyOf_string_mk (P := Tryz.prog) Tryz.underlying9 (s := X.s) (by have := HSX.out; unfold maxLen; omega))
      have HW4 := Lib.hid hW4
      have g0 := HBX4.out.2.1
      generalize hgy : wr.heap.size = gy at *
      clear hcc hb4 hx4 hW4 HBX HBR
      go_upto_region 5 with fail
      rw [← HW4.out]
      clear HW4
      go_wp2_with (at_mapUpdate; refine wpList_mapUpdate_own _ rfl _ _ _ 53 rfl 9 54 keyO Tryz.underlying53 (unitElem (H := Unit)) gw k _ rfl HBX4.out.2.2 (by unfold maxLen; omega) _ _ _ rfl rfl HK.out (.agg []) [] unitElem_mk ?_; intro w7 hown7 hgrow7)
      have HB7 : Hid (Below gw w w7) := by
        have h := HBR4.out.grown hgrow7 HBR4.out.size (fun q hq => by injection hq with hq; omega)
        rw [hgw] at h
        exact h
      have HX7 : Hid (BxM w7 (gw + 1) gw (k + 1) (u.take (k + 1))) := by
        refine ⟨Nat.lt_of_lt_of_le HBX4.out.1 hgrow7.size, hgrow7.cell HBX4.out.2.1 (by simp), ?_⟩
        rw [HTK.out, List.map_append]
        show World.ownsMap _ _ _ _ _ _ (setS (List.map (·.s) (List.take k u) ++ [X.s]))
        rw [setS_snoc]
        exact hown7
      clear hown7 hgrow7 HBX4 HBR4
      go_wp2_with fail
      go_roundw
      case rel => exact ⟨k + 1, by omega, by go_num, HX7, HB7⟩
      case measure => simp [intOf]; omega
    · obtain rfl : k = u.length := by omega
      have hd : decide ((u.length : Int) < (u.length : Int)) = false := decide_eq_false (by omega)
      have HBU2 : Hid (BxM wr (gw + 1) gw u.length u) := by have h := HBX.out; rw [List.take_length] at h; exact h
      have hBR : Below w.heap.size w wr := by rw [hgw]; exact HBR.out
      have HCL := Lib.hid (cloneI_any A cA t wr (HAT.out.below hBR) (by omega))
      have HBR := Lib.hid hBR
      have HLF : Hid ((leftL t u).length ≤ 400) := by show _ ≤ _; exact Nat.le_trans (List.length_filter_le _ _) hlt
      clear HBX hBR
      go_wp2_with fail
      refine HCL.out.mono ?_; rintro e w2 ⟨A2, c2, rfl, hc2, hN2, hb2⟩
      have hdel : Hid (Calls Tryz.prog 24 #[.slice A2 t.length c2, .func (.func 26) #[] #[.pointer (some ⟨gw + 1, 0, none⟩)]] w2
          fun e w' => ∃ A3 c3, e = .returned (.slice A3 (leftL t u).length c3) ∧ Itms w' A3 (leftL t u) ∧ Below wr.heap.size wr w') := by
        show Calls _ _ _ _ _
        rcases hN2 with rfl | ⟨g1, rfl, hg1, hIO⟩
        · refine (deleteO_nil A2 c2 (gw + 1) w2).mono ?_
          rintro e w4 ⟨rfl, hb4⟩
          exact ⟨A2, c2, rfl, Itms.nil _ _, below_then hb2 hb4⟩
        · refine (deleteO_any wr (fun x => hasP u x.s) t g1 c2 (gw + 1) w2 (by omega) hc2 hg1 (fun x hx w4 hb4 => ov1_any x u (gw + 1) gw u.length w4 (HBU2.out.below hb4) (by have := HST.out x hx; unfold maxLen; omega)) hb2 hIO).mono ?_
          rintro e w4 ⟨rfl, hio, hb4⟩
          exact ⟨_, c2, rfl, hio.itms, hb4⟩
      clear hb2 hN2 hc2 HCL
      go_wp2_with fail
      refine hdel.out.mono ?_; rintro e w4 ⟨A3, c3, rfl, hI4, hb4⟩
      have HB4 := Lib.hid (below_then HBR.out hb4)
      have hb5 := below_al w4 (.cells #[.slice A3 (leftL t u).length c3, .slice B u.length cB] 22)
      have hx5 := heap_alloc_new w4 (.cells #[.slice A3 (leftL t u).length c3, .slice B u.length cB] 22)
      have HCC := Lib.hid (concatI_any w4.heap.size A3 B c3 cB (leftL t u) u _ (hI4.below hb5) ((HBU.out.below HB4.out).below hb5) (by have := HLF.out; omega) (by omega) (lt_of_block hx5) ((cell_of_row _ _ 0 _ _ _ hx5).trans rfl) ((cell_of_row _ _ 1 _ _ _ hx5).trans rfl))
      have HB5 := Lib.hid (below_then HB4.out hb5)
      clear hI4 hb4 hb5 hx5 hdel
      have HLL : Hid ((leftL t u ++ u).length ≤ 800) := by show _ ≤ _; rw [List.length_append]; have := HLF.out; omega
      have HSL : Hid (∀ x ∈ leftL t u ++ u, x.s.size ≤ 1000000) := fun x hx => by
        rcases List.mem_append.1 hx with h | h
        · have := HST.out x (List.mem_filter.1 h).1; omega
        · have := HSU.out x h; omega
      have HOV : Hid (ovrL t u = sortI (leftL t u ++ u)) := rfl
      have HOL : Hid ((ovrL t u).length = (leftL t u ++ u).length) := sortI_len _
      generalize hLU : leftL t u ++ u = LU at *
      go_wp2_with fail
      refine HCC.out.mono ?_; rintro e w6 ⟨A6, c6, rfl, hN6, hb6⟩
      have HB6 := Lib.hid (below_then HB5.out hb6)
      have HSO := Lib.hid (tsort_any A6 c6 LU w6 hN6.itms (by have := HLL.out; omega) HSL.out)
      clear hN6 hb6 HCC
      go_wp2_with fail
      refine HSO.out.mono ?_; rintro e w7 ⟨A7, c7, rfl, hN7, hb7⟩
      have HB7 := Lib.hid (below_then HB6.out hb7)
      have HN7 : Hid (NewI w7 w.heap.size A7 (ovrL t u)) := by
        show NewI _ _ _ _
        rw [HOV.out]
        rcases hN7 with h | ⟨g, e, hg, hio⟩
        · exact .inl h
        · exact .inr ⟨g, e, Nat.le_trans HB6.out.size hg, hio⟩
      clear hN7 hb7 HSO
      go_wp2_with fail
      go_ret
      exact ⟨A7, c7, by rw [HOL.out]; rfl, HN7.out, HB7.out⟩
end Go.Proofs.YtpkhpaklhfomkaaGreatDoor
