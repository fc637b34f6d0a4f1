/-
  Trees: the document's Override.
-/
import Derived.Test.YtpkhpaklhfomkaaGreatDoorOvC
import Derived.Test.YtpkhpaklhfomkaaGreatDoorPkE
namespace Go.Proofs.YtpkhpaklhfomkaaGreatDoor
set_option maxRecDepth 100000
set_option linter.unusedSimpArgs false
set_option linter.unusedVariables false
open Go.RowKit Go.Joins Go.Deep
open Go.Lib hiding intOf
theorem left_snoc (t u : List Itm) (k : Nat) (h : k < t.length) : leftL (t.take (k + 1)) u = leftL (t.take k) u ++ (if hasP u t[k].s = true then [] else [t[k]]) := by
  unfold leftL
  rw [List.take_succ_eq_append_getElem h, List.filter_append]
  congr 1
  by_cases e : hasP u t[k].s = true
  · rw [if_pos e, List.filter_cons_of_neg (by rw [e]; decide)]; rfl
  · rw [if_neg e, List.filter_cons_of_pos (by rw [Bool.eq_false_iff.2 e]; rfl)]; rfl
theorem has_take (u : List Itm) (p : ByteArray) (j : Nat) (h : j < u.length) : hasP (u.take (j + 1)) p = (hasP (u.take j) p || (u[j].s.toList == p.toList)) := by
  unfold hasP
  rw [List.take_succ_eq_append_getElem h, List.any_append]
  simp
theorem left_le (t u : List Itm) (k : Nat) : (leftL (t.take k) u).length ≤ k := by
  refine Nat.le_trans (List.length_filter_le _ _) ?_
  rw [List.length_take]
  omega
set_option maxHeartbeats 16000000 in
theorem roverride_any (A B : Option Addr) (cA cB : Nat) (t u : List Itm) (w : World) (hA : Itms w A t) (hB : Itms w B u) (hlt : t.length ≤ 400) (hlu : u.length ≤ 400) (hst : ∀ x ∈ t, x.s.size ≤ 100000) (hsu : ∀ x ∈ u, x.s.size ≤ 100000) :
    Calls Tryz.prog 12 #[.slice A t.length cA, .slice B u.length cB] w fun e w' => ∃ A' c', e = .returned (.slice A' (ovrL t u).length c') ∧ NewI w' w.heap.size A' (ovrL t u) ∧ Below w.heap.size w w' := by
  obtain ⟨i0, hi, hz0, hz1, hz2⟩ := partsI
  have hir := info_item
  have HA := Lib.hid (fun w1 (hb : Below w.heap.size w w1) => hA.below hb)
  have HB := Lib.hid (fun w1 (hb : Below w.heap.size w w1) => hB.below hb)
  have HST := Lib.hid hst
  have HSU := Lib.hid hsu
  clear hA hB hst hsu
  go_enter Tryz.func12, Tryz.ntmps12
  go_wp2_with fail
  go_loopw [5, 13] (fun v5 v13 wr => ∃ (k : Nat) (V : Value), k ≤ t.length ∧ V = v5 ∧ v13 = .int .i64 (k : Nat) ∧ Hid (wr.ownsRow w.heap.size 33 8 V (leftL (t.take k) u).length (cellsI (leftL (t.take k) u))) ∧ Hid (Below w.heap.size w wr)) (fun _ v _ => t.length - (intOf v).toNat)
  case atStart => exact ⟨0, _, Nat.zero_le _, rfl, rfl, World.ownsRow_nil _ _ _ _, Below.refl _ _⟩
  case round =>
    obtain ⟨k, V, hk, rfl, rfl, HO, HBR⟩ := hrel
    by_cases hkn : k < t.length
    case neg =>
      obtain rfl : k = t.length := by omega
      have hd : decide ((t.length : Int) < (t.length : Int)) = false := decide_eq_false (by omega)
      have HTK : Hid (t.take t.length = t) := List.take_length
      rw [HTK.out] at HO
      have HLL : Hid ((leftL t u).length ≤ 400) := by show _ ≤ _; exact Nat.le_trans (List.length_filter_le _ _) hlt
      have HBU := Lib.hid (HB.out wr HBR.out)
      go_wp2_with (at_builtin; refine wpList_append_itms rfl _ _ rfl w.heap.size V (leftL t u) rfl HO.out B u.length cB u rfl rfl HBU.out ?qa1 ?qa2 ?_)
      case qa1 => have := HLL.out; omega
      case qa2 => exact HBR.out.size
      intro v7 w7 ho7 hg7
      have HB7 : Hid (Below w.heap.size w w7) := HBR.out.grown hg7 HBR.out.size (fun q hq => (HO.out.lt q hq).1)
      have ho7 : w7.ownsRow w.heap.size 33 8 v7 (leftL t u ++ u).length (cellsI (leftL t u ++ u)) := by rw [List.length_append]; exact ho7
      obtain ⟨A7, c7, hv7, hN7⟩ := own_newI ho7
      have HI7 := Lib.hid hN7.itms
      have hv7 : v7 = .slice A7 (leftL t u ++ u).length c7 := hv7
      subst hv7
      have HML : Hid ((leftL t u ++ u).length ≤ 1000) := by show _ ≤ _; rw [List.length_append]; have := HLL.out; omega
      have HMS : Hid (∀ x ∈ leftL t u ++ u, x.s.size ≤ 100000) := fun x hx => by
        rcases List.mem_append.1 hx with h | h
        · exact HST.out x (List.mem_filter.1 h).1
        · exact HSU.out x h
      have HSO := Lib.hid (rsort_any A7 c7 (leftL t u ++ u) w7 HI7.out HML.out HMS.out)
      have HOV : Hid (ovrL t u = sortI (leftL t u ++ u)) := rfl
      have HOL : Hid ((ovrL t u).length = (leftL t u ++ u).length) := sortI_len _
      clear ho7 hg7 hN7 HO HBU HMS
      generalize hLU : leftL t u ++ u = LU at *
      go_wp2_with fail
      refine HSO.out.mono ?_; rintro e w8 ⟨A8, c8, rfl, hN8, hb8⟩
      have HB8 := Lib.hid (below_then HB7.out hb8)
      have HN8 : Hid (NewI w8 w.heap.size A8 (ovrL t u)) := by
        show NewI _ _ _ _
        rw [HOV.out]
        rcases hN8 with h | ⟨g, e, hg, hio⟩
        · exact .inl h
        · exact .inr ⟨g, e, Nat.le_trans HB7.out.size hg, hio⟩
      clear hN8 hb8 HSO
      go_wp2_with fail
      go_ret
      exact ⟨A8, c8, by rw [HOL.out]; rfl, HN8.out, HB8.out⟩
    have hd : decide ((k : Int) < (t.length : Int)) = true := decide_eq_true (by omega)
    obtain ⟨b, off, rfl, hb, hcc⟩ := (HA.out wr HBR.out) (by omega)
    obtain ⟨c0, c1, c2, c3, c4, c5, c6, c7⟩ := hcc k t[k] (List.getElem?_eq_getElem hkn)
    have HSN := Lib.hid (left_snoc t u k hkn)
    have HLE := Lib.hid (left_le t u k)
    obtain ⟨W2, hW2⟩ : ∃ W2, W2 = wr.alloc (.cells t[k].cells 33) := ⟨_, rfl⟩
    have hb2 : Below wr.heap.size wr W2 := by rw [hW2]; exact below_al wr _
    have HX2 : Hid (W2.heap[wr.heap.size]? = some (.cells t[k].cells 33 (0, 0))) := by show _ = _; rw [hW2]; exact heap_alloc_new wr _
    have HO2 : Hid (W2.ownsRow w.heap.size 33 8 V (leftL (t.take k) u).length (cellsI (leftL (t.take k) u))) := own_belowI HO.out hb2
    have HB2 := Lib.hid (below_then HBR.out hb2)
    generalize leftL (t.take k) u = L at *
    generalize t[k] = X at *
    simp only [Itm.cells] at hW2
    have HW2 := Lib.hid hW2
    clear hcc hb2 hW2 HO HBR
    generalize hgx : wr.heap.size = gx at *
    go_upto_region 5 with fail
    rw [← HW2.out]
    clear HW2 c0 c1 c2 c3 c4 c5 c6 c7
    go_wp2_with fail
    go_loopw [8, 19] (fun v8 v19 wi => ∃ (j : Nat), j ≤ u.length ∧ v19 = .int .i64 (j : Nat) ∧ v8 = .bool (hasP (u.take j) X.s) ∧ Hid (Below W2.heap.size W2 wi)) (fun _ v _ => u.length - (intOf v).toNat)
    case atStart => exact ⟨0, Nat.zero_le _, rfl, rfl, Below.refl _ _⟩
    case round =>
      obtain ⟨j, hj, rfl, rfl, HBI⟩ := hrel
      have HXI : Hid (wr.heap[gx]? = some (.cells X.cells 33 (0, 0))) := (HBI.out.block _ (lt_of_block HX2.out)).trans HX2.out
      have HBA := Lib.hid (below_then HB2.out HBI.out)
      by_cases hjn : j < u.length
      · have hd2 : decide ((j : Int) < (u.length : Int)) = true := decide_eq_true (by omega)
        obtain ⟨b3, off3, rfl, hb3, hcc3⟩ := (HB.out wr HBA.out) (by omega)
        obtain ⟨f0, f1, f2, f3, f4, f5, f6, f7⟩ := hcc3 j u[j] (List.getElem?_eq_getElem hjn)
        have HHT := Lib.hid (has_take u X.s j hjn)
        obtain ⟨W4, hW4⟩ : ∃ W4, W4 = wr.alloc (.cells u[j].cells 33) := ⟨_, rfl⟩
        have hb4 : Below wr.heap.size wr W4 := by rw [hW4]; exact below_al wr _
        have hy4 : W4.heap[wr.heap.size]? = some (.cells u[j].cells 33 (0, 0)) := by rw [hW4]; exact heap_alloc_new wr _
        have hx4 := (hb4.block _ (lt_of_block HXI.out)).trans HXI.out
        have HB4 := Lib.hid (below_then HBI.out hb4)
        obtain ⟨x0, _⟩ := cells_of_box hx4
        obtain ⟨y0, _⟩ := cells_of_box hy4
        generalize u[j] = Y at *
        simp only [Itm.cells] at hW4
        have HW4 := Lib.hid hW4
        generalize hbd : hasP (u.take j) X.s = bd at *
        clear hcc3 hb4 hy4 hx4 hW4 hbd
        generalize hgy : wr.heap.size = gy at *
        go_upto_region 9 with fail
        rw [← HW4.out]
        clear HW4 f0 f1 f2 f3 f4 f5 f6 f7
        have hsw : (X.s.toList == Y.s.toList) = (Y.s.toList == X.s.toList) := by
          by_cases h : X.s.toList = Y.s.toList
          · rw [h]
          · rw [beq_eq_false_iff_ne.2 h, beq_eq_false_iff_ne.2 (fun k => h k.symm)]
        have HHE : Hid (hasP (u.take (j + 1)) X.s = (bd || (X.s.toList == Y.s.toList))) := by show _ = _; rw [HHT.out, hsw]
        clear hsw HHT
        cases bd with
        | true =>
          go_wp2_with fail
          go_roundw
          case rel => exact ⟨j + 1, by omega, by go_num, by rw [HHE.out]; rfl, HB4⟩
          case measure => simp [intOf]; omega
        | false =>
          go_wp2_with fail
          go_roundw
          case rel => exact ⟨j + 1, by omega, by go_num, by rw [HHE.out]; rfl, HB4⟩
          case measure => simp [intOf]; omega
      · obtain rfl : j = u.length := by omega
        have hd2 : decide ((u.length : Int) < (u.length : Int)) = false := decide_eq_false (by omega)
        have HTK : Hid (u.take u.length = u) := List.take_length
        rw [HTK.out]
        have HO5 := Lib.hid (own_belowI HO2.out HBI.out)
        obtain ⟨x0, x1, x2, x3, x4, x5, x6, x7⟩ := cells_of_box HXI.out
        generalize hbd : hasP u X.s = bd at *
        cases bd with
        | true =>
          have HNE : Hid (leftL (t.take (k + 1)) u = L) := by show _ = _; rw [HSN.out, if_pos rfl, List.append_nil]
          clear HSN
          go_wp2_with fail
          go_roundw
          case rel => exact ⟨k + 1, _, by omega, rfl, by go_num, by rw [HNE.out]; exact HO5, HBA⟩
          case measure => simp [intOf]; omega
        | false =>
          have HNE : Hid (leftL (t.take (k + 1)) u = L ++ [X]) := by show _ = _; rw [HSN.out, if_neg (by decide)]
          have HO6 := Lib.hid (HO5.out.alloc (.cells X.cells 33))
          have HQ6 := Lib.hid (news_box wr X)
          have HB6 := Lib.hid (HBA.out.alloc HBA.out.size (.cells X.cells 33))
          simp only [Itm.cells] at HO6 HQ6 HB6
          clear HSN HO5
          go_wp2_with (at_builtin; refine wpList_append_own _ rfl _ _ 22 rfl w.heap.size 33 i0 (.agg #[.string ⟨#[]⟩, .int .i64 0, .int .u32 0, .int .u32 0, .int .u32 0, .int .i64 0, .int .i64 0, .string ⟨#[]⟩]) 8 72 Tryz.underlying22 hi hz0 hz1 hz2 rfl (by decide) _ _ _ rfl HO6.out ⟨wr.heap.size, 0, none⟩ 1 1 X.cellsL rfl ?qc1 ?qc2 ?qc3 ?qc4 ?qc5 ?qc6 ?_)
          case qc1 => rfl
          case qc2 => exact HQ6.out
          case qc3 => exact one_box X
          case qc4 => have := HLE.out; unfold maxLen; omega
          case qc5 => have := HLE.out; omega
          case qc6 => exact HB6.out.size
          intro v7 w7 hown7 hgrow7 _
          have HB7 : Hid (Below w.heap.size w w7) := HB6.out.grown hgrow7 HB6.out.size (fun q hq => (HO6.out.lt q hq).1)
          have HO7 : Hid (w7.ownsRow w.heap.size 33 8 v7 (leftL (t.take (k + 1)) u).length (cellsI (leftL (t.take (k + 1)) u))) := by
            show World.ownsRow _ _ _ _ _ _ _
            rw [HNE.out, ← cells_snoc, List.length_append]
            exact hown7
          clear hown7 hgrow7 HO6 HQ6 HB6
          go_wp2_with fail
          go_roundw
          case rel => exact ⟨k + 1, _, by omega, rfl, by go_num, HO7, HB7⟩
          case measure => simp [intOf]; omega
end Go.Proofs.YtpkhpaklhfomkaaGreatDoor
