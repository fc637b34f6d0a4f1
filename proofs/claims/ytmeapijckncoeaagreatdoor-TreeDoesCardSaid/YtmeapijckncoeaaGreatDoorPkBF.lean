/-
  Trees: the document's Sort.
  Trees: are two the same?
  Trees: what paths imply (mathematics); an index of nodes by paths.
-/
import Derived.Test.YtmeapijckncoeaaGreatDoorPkBE
import Derived.Test.YtmeapijckncoeaaGreatDoorPkAJ
import Derived.Test.YtmeapijckncoeaaGreatDoorPkBD
import Derived.BigQuiet
import Derived.StringKeys
import Derived.Maps.Own
import Derived.Maps.OwnSet

namespace Go.Proofs.YtmeapijckncoeaaGreatDoor
set_option maxRecDepth 100000
set_option linter.unusedSimpArgs false
set_option linter.unusedVariables false
open Go.RowKit Go.Joins Go.Deep
open Go.Lib hiding intOf
theorem putS_len (x : Itm) (l : List Itm) : (putS x l).length = l.length + 1 := by
  unfold putS
  have := congrArg List.length (List.takeWhile_append_dropWhile (p := fun y => !behI x y) (l := l))
  rw [List.length_append] at this
  simp
  omega
theorem nxtS_len (x : Itm) (l : List Itm) : (nxtS x l).length ≤ l.length + 1 := by
  unfold nxtS
  split
  · rw [putS_len]; omega
  · omega
theorem insAll_len (l : List Itm) : (insAll l).length = l.length := by rw [insAll_sort, sortI_len]
theorem insAll_mem {l : List Itm} {x : Itm} (h : x ∈ insAll l) : x ∈ l := by
  rw [insAll_sort] at h
  exact sortI_mem l x h
/-- The eight cells of an item in a block of its own. -/
theorem cells_of_box {w : World} {g : Nat} {X : Itm} (h : w.heap[g]? = some (.cells X.cells 42 (0, 0))) : w.cell? ⟨g, 0, none⟩ = some (.string X.s) ∧ w.cell? ⟨g, 1, none⟩ = some (.int .i64 X.k) ∧ w.cell? ⟨g, 2, none⟩ = some (.int .u32 X.m) ∧ w.cell? ⟨g, 3, none⟩ = some (.int .u32 X.u) ∧ w.cell? ⟨g, 4, none⟩ = some (.int .u32 X.g) ∧ w.cell? ⟨g, 5, none⟩ = some (.int .i64 X.t) ∧ w.cell? ⟨g, 6, none⟩ = some (.int .i64 X.a) ∧ w.cell? ⟨g, 7, none⟩ = some (.string X.d) :=
  ⟨(cell_of_row _ _ 0 _ _ _ h).trans rfl, (cell_of_row _ _ 1 _ _ _ h).trans rfl, (cell_of_row _ _ 2 _ _ _ h).trans rfl, (cell_of_row _ _ 3 _ _ _ h).trans rfl, (cell_of_row _ _ 4 _ _ _ h).trans rfl, (cell_of_row _ _ 5 _ _ _ h).trans rfl, (cell_of_row _ _ 6 _ _ _ h).trans rfl, (cell_of_row _ _ 7 _ _ _ h).trans rfl⟩
theorem news_box (w : World) (X : Itm) : ∀ j u, X.cellsL[j]? = some u → (w.alloc (.cells X.cells 42)).cell? ((⟨w.heap.size, 0, none⟩ : Addr).add j) = some u := fun j u hj => by
  rw [Addr.add_lit, Nat.zero_add, cell_of_row _ _ j _ _ _ (heap_alloc_new w _)]
  simpa [Itm.cells, Itm.cellsL] using hj
theorem own_belowI {w w' : World} {base size n : Nat} {e : TypeId} {v : Value} {xs : List Value} (h : w.ownsRow base e size v n xs) (hb : Below w.heap.size w w') : w'.ownsRow base e size v n xs :=
  h.kept (row := none) ⟨hb.os, hb.tape, hb.output, hb.size, fun i hi _ => hb.block i hi⟩ (by cases hv : v.ownBlock <;> simp)
theorem one_box (X : Itm) : ∀ u ∈ X.cellsL, u.oneCell' = true := fun u hu => cellsI_one [X] u (by rw [cellsI, cellsI, List.append_nil]; exact hu)
theorem cells_snoc (L : List Itm) (X : Itm) : cellsI L ++ X.cellsL = cellsI (L ++ [X]) := by rw [cellsI_app, cellsI, cellsI, List.append_nil]
set_option maxHeartbeats 16000000 in
theorem rsort_any (A : Option Addr) (c : Nat) (l : List Itm) (w : World) (hR : Itms w A l) (hl : l.length ≤ 1000) (hs : ∀ x ∈ l, x.s.size ≤ 100000) :
    Calls Tryz.prog 20 #[.slice A l.length c] w fun e w' => ∃ A' c', e = .returned (.slice A' l.length c') ∧ NewI w' w.heap.size A' (sortI l) ∧ Below w.heap.size w w' := by
  obtain ⟨i0, hi, hz0, hz1, hz2⟩ := partsI
  have hir := info_item
  have HR := Lib.hid hR
  have HS := Lib.hid hs
  clear hR hs
  go_enter Tryz.func20, Tryz.ntmps20
  go_wp2_with fail
  go_loopw [3, 12] (fun v3 v12 wr => ∃ (k : Nat) (A3 : Option Addr) (c3 : Nat), k ≤ l.length ∧ v12 = .int .i64 (k : Nat) ∧ v3 = .slice A3 k c3 ∧ Hid (NewI wr w.heap.size A3 (insAll (l.take k))) ∧ Hid (Below w.heap.size w wr)) (fun _ v _ => l.length - (intOf v).toNat)
  case atStart => exact ⟨0, none, 0, Nat.zero_le _, rfl, rfl, .inl rfl, Below.refl _ _⟩
  case round =>
    obtain ⟨k, A3, c3, hk, rfl, rfl, HN, HB⟩ := hrel
    by_cases hlt : k < l.length
    case neg =>
      obtain rfl : k = l.length := by omega
      have hd : decide ((l.length : Int) < (l.length : Int)) = false := decide_eq_false (by omega)
      have HE : Hid (insAll (l.take l.length) = sortI l) := by show _ = _; rw [List.take_length]; exact insAll_sort l
      go_wp2_with fail
      go_ret
      exact ⟨A3, c3, rfl, by rw [← HE.out]; exact HN.out, HB.out⟩
    have hd : decide ((k : Int) < (l.length : Int)) = true := decide_eq_true (by omega)
    obtain ⟨b, off, rfl, hb, hcc⟩ := (HR.out.below HB.out) (by omega)
    obtain ⟨c0, c1, c2, c3', c4, c5, c6, c7⟩ := hcc k l[k] (List.getElem?_eq_getElem hlt)
    have HSN : Hid (insAll (l.take (k + 1)) = putS l[k] (insAll (l.take k))) := by
      show _ = _
      rw [List.take_succ_eq_append_getElem hlt, insAll_snoc]
    have HSX := Lib.hid (HS.out l[k] (List.getElem_mem hlt))
    have HOL : Hid ((insAll (l.take k)).length = k) := by show _ = _; rw [insAll_len, List.length_take]; omega
    have HOS : Hid (∀ y ∈ insAll (l.take k), y.s.size ≤ 100000) := fun y hy => HS.out y (List.mem_of_mem_take (insAll_mem hy))
    obtain ⟨W2, hW2⟩ : ∃ W2, W2 = wr.alloc (.cells l[k].cells 42) := ⟨_, rfl⟩
    have hb2 : Below wr.heap.size wr W2 := by rw [hW2]; exact below_al wr _
    have HX2 : Hid (W2.heap[wr.heap.size]? = some (.cells l[k].cells 42 (0, 0))) := by show _ = _; rw [hW2]; exact heap_alloc_new wr _
    have HZ2 : Hid (W2.heap.size = wr.heap.size + 1) := by show _ = _; rw [hW2]; simp only [World.alloc, Array.size_push]
    have HI2 : Hid (Itms W2 A3 (insAll (l.take k))) := HN.out.itms.below hb2
    have HB2 := Lib.hid (below_then HB.out hb2)
    generalize insAll (l.take k) = O at *
    generalize l[k] = X at *
    simp only [Itm.cells] at hW2
    have HW2 := Lib.hid hW2
    clear hcc hb2 hW2 HN
    generalize hgx : wr.heap.size = gx at *
    go_wp2_with fail
    rw [← HW2.out]
    clear HW2 c0 c1 c2 c3' c4 c5 c6 c7
    go_loopw [6, 7, 18] (fun v6 v7 v18 wi => ∃ (j : Nat) (V : Value), j ≤ k ∧ V = v6 ∧ v18 = .int .i64 (j : Nat) ∧ v7 = .bool ((O.take j).any (behI X)) ∧ Hid (wi.ownsRow W2.heap.size 42 8 v6 (nxtS X (O.take j)).length (cellsI (nxtS X (O.take j)))) ∧ Hid (Below W2.heap.size W2 wi)) (fun _ _ v _ => k - (intOf v).toNat)
    case atStart => exact ⟨0, _, Nat.zero_le _, rfl, rfl, rfl, World.ownsRow_nil _ _ _ _, Below.refl _ _⟩
    case round =>
      obtain ⟨j, V, hj, rfl, rfl, rfl, HO, HBI⟩ := hrel
      have HXI : Hid (wr.heap[gx]? = some (.cells X.cells 42 (0, 0))) := (HBI.out.block _ (lt_of_block HX2.out)).trans HX2.out
      have HGX : Hid (gx < W2.heap.size) := by show _ < _; have := HZ2.out; omega
      by_cases hjk : j < k
      case neg =>
        obtain rfl : j = k := by omega
        have hd2 : decide ((j : Int) < (j : Int)) = false := decide_eq_false (by omega)
        have HTK : Hid (O.take j = O) := List.take_of_length_le (by have := HOL.out; omega)
        rw [HTK.out] at HO ⊢
        have HEND := Lib.hid (nxtS_end X O)
        have HPL : Hid ((putS X O).length = j + 1) := by show _ = _; rw [putS_len, HOL.out]
        have HNL : Hid ((nxtS X O).length ≤ 1001) := by show _ ≤ _; have := nxtS_len X O; have := HOL.out; omega
        have HBR := Lib.hid (HB2.out.trans (HBI.out.mono HB2.out.size))
        generalize hbd : O.any (behI X) = bd at *
        cases bd with
        | true =>
          have HEQ : Hid (nxtS X O = putS X O) := HEND.out
          rw [HEQ.out] at HO
          obtain ⟨A5, c5, rfl, hN5⟩ := nb_of_own V (by rw [HPL.out]; omega) HO.out
          have HN5 := Lib.hid hN5
          clear hN5 HEND HO
          rw [HPL.out]
          go_wp2_with fail
          go_roundw
          case rel =>
            refine ⟨j + 1, A5, c5, by omega, by go_num, rfl, ?_, HBR⟩
            show NewI _ _ _ _
            rw [HSN.out]
            rcases HN5.out with ⟨h, _⟩ | ⟨g, e, hg, hic⟩
            · exact .inl h
            · exact .inr ⟨g, e, Nat.le_trans HB2.out.size hg, hic.1⟩
          case measure => simp [intOf]; omega
        | false =>
          have HEQ : Hid (nxtS X O ++ [X] = putS X O) := HEND.out
          obtain ⟨x0, x1, x2, x3, x4, x5, x6, x7⟩ := cells_of_box HXI.out
          have HO5 := Lib.hid (HO.out.alloc (.cells X.cells 42))
          have HQ5 := Lib.hid (news_box wr X)
          have HB5 := Lib.hid (HBR.out.alloc HBR.out.size (.cells X.cells 42))
          have HSZ : Hid (W2.heap.size ≤ (wr.alloc (.cells X.cells 42)).heap.size) := Nat.le_trans HBI.out.size (below_al wr _).size
          have HBW : Hid (W2.heap.size ≥ w.heap.size) := HB2.out.size
          simp only [Itm.cells] at HO5 HQ5 HB5 HSZ
          clear HO HEND
          go_wp2_with (at_builtin; refine wpList_append_own _ rfl _ _ 22 rfl W2.heap.size 42 i0 (.agg #[.string ⟨#[]⟩, .int .i64 0, .int .u32 0, .int .u32 0, .int .u32 0, .int .i64 0, .int .i64 0, .string ⟨#[]⟩]) 8 72 Tryz.underlying22 hi hz0 hz1 hz2 rfl (by decide) _ _ _ rfl HO5.out ⟨wr.heap.size, 0, none⟩ 1 1 X.cellsL rfl ?qc1 ?qc2 ?qc3 ?qc4 ?qc5 ?qc6 ?_)
          case qc1 => rfl
          case qc2 => exact HQ5.out
          case qc3 => exact one_box X
          case qc4 => have := HNL.out; unfold maxLen; omega
          case qc5 => have := HNL.out; omega
          case qc6 => exact HSZ.out
          intro v7 w7 hown7 hgrow7 _
          have HB7 : Hid (Below w.heap.size w w7) := HB5.out.grown hgrow7 HB5.out.size (fun q hq => Nat.le_trans HBW.out (HO5.out.lt q hq).1)
          have hown7 : w7.ownsRow W2.heap.size 42 8 v7 (putS X O).length (cellsI (putS X O)) := by
            have h := hown7
            rw [cells_snoc, HEQ.out] at h
            rw [show (nxtS X O).length + 1 = (putS X O).length by rw [← HEQ.out, List.length_append]; rfl] at h
            exact h
          obtain ⟨A5, c5, rfl, hN5⟩ := nb_of_own v7 (by rw [HPL.out]; omega) hown7
          have HN5 := Lib.hid hN5
          clear hN5 hown7 hgrow7 HO5 HQ5 HB5
          rw [HPL.out]
          go_wp2_with fail
          go_roundw
          case rel =>
            refine ⟨j + 1, A5, c5, by omega, by go_num, rfl, ?_, HB7⟩
            show NewI _ _ _ _
            rw [HSN.out]
            rcases HN5.out with ⟨h, _⟩ | ⟨g, e, hg, hic⟩
            · exact .inl h
            · exact .inr ⟨g, e, Nat.le_trans HBW.out hg, hic.1⟩
          case measure => simp [intOf]; omega
      have hd2 : decide ((j : Int) < (k : Int)) = true := decide_eq_true (by omega)
      have hjO : j < O.length := by rw [HOL.out]; exact hjk
      obtain ⟨b3, off3, rfl, hb3, hcc3⟩ := (HI2.out.below HBI.out) (by omega)
      obtain ⟨f0, f1, f2, f3, f4, f5, f6, f7⟩ := hcc3 j O[j] (List.getElem?_eq_getElem hjO)
      have HNX : Hid (nxtS X (O.take (j + 1)) = (if (O.take j).any (behI X) = true then nxtS X (O.take j) else if behI X O[j] = true then nxtS X (O.take j) ++ [X] else nxtS X (O.take j)) ++ [O[j]]) := by
        show _ = _
        rw [List.take_succ_eq_append_getElem hjO, nxtS_snoc]
      have HAN : Hid ((O.take (j + 1)).any (behI X) = ((O.take j).any (behI X) || behI X O[j])) := any_take _ _ _ hjO
      have HNL : Hid ((nxtS X (O.take j)).length ≤ 1001) := by show _ ≤ _; have := nxtS_len X (O.take j); rw [List.length_take] at this; omega
      have HSY := Lib.hid (HOS.out O[j] (List.getElem_mem hjO))
      obtain ⟨W4, hW4⟩ : ∃ W4, W4 = wr.alloc (.cells O[j].cells 42) := ⟨_, rfl⟩
      have hb4 : Below wr.heap.size wr W4 := by rw [hW4]; exact below_al wr _
      have HY4 : Hid (W4.heap[wr.heap.size]? = some (.cells O[j].cells 42 (0, 0))) := by show _ = _; rw [hW4]; exact heap_alloc_new wr _
      have HX4 : Hid (W4.heap[gx]? = some (.cells X.cells 42 (0, 0))) := (hb4.block _ (lt_of_block HXI.out)).trans HXI.out
      have HO4 : Hid (W4.ownsRow W2.heap.size 42 8 V (nxtS X (O.take j)).length (cellsI (nxtS X (O.take j)))) := by show World.ownsRow _ _ _ _ _ _ _; rw [hW4]; exact HO.out.alloc _
      have HB4 := Lib.hid (below_then HBI.out hb4)
      have HLT : Hid (∀ q, V.ownBlock = some q → W2.heap.size ≤ q ∧ q < wr.heap.size) := fun q hq => HO.out.lt q hq
      generalize nxtS X (O.take j) = L at *
      generalize O[j] = Y at *
      generalize hbd : (O.take j).any (behI X) = bd at *
      simp only [Itm.cells] at hW4
      have HW4 := Lib.hid hW4
      clear hcc3 hb4 hW4 HO hbd
      generalize hgy : wr.heap.size = gy at *
      go_upto_region 10 with fail
      rw [← HW4.out]
      clear HW4 f0 f1 f2 f3 f4 f5 f6 f7
      cases bd with
      | true =>
        have HNE : Hid (nxtS X (O.take (j + 1)) = L ++ [Y]) := HNX.out
        have HAE : Hid ((O.take (j + 1)).any (behI X) = true) := HAN.out
        obtain ⟨y0, y1, y2, y3, y4, y5, y6, y7⟩ := cells_of_box HY4.out
        have HO5 := Lib.hid (HO4.out.alloc (.cells Y.cells 42))
        have HQ5 := Lib.hid (news_box W4 Y)
        have HB5 := Lib.hid (HB4.out.alloc HB4.out.size (.cells Y.cells 42))
        simp only [Itm.cells] at HO5 HQ5 HB5
        clear HNX HAN HO4
        go_wp2_with (at_builtin; refine wpList_append_own _ rfl _ _ 22 rfl W2.heap.size 42 i0 (.agg #[.string ⟨#[]⟩, .int .i64 0, .int .u32 0, .int .u32 0, .int .u32 0, .int .i64 0, .int .i64 0, .string ⟨#[]⟩]) 8 72 Tryz.underlying22 hi hz0 hz1 hz2 rfl (by decide) _ _ _ rfl HO5.out ⟨W4.heap.size, 0, none⟩ 1 1 Y.cellsL rfl ?qc1 ?qc2 ?qc3 ?qc4 ?qc5 ?qc6 ?_)
        case qc1 => rfl
        case qc2 => exact HQ5.out
        case qc3 => exact one_box Y
        case qc4 => have := HNL.out; unfold maxLen; omega
        case qc5 => have := HNL.out; omega
        case qc6 => exact HB5.out.size
        intro v7 w7 hown7 hgrow7 _
        have HB7 : Hid (Below W2.heap.size W2 w7) := HB5.out.grown hgrow7 HB5.out.size (fun q hq => (HLT.out q hq).1)
        have HO7 : Hid (w7.ownsRow W2.heap.size 42 8 v7 (nxtS X (O.take (j + 1))).length (cellsI (nxtS X (O.take (j + 1))))) := by
          show World.ownsRow _ _ _ _ _ _ _
          rw [HNE.out, ← cells_snoc, List.length_append]
          exact hown7
        clear hown7 hgrow7 HO5 HQ5 HB5
        go_wp2_with fail
        go_roundw
        case rel => exact ⟨j + 1, _, by omega, rfl, by go_num, by rw [HAE.out], HO7, HB7⟩
        case measure => simp [intOf]; omega
      | false =>
        have HORD := Lib.hid (fun w => rorder_any X.s Y.s w HSX.out HSY.out)
        obtain ⟨y0, _⟩ := cells_of_box HY4.out
        obtain ⟨x0, _⟩ := cells_of_box HX4.out
        go_wp2_with fail
        refine (HORD.out _).mono ?_; rintro e w5 ⟨rfl, hb5⟩
        have HY5 : Hid (w5.heap[gy]? = some (.cells Y.cells 42 (0, 0))) := (hb5.block _ (lt_of_block HY4.out)).trans HY4.out
        have HX5 : Hid (w5.heap[gx]? = some (.cells X.cells 42 (0, 0))) := (hb5.block _ (lt_of_block HX4.out)).trans HX4.out
        have HO5 := Lib.hid (own_belowI HO4.out hb5)
        have HB5 := Lib.hid (below_then HB4.out hb5)
        have HG5 : Hid (gy < w5.heap.size) := lt_of_block HY5.out
        clear hb5 HORD HO4 HB4 HY4 HX4 x0 y0
        by_cases hlt5 : ordT X.s Y.s < 0
        · have hbe : behI X Y = true := decide_eq_true hlt5
          have HNE : Hid (nxtS X (O.take (j + 1)) = (L ++ [X]) ++ [Y]) := by show _ = _; rw [HNX.out, if_neg (by decide), if_pos hbe]
          have HAE : Hid ((O.take (j + 1)).any (behI X) = true) := by show _ = _; rw [HAN.out, hbe]; rfl
          obtain ⟨x0, x1, x2, x3, x4, x5, x6, x7⟩ := cells_of_box HX5.out
          have HO6 := Lib.hid (HO5.out.alloc (.cells X.cells 42))
          have HQ6 := Lib.hid (news_box w5 X)
          have HB6 := Lib.hid (HB5.out.alloc HB5.out.size (.cells X.cells 42))
          have HY6 : Hid ((w5.alloc (.cells X.cells 42)).heap[gy]? = some (.cells Y.cells 42 (0, 0))) := ((below_al w5 (.cells X.cells 42)).block _ HG5.out).trans HY5.out
          simp only [Itm.cells] at HO6 HQ6 HB6
          have HY6 : Hid ((w5.alloc (.cells #[.string X.s, .int .i64 X.k, .int .u32 X.m, .int .u32 X.u, .int .u32 X.g, .int .i64 X.t, .int .i64 X.a, .string X.d] 42)).heap[gy]? = some (.cells Y.cells 42 (0, 0))) := HY6.out
          clear HNX HAN HO5 HB5 HY5 HX5 hbe
          go_upto_region 12 with (at_builtin; refine wpList_append_own _ rfl _ _ 22 rfl W2.heap.size 42 i0 (.agg #[.string ⟨#[]⟩, .int .i64 0, .int .u32 0, .int .u32 0, .int .u32 0, .int .i64 0, .int .i64 0, .string ⟨#[]⟩]) 8 72 Tryz.underlying22 hi hz0 hz1 hz2 rfl (by decide) _ _ _ rfl HO6.out ⟨w5.heap.size, 0, none⟩ 1 1 X.cellsL rfl ?qc1 ?qc2 ?qc3 ?qc4 ?qc5 ?qc6 ?_)
          case qc1 => rfl
          case qc2 => exact HQ6.out
          case qc3 => exact one_box X
          case qc4 => have := HNL.out; unfold maxLen; omega
          case qc5 => have := HNL.out; omega
          case qc6 => exact HB6.out.size
          intro v7 w7 hown7 hgrow7 _
          have HB7 : Hid (Below W2.heap.size W2 w7) := HB6.out.grown hgrow7 HB6.out.size (fun q hq => (HLT.out q hq).1)
          have HY7 : Hid (w7.heap[gy]? = some (.cells Y.cells 42 (0, 0))) := (hgrow7.block gy (lt_of_block HY6.out) (fun h => by have := (HLT.out gy h.symm).2; omega)).trans HY6.out
          have HL7 : Hid (∀ q, v7.ownBlock = some q → W2.heap.size ≤ q) := fun q hq => (hown7.lt q hq).1
          obtain ⟨z0, z1, z2, z3, z4, z5, z6, z7⟩ := cells_of_box HY7.out
          have HO8 := Lib.hid (hown7.alloc (.cells Y.cells 42))
          have HQ8 := Lib.hid (news_box w7 Y)
          have HB8 := Lib.hid (HB7.out.alloc HB7.out.size (.cells Y.cells 42))
          simp only [Itm.cells] at HO8 HQ8 HB8
          clear hown7 hgrow7 HO6 HQ6 HB6 HY6 HB7 HLT x0 x1 x2 x3 x4 x5 x6 x7
          go_wp2_with (at_builtin; refine wpList_append_own _ rfl _ _ 22 rfl W2.heap.size 42 i0 (.agg #[.string ⟨#[]⟩, .int .i64 0, .int .u32 0, .int .u32 0, .int .u32 0, .int .i64 0, .int .i64 0, .string ⟨#[]⟩]) 8 72 Tryz.underlying22 hi hz0 hz1 hz2 rfl (by decide) _ _ _ rfl HO8.out ⟨w7.heap.size, 0, none⟩ 1 1 Y.cellsL rfl ?qd1 ?qd2 ?qd3 ?qd4 ?qd5 ?qd6 ?_)
          case qd1 => rfl
          case qd2 => exact HQ8.out
          case qd3 => exact one_box Y
          case qd4 => have := HNL.out; unfold maxLen; omega
          case qd5 => have := HNL.out; omega
          case qd6 => exact HB8.out.size
          intro v9 w9 hown9 hgrow9 _
          have HB9 : Hid (Below W2.heap.size W2 w9) := HB8.out.grown hgrow9 HB8.out.size (fun q hq => HL7.out q hq)
          have HO9 : Hid (w9.ownsRow W2.heap.size 42 8 v9 (nxtS X (O.take (j + 1))).length (cellsI (nxtS X (O.take (j + 1))))) := by
            show World.ownsRow _ _ _ _ _ _ _
            rw [HNE.out, ← cells_snoc, ← cells_snoc, List.length_append, List.length_append, List.append_assoc]
            exact hown9
          clear hown9 hgrow9 HO8 HQ8 HB8
          go_wp2_with fail
          go_roundw
          case rel => exact ⟨j + 1, _, by omega, rfl, by go_num, by rw [HAE.out], HO9, HB9⟩
          case measure => simp [intOf]; omega
        · have hbe : behI X Y = false := decide_eq_false hlt5
          have hd5 : decide (ordT X.s Y.s < 0) = false := decide_eq_false hlt5
          have HNE : Hid (nxtS X (O.take (j + 1)) = L ++ [Y]) := by show _ = _; rw [HNX.out, if_neg (by decide), if_neg (by rw [hbe]; decide)]
          have HAE : Hid ((O.take (j + 1)).any (behI X) = false) := by show _ = _; rw [HAN.out, hbe]; rfl
          obtain ⟨y0, y1, y2, y3, y4, y5, y6, y7⟩ := cells_of_box HY5.out
          have HO6 := Lib.hid (HO5.out.alloc (.cells Y.cells 42))
          have HQ6 := Lib.hid (news_box w5 Y)
          have HB6 := Lib.hid (HB5.out.alloc HB5.out.size (.cells Y.cells 42))
          simp only [Itm.cells] at HO6 HQ6 HB6
          clear HNX HAN HO5 HB5 hbe
          go_wp2_with (at_builtin; refine wpList_append_own _ rfl _ _ 22 rfl W2.heap.size 42 i0 (.agg #[.string ⟨#[]⟩, .int .i64 0, .int .u32 0, .int .u32 0, .int .u32 0, .int .i64 0, .int .i64 0, .string ⟨#[]⟩]) 8 72 Tryz.underlying22 hi hz0 hz1 hz2 rfl (by decide) _ _ _ rfl HO6.out ⟨w5.heap.size, 0, none⟩ 1 1 Y.cellsL rfl ?qc1 ?qc2 ?qc3 ?qc4 ?qc5 ?qc6 ?_)
          case qc1 => rfl
          case qc2 => exact HQ6.out
          case qc3 => exact one_box Y
          case qc4 => have := HNL.out; unfold maxLen; omega
          case qc5 => have := HNL.out; omega
          case qc6 => exact HB6.out.size
          intro v7 w7 hown7 hgrow7 _
          have HB7 : Hid (Below W2.heap.size W2 w7) := HB6.out.grown hgrow7 HB6.out.size (fun q hq => (HLT.out q hq).1)
          have HO7 : Hid (w7.ownsRow W2.heap.size 42 8 v7 (nxtS X (O.take (j + 1))).length (cellsI (nxtS X (O.take (j + 1))))) := by
            show World.ownsRow _ _ _ _ _ _ _
            rw [HNE.out, ← cells_snoc, List.length_append]
            exact hown7
          clear hown7 hgrow7 HO6 HQ6 HB6
          go_wp2_with fail
          go_roundw
          case rel => exact ⟨j + 1, _, by omega, rfl, by go_num, by rw [HAE.out], HO7, HB7⟩
          case measure => simp [intOf]; omega
end Go.Proofs.YtmeapijckncoeaaGreatDoor

namespace Go.Proofs.YtmeapijckncoeaaGreatDoor
set_option maxRecDepth 100000
set_option linter.unusedSimpArgs false
set_option linter.unusedVariables false
open Go.RowKit Go.Joins Go.Deep
open Go.Lib hiding intOf
/-- Are two nodes the same, field by field? -/
def nodB (X Y : Itm) : Bool := (X.k == Y.k) && ((X.m == Y.m) && ((X.u == Y.u) && ((X.g == Y.g) && ((X.t == Y.t) && ((X.a == Y.a) && (X.d.toList == Y.d.toList))))))
/-- Are two items the same? -/
def itmB (X Y : Itm) : Bool := (X.s.toList == Y.s.toList) && nodB X Y
theorem eqq_node (X Y : Itm) (w : World) : (Op.equalIn 9999 25 (.agg #[.int .i64 X.k, .int .u32 X.m, .int .u32 X.u, .int .u32 X.g, .int .i64 X.t, .int .i64 X.a, .string X.d]) (.agg #[.int .i64 Y.k, .int .u32 Y.m, .int .u32 Y.u, .int .u32 Y.g, .int .i64 Y.t, .int .i64 Y.a, .string Y.d])).run Tryz.prog w = .ok (nodB X Y) w := by
  rw [run_equalIn_struct w 9998 25 _ _ (by kernel_rfl) (by kernel_rfl)]
  unfold nodB
  simp [go_sem, Program.fieldsOf, Tryz.underlying25]
  (repeat' split) <;> simp_all
/-- Are two lists of items the same? -/
def samB (l m : List Itm) : Bool := decide (l.length = m.length) && (List.range l.length).all fun k => itmB (atI l k) (atI m k)
set_option maxHeartbeats 8000000 in
theorem rsameQ_any (A B : Option Addr) (cA cB : Nat) (l m : List Itm) (w : World) (hA : Itms w A l) (hB : Itms w B m) (hl : l.length ≤ 1000000) (hm : m.length ≤ 1000000) :
    Calls Tryz.prog 12 #[.slice A l.length cA, .slice B m.length cB] w fun e w' => e = .returned (.bool (samB l m)) ∧ ∃ d, w' = w.drewN d := by
  have hit := info_item
  have HA := Lib.hid hA
  have HB := Lib.hid hB
  obtain ⟨V, hV⟩ : ∃ V, V = samB l m := ⟨_, rfl⟩
  rw [← hV]
  unfold samB at hV
  have HV := Lib.hid hV
  clear hA hB hV
  by_cases hlm : l.length = m.length
  case neg =>
    have hne : ((l.length : Int) == (m.length : Int)) = false := beq_eq_false_iff_ne.2 (by omega)
    have HNO : Hid (V = false) := by show V = _; rw [HV.out, decide_eq_false hlm]; rfl
    clear HA HB
    go_enter Tryz.func12, Tryz.ntmps12
    go_wp2_with fail
    go_ret
    rw [HNO.out]
    exact ⟨rfl, 0, rfl⟩
  have HM : Hid (m.length = l.length) := hlm.symm
  rw [decide_eq_true hlm, Bool.true_and] at HV
  rw [HM.out]
  clear hlm
  go_enter Tryz.func12, Tryz.ntmps12
  go_wp2_with fail
  go_loopw [13] (fun i wr => ∃ (k d : Nat), k ≤ l.length ∧ i = .int .i64 (k : Nat) ∧ Hid ((List.range k).all (fun k => itmB (atI l k) (atI m k)) = true) ∧ wr = w.drewN d) (fun i _ => l.length - (intOf i).toNat)
  case atStart => exact ⟨0, 0, Nat.zero_le _, rfl, rfl, rfl⟩
  case round =>
    obtain ⟨k, d, hk, rfl, HR, rfl⟩ := hrel
    by_cases hkn : k < l.length
    · have hkm : k < m.length := by have := HM.out; omega
      obtain ⟨b, off, rfl, hbl, hc⟩ := HA.out (by omega)
      obtain ⟨b2, off2, rfl, hbl2, hc2⟩ := HB.out (by omega)
      obtain ⟨c0, c1, c2, c3, c4, c5, c6, c7⟩ := hc k l[k] (List.getElem?_eq_getElem hkn)
      obtain ⟨e0, e1, e2, e3, e4, e5, e6, e7⟩ := hc2 k m[k] (List.getElem?_eq_getElem hkm)
      have HX : Hid (atI l k = l[k]) := by show l[k]?.getD default = _; rw [List.getElem?_eq_getElem hkn]; rfl
      have HY : Hid (atI m k = m[k]) := by show m[k]?.getD default = _; rw [List.getElem?_eq_getElem hkm]; rfl
      clear hc hc2
      generalize l[k] = X at *
      generalize m[k] = Y at *
      have heq := eqq_node X Y
      have hki : (k : Int) < (l.length : Int) := by omega
      have hl2 : k < 1000000 := by omega
      cases hT : (X.s.toList == Y.s.toList) with
      | false =>
        have HNO : Hid (V = false) := by show V = _; rw [HV.out]; exact rng_all _ _ _ HR.out hkn (by rw [HX.out, HY.out]; unfold itmB; rw [hT]; rfl)
        clear HR hkm
        go_wp2_with fail
        go_quiet (fail)
        go_wp2_with fail
        go_ret
        rw [HNO.out]
        exact ⟨rfl, d + nq, by first | rfl | rw [World.drewN_drewN]⟩
      | true =>
       cases hN : nodB X Y with
       | true =>
        rw [hN] at heq
        have HR2 : Hid ((List.range (k + 1)).all (fun k => itmB (atI l k) (atI m k)) = true) := rng_more _ _ HR.out (by rw [HX.out, HY.out]; unfold itmB; rw [hT, hN]; rfl)
        clear HR hkm
        go_wp2_with fail
        go_quiet (fail)
        go_wp2_with fail
        go_roundw
        case rel => exact ⟨k + 1, d + nq, by omega, by go_num, HR2, by first | rfl | rw [World.drewN_drewN]⟩
        case measure => simp [intOf]; omega
       | false =>
        rw [hN] at heq
        have HNO : Hid (V = false) := by show V = _; rw [HV.out]; exact rng_all _ _ _ HR.out hkn (by rw [HX.out, HY.out]; unfold itmB; rw [hT, hN]; rfl)
        clear HR hkm
        go_wp2_with fail
        go_quiet (fail)
        go_wp2_with fail
        go_ret
        rw [HNO.out]
        exact ⟨rfl, d + nq, by first | rfl | rw [World.drewN_drewN]⟩
    · obtain rfl : k = l.length := by omega
      have HNO : Hid (V = true) := by show V = _; rw [HV.out]; exact HR.out
      go_wp2_with fail
      go_ret
      rw [HNO.out]
      exact ⟨rfl, d, rfl⟩
set_option maxHeartbeats 8000000 in
theorem requal_any (A B : Option Addr) (cA cB : Nat) (l m : List Itm) (w : World) (hA : Itms w A l) (hB : Itms w B m) (hl : l.length ≤ 1000000) (hm : m.length ≤ 1000000) :
    Calls Tryz.prog 46 #[.slice A l.length cA, .slice B m.length cB] w fun e w' => e = .returned (.bool (samB l m)) ∧ ∃ d, w' = w.drewN d := by
  have hit := info_item
  have HA := Lib.hid hA
  have HB := Lib.hid hB
  obtain ⟨V, hV⟩ : ∃ V, V = samB l m := ⟨_, rfl⟩
  rw [← hV]
  unfold samB at hV
  have HV := Lib.hid hV
  clear hA hB hV
  by_cases hlm : l.length = m.length
  case neg =>
    have hne : ((l.length : Int) == (m.length : Int)) = false := beq_eq_false_iff_ne.2 (by omega)
    have HNO : Hid (V = false) := by show V = _; rw [HV.out, decide_eq_false hlm]; rfl
    clear HA HB
    go_enter Tryz.func46, Tryz.ntmps46
    go_wp2_with fail
    go_ret
    rw [HNO.out]
    exact ⟨rfl, 0, rfl⟩
  have HM : Hid (m.length = l.length) := hlm.symm
  rw [decide_eq_true hlm, Bool.true_and] at HV
  rw [HM.out]
  clear hlm
  go_enter Tryz.func46, Tryz.ntmps46
  go_wp2_with fail
  go_loopw [13] (fun i wr => ∃ (k d : Nat), k ≤ l.length ∧ i = .int .i64 (k : Nat) ∧ Hid ((List.range k).all (fun k => itmB (atI l k) (atI m k)) = true) ∧ wr = w.drewN d) (fun i _ => l.length - (intOf i).toNat)
  case atStart => exact ⟨0, 0, Nat.zero_le _, rfl, rfl, rfl⟩
  case round =>
    obtain ⟨k, d, hk, rfl, HR, rfl⟩ := hrel
    by_cases hkn : k < l.length
    · have hkm : k < m.length := by have := HM.out; omega
      obtain ⟨b, off, rfl, hbl, hc⟩ := HA.out (by omega)
      obtain ⟨b2, off2, rfl, hbl2, hc2⟩ := HB.out (by omega)
      obtain ⟨c0, c1, c2, c3, c4, c5, c6, c7⟩ := hc k l[k] (List.getElem?_eq_getElem hkn)
      obtain ⟨e0, e1, e2, e3, e4, e5, e6, e7⟩ := hc2 k m[k] (List.getElem?_eq_getElem hkm)
      have HX : Hid (atI l k = l[k]) := by show l[k]?.getD default = _; rw [List.getElem?_eq_getElem hkn]; rfl
      have HY : Hid (atI m k = m[k]) := by show m[k]?.getD default = _; rw [List.getElem?_eq_getElem hkm]; rfl
      clear hc hc2
      generalize l[k] = X at *
      generalize m[k] = Y at *
      have heq := eqq_node X Y
      have hki : (k : Int) < (l.length : Int) := by omega
      have hl2 : k < 1000000 := by omega
      cases hT : (X.s.toList == Y.s.toList) with
      | false =>
        have HNO : Hid (V = false) := by show V = _; rw [HV.out]; exact rng_all _ _ _ HR.out hkn (by rw [HX.out, HY.out]; unfold itmB; rw [hT]; rfl)
        clear HR hkm
        go_wp2_with fail
        go_quiet (fail)
        go_wp2_with fail
        go_ret
        rw [HNO.out]
        exact ⟨rfl, d + nq, by first | rfl | rw [World.drewN_drewN]⟩
      | true =>
       cases hN : nodB X Y with
       | true =>
        rw [hN] at heq
        have HR2 : Hid ((List.range (k + 1)).all (fun k => itmB (atI l k) (atI m k)) = true) := rng_more _ _ HR.out (by rw [HX.out, HY.out]; unfold itmB; rw [hT, hN]; rfl)
        clear HR hkm
        go_wp2_with fail
        go_quiet (fail)
        go_wp2_with fail
        go_roundw
        case rel => exact ⟨k + 1, d + nq, by omega, by go_num, HR2, by first | rfl | rw [World.drewN_drewN]⟩
        case measure => simp [intOf]; omega
       | false =>
        rw [hN] at heq
        have HNO : Hid (V = false) := by show V = _; rw [HV.out]; exact rng_all _ _ _ HR.out hkn (by rw [HX.out, HY.out]; unfold itmB; rw [hT, hN]; rfl)
        clear HR hkm
        go_wp2_with fail
        go_quiet (fail)
        go_wp2_with fail
        go_ret
        rw [HNO.out]
        exact ⟨rfl, d + nq, by first | rfl | rw [World.drewN_drewN]⟩
    · obtain rfl : k = l.length := by omega
      have HNO : Hid (V = true) := by show V = _; rw [HV.out]; exact HR.out
      go_wp2_with fail
      go_ret
      rw [HNO.out]
      exact ⟨rfl, d, rfl⟩
set_option maxHeartbeats 4000000 in
theorem tsame_any (A B : Option Addr) (cA cB : Nat) (l m : List Itm) (w : World) (hA : Itms w A l) (hB : Itms w B m) (hl : l.length ≤ 1000000) (hm : m.length ≤ 1000000) :
    Calls Tryz.prog 23 #[.slice A l.length cA, .slice B m.length cB] w fun e w' => e = .returned (.bool (samB l m)) ∧ ∃ d, w' = w.drewN d := by
  have HS := Lib.hid (requal_any A B cA cB l m w hA hB hl hm)
  generalize samB l m = V at *
  clear hA hB
  go_enter Tryz.func23, Tryz.ntmps23
  go_wp2_with fail
  refine HS.out.mono ?_; rintro e w1 ⟨rfl, d, rfl⟩
  go_wp2_with fail
  go_ret
  exact ⟨rfl, d, rfl⟩
end Go.Proofs.YtmeapijckncoeaaGreatDoor

namespace Go.Proofs.YtmeapijckncoeaaGreatDoor
set_option maxRecDepth 100000
set_option linter.unusedSimpArgs false
set_option linter.unusedVariables false
open Go.RowKit Go.Joins Go.Deep Go.WideMaps
open Go.Lib hiding intOf
/-- A node as a map's datum. -/
def nodD (X : Itm) : DataW Unit := .agg [.lit (.int .i64 X.k), .lit (.int .u32 X.m), .lit (.int .u32 X.u), .lit (.int .u32 X.g), .lit (.int .i64 X.t), .lit (.int .i64 X.a), .lit (.string X.d.data.toList)]
def itm0 : Itm := ⟨⟨#[]⟩, 0, 0, 0, 0, 0, 0, ⟨#[]⟩⟩
def nodV (X : Itm) : Value := .agg #[.int .i64 X.k, .int .u32 X.m, .int .u32 X.u, .int .u32 X.g, .int .i64 X.t, .int .i64 X.a, .string X.d]
open Classical in
/-- How a map's value is read. -/
noncomputable def nodeR (v : Value) : Option (DataW Unit × List MemPlace) := if h : ∃ X : Itm, v = nodV X then some (nodD (Classical.choose h), []) else none
theorem nodD_inj {X Y : Itm} (h : nodD X = nodD Y) : nodV X = nodV Y := by
  unfold nodD at h
  injection h with h
  simp only [List.cons.injEq, DataW.lit.injEq, Lit.int.injEq, Lit.string.injEq, true_and, and_true] at h
  obtain ⟨h1, h2, h3, h4, h5, h6, h7⟩ := h
  unfold nodV
  rw [h1, h2, h3, h4, h5, h6, ByteArray.ext (Array.toList_inj.1 h7)]
theorem nodV_nodD {X Y : Itm} (h : nodV X = nodV Y) : nodD X = nodD Y := by
  unfold nodV at h
  injection h with h
  injection h with h
  simp only [List.cons.injEq, Value.int.injEq, Value.string.injEq, true_and, and_true] at h
  obtain ⟨h1, h2, h3, h4, h5, h6, h7⟩ := h
  unfold nodD
  rw [h1, h2, h3, h4, h5, h6, h7]
theorem nodeR_mk (X : Itm) : nodeR (nodV X) = some (nodD X, []) := by
  have h : ∃ Y : Itm, nodV X = nodV Y := ⟨X, rfl⟩
  unfold nodeR
  rw [dif_pos h, nodV_nodD (Classical.choose_spec h).symm]
theorem nodeR_inv {v : Value} {X : Itm} {ps : List MemPlace} (h : nodeR v = some (nodD X, ps)) : v = nodV X := by
  unfold nodeR at h
  by_cases hc : ∃ Y : Itm, v = nodV Y
  · rw [dif_pos hc] at h
    injection h with h
    injection h with h _
    rw [Classical.choose_spec hc]
    exact nodD_inj h
  · rw [dif_neg hc] at h
    cases h
abbrev keyT (s : ByteArray) : Lit := .string s.data.toList
theorem keyT_inj {a b : ByteArray} (h : keyT a = keyT b) : a = b := by
  injection h with h
  exact ByteArray.ext (Array.toList_inj.1 h)
def idxStep (D : DataW Unit) (X : Itm) : DataW Unit := if Maps.has D (keyT X.s) = true then D else D.put (keyT X.s) (nodD X)
/-- The first node of each path. -/
def idxD (l : List Itm) : DataW Unit := l.foldl idxStep (.map [])
theorem idxD_snoc (l : List Itm) (X : Itm) : idxD (l ++ [X]) = idxStep (idxD l) X := by simp [idxD]
theorem step_map {D : DataW Unit} (h : Maps.IsMap D) (X : Itm) : Maps.IsMap (idxStep D X) := by
  unfold idxStep
  split
  · exact h
  · exact h.put _ _
theorem step_has {D : DataW Unit} (h : Maps.IsMap D) (X : Itm) (p : ByteArray) : Maps.has (idxStep D X) (keyT p) = (Maps.has D (keyT p) || (X.s.toList == p.toList)) := by
  unfold idxStep
  by_cases e : X.s = p
  · subst e
    by_cases hh : Maps.has D (keyT X.s) = true
    · rw [if_pos hh, hh]; rfl
    · rw [if_neg hh, Maps.has_put_same h (show WideAt.IsKeyLit (keyT X.s) from trivial)]; simp
  · have hne : (X.s.toList == p.toList) = false := beq_eq_false_iff_ne.2 fun k => e (toList_inj' k)
    have hk : keyT p ≠ keyT X.s := fun k => e (keyT_inj k).symm
    rw [hne, Bool.or_false]
    split
    · rfl
    · exact Maps.has_put_other hk _
theorem step_at {D : DataW Unit} (h : Maps.IsMap D) (X : Itm) (p : ByteArray) (z : DataW Unit) : (idxStep D X).atKey (keyT p) z = if Maps.has D (keyT p) = true then D.atKey (keyT p) z else if (X.s.toList == p.toList) = true then nodD X else z := by
  unfold idxStep
  by_cases e : X.s = p
  · subst e
    by_cases hh : Maps.has D (keyT X.s) = true
    · rw [if_pos hh, if_pos hh]
    · rw [if_neg hh, if_neg hh, Maps.atKey_put_same h (show WideAt.IsKeyLit (keyT X.s) from trivial), if_pos (by simp)]
  · have hne : ¬ (X.s.toList == p.toList) = true := fun k => e (toList_inj' (eq_of_beq k))
    have hk : keyT p ≠ keyT X.s := fun k => e (keyT_inj k).symm
    rw [if_neg hne]
    by_cases hp : Maps.has D (keyT p) = true
    · rw [if_pos hp]
      split
      · rfl
      · exact Maps.atKey_put_other hk _ _
    · have hp0 := Maps.atKey_of_not_has (Bool.eq_false_iff.2 hp) z
      rw [if_neg hp]
      split
      · exact hp0
      · rw [Maps.atKey_put_other hk]; exact hp0
theorem fold_idx (p : ByteArray) (z : DataW Unit) : ∀ (l : List Itm) (D : DataW Unit), Maps.IsMap D → Maps.has (l.foldl idxStep D) (keyT p) = (Maps.has D (keyT p) || (fndQ l p).isSome) ∧ (l.foldl idxStep D).atKey (keyT p) z = (if Maps.has D (keyT p) = true then D.atKey (keyT p) z else match fndQ l p with | some X => nodD X | none => z)
  | [], D, h => by
    refine ⟨by simp [fndQ], ?_⟩
    by_cases hp : Maps.has D (keyT p) = true
    · rw [if_pos hp]; rfl
    · rw [if_neg hp]; exact Maps.atKey_of_not_has (Bool.eq_false_iff.2 hp) z
  | X :: l, D, h => by
    obtain ⟨h1, h2⟩ := fold_idx p z l (idxStep D X) (step_map h X)
    rw [List.foldl_cons, h1, h2, step_has h, step_at h]
    by_cases e : (X.s.toList == p.toList) = true
    · have hf : fndQ (X :: l) p = some X := by unfold fndQ; rw [List.find?_cons, e]
      rw [hf, e]
      by_cases hp : Maps.has D (keyT p) = true
      · rw [hp]; exact ⟨rfl, rfl⟩
      · rw [Bool.eq_false_iff.2 hp]; exact ⟨rfl, rfl⟩
    · have e := Bool.eq_false_iff.2 e
      have hf : fndQ (X :: l) p = fndQ l p := by unfold fndQ; rw [List.find?_cons, e]
      rw [hf, e, Bool.or_false]
      by_cases hp : Maps.has D (keyT p) = true
      · rw [hp]; exact ⟨rfl, rfl⟩
      · rw [Bool.eq_false_iff.2 hp]; exact ⟨rfl, rfl⟩
theorem idx_has (l : List Itm) (p : ByteArray) : Maps.has (idxD l) (keyT p) = (fndQ l p).isSome := by
  have := (fold_idx p (.agg []) l (.map []) ⟨[], rfl⟩).1
  rw [show Maps.has (DataW.map [] : DataW Unit) (keyT p) = false from rfl, Bool.false_or] at this
  exact this
theorem idx_at (l : List Itm) (p : ByteArray) (z : DataW Unit) : (idxD l).atKey (keyT p) z = match fndQ l p with | some X => nodD X | none => z := by
  have := (fold_idx p z l (.map []) ⟨[], rfl⟩).2
  rw [show Maps.has (DataW.map [] : DataW Unit) (keyT p) = false from rfl, if_neg (by decide)] at this
  exact this
/-- What a look-up of a node answers. -/
def lokN (l : List Itm) (p : ByteArray) : Itm := (fndQ l p).getD itm0
theorem idx_val (l : List Itm) (p : ByteArray) {v : Value} {ps : List MemPlace} (h : nodeR v = some ((idxD l).atKey (keyT p) (nodD itm0), ps)) : v = nodV (lokN l p) := by
  rw [idx_at] at h
  unfold lokN
  cases e : fndQ l p with
  | some X => rw [e] at h; exact nodeR_inv h
  | none => rw [e] at h; exact nodeR_inv h
/-! ### what paths imply -/
/-- A path, what it is under, and so on, up to the root. -/
def chnF : Nat → ByteArray → List ByteArray
  | 0, _ => []
  | n + 1, q => if q.size = 0 then [] else q :: chnF n (parB q)
def chn (q : ByteArray) : List ByteArray := chnF q.size q
theorem par_size (q : ByteArray) (h : q.size ≠ 0) : (parB q).size < q.size := by
  rcases last_cases q with ⟨h0, _⟩ | ⟨k, hk, h47, hpar, hnum, _⟩
  · have : (parB q).size = 0 := h0
    omega
  · rw [hpar]
    show (q.extract 0 k).size < _
    rw [ByteArray.size_extract]
    omega
theorem chnF_more : ∀ (n m : Nat) (q : ByteArray), q.size ≤ n → q.size ≤ m → chnF n q = chnF m q
  | 0, 0, q, _, _ => rfl
  | 0, m + 1, q, h, _ => by rw [chnF, chnF, if_pos (by omega)]
  | n + 1, 0, q, _, h => by rw [chnF, chnF, if_pos (by omega)]
  | n + 1, m + 1, q, h1, h2 => by
    rw [chnF, chnF]
    by_cases h : q.size = 0
    · rw [if_pos h, if_pos h]
    · rw [if_neg h, if_neg h, chnF_more n m (parB q) (by have := par_size q h; omega) (by have := par_size q h; omega)]
theorem chn_nil {q : ByteArray} (h : q.size = 0) : chn q = [] := by unfold chn; rw [h]; rfl
theorem chn_cons {q : ByteArray} (h : q.size ≠ 0) : chn q = q :: chn (parB q) := by
  unfold chn
  obtain ⟨n, hn⟩ : ∃ n, q.size = n + 1 := ⟨q.size - 1, by omega⟩
  rw [hn, chnF, if_neg h, chnF_more n (parB q).size (parB q) (by have := par_size q h; omega) (Nat.le_refl _)]
/-- Is a path known? -/
def knB (kn : List ByteArray) (a : ByteArray) : Bool := kn.any fun s => s.toList == a.toList
/-- Paths that are known, and of these those that aren't there: with one path's. -/
def impW (t : List Itm) : List ByteArray → (List ByteArray × List ByteArray) → Option (List ByteArray × List ByteArray)
  | [], s => some s
  | a :: r, (kn, out) => if knB kn a = true then some (kn, out) else match fndQ t a with
    | some X => if X.k = 1 then impW t r (kn ++ [a], out) else none
    | none => impW t r (kn ++ [a], out ++ [a])
def impA (t l : List Itm) : Option (List ByteArray × List ByteArray) := l.foldl (fun s x => s.bind (impW t (chn (parB x.s)))) (some ([], []))
theorem impA_snoc (t l : List Itm) (x : Itm) : impA t (l ++ [x]) = (impA t l).bind (impW t (chn (parB x.s))) := by simp [impA]
theorem fold_none (t : List Itm) : ∀ l : List Itm, l.foldl (fun s x => s.bind (impW t (chn (parB x.s)))) (none : Option (List ByteArray × List ByteArray)) = none
  | [] => rfl
  | x :: l => by rw [List.foldl_cons]; exact fold_none t l
theorem impA_none {t l m : List Itm} (h : impA t l = none) : impA t (l ++ m) = none := by
  unfold impA at h ⊢
  rw [List.foldl_append, h]
  exact fold_none t m
/-- Is no parent anything but a directory? And the parents that aren't there. -/
def impB (t : List Itm) : Bool := (impA t t).isSome
def impO (t : List Itm) : List ByteArray := ((impA t t).getD ([], [])).2
end Go.Proofs.YtmeapijckncoeaaGreatDoor
