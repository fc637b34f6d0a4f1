/-
  Trees: the document's Sort.
  Items: the law's Few; Same of the same items.
  DenoteOver: the walk.
-/
import Derived.Test.YtpkhpaklhfomkaaGreatDoorPkE
import Derived.Test.YtpkhpaklhfomkaaGreatDoorTpI
import Derived.Test.YtpkhpaklhfomkaaGreatDoorTpD
import Derived.Test.YtpkhpaklhfomkaaGreatDoorPkH
import Derived.Test.YtpkhpaklhfomkaaGreatDoorItA
import Derived.BigQuiet
import Derived.Test.YtpkhpaklhfomkaaGreatDoorOvB
import Derived.Test.YtpkhpaklhfomkaaGreatDoorPkD

namespace Go.Proofs.YtpkhpaklhfomkaaGreatDoor
set_option maxRecDepth 100000
set_option linter.unusedSimpArgs false
set_option linter.unusedVariables false
open Go.RowKit Go.Joins Go.Deep
open Go.Lib hiding intOf
theorem putS_len (x : Itm) (l : List Itm) : (putS x l).length = l.length + 1 := by
  unfold putS
  have := congrArg List.length (List.takeWhile_append_dropWhile (p := fun y => !behI x y) (l := l))
  rw [List.length_append] at this
  simp
  omega
theorem nxtS_len (x : Itm) (l : List Itm) : (nxtS x l).length ≤ l.length + 1 := by
  unfold nxtS
  split
  · rw [putS_len]; omega
  · omega
theorem insAll_len (l : List Itm) : (insAll l).length = l.length := by rw [insAll_sort, sortI_len]
theorem insAll_mem {l : List Itm} {x : Itm} (h : x ∈ insAll l) : x ∈ l := by
  rw [insAll_sort] at h
  exact sortI_mem l x h
/-- The eight cells of an item in a block of its own. -/
theorem cells_of_box {w : World} {g : Nat} {X : Itm} (h : w.heap[g]? = some (.cells X.cells 33 (0, 0))) : w.cell? ⟨g, 0, none⟩ = some (.string X.s) ∧ w.cell? ⟨g, 1, none⟩ = some (.int .i64 X.k) ∧ w.cell? ⟨g, 2, none⟩ = some (.int .u32 X.m) ∧ w.cell? ⟨g, 3, none⟩ = some (.int .u32 X.u) ∧ w.cell? ⟨g, 4, none⟩ = some (.int .u32 X.g) ∧ w.cell? ⟨g, 5, none⟩ = some (.int .i64 X.t) ∧ w.cell? ⟨g, 6, none⟩ = some (.int .i64 X.a) ∧ w.cell? ⟨g, 7, none⟩ = some (.string X.d) :=
  ⟨(cell_of_row _ _ 0 _ _ _ h).trans rfl, (cell_of_row _ _ 1 _ _ _ h).trans rfl, (cell_of_row _ _ 2 _ _ _ h).trans rfl, (cell_of_row _ _ 3 _ _ _ h).trans rfl, (cell_of_row _ _ 4 _ _ _ h).trans rfl, (cell_of_row _ _ 5 _ _ _ h).trans rfl, (cell_of_row _ _ 6 _ _ _ h).trans rfl, (cell_of_row _ _ 7 _ _ _ h).trans rfl⟩
theorem news_box (w : World) (X : Itm) : ∀ j u, X.cellsL[j]? = some u → (w.alloc (.cells X.cells 33)).cell? ((⟨w.heap.size, 0, none⟩ : Addr).add j) = some u := fun j u hj => by
  rw [Addr.add_lit, Nat.zero_add, cell_of_row _ _ j _ _ _ (heap_alloc_new w _)]
  simpa [Itm.cells, Itm.cellsL] using hj
theorem own_belowI {w w' : World} {base size n : Nat} {e : TypeId} {v : Value} {xs : List Value} (h : w.ownsRow base e size v n xs) (hb : Below w.heap.size w w') : w'.ownsRow base e size v n xs :=
  h.kept (row := none) ⟨hb.os, hb.tape, hb.output, hb.size, fun i hi _ => hb.block i hi⟩ (by cases hv : v.ownBlock <;> simp)
theorem one_box (X : Itm) : ∀ u ∈ X.cellsL, u.oneCell' = true := fun u hu => cellsI_one [X] u (by rw [cellsI, cellsI, List.append_nil]; exact hu)
theorem cells_snoc (L : List Itm) (X : Itm) : cellsI L ++ X.cellsL = cellsI (L ++ [X]) := by rw [cellsI_app, cellsI, cellsI, List.append_nil]
set_option maxHeartbeats 16000000 in
theorem rsort_any (A : Option Addr) (c : Nat) (l : List Itm) (w : World) (hR : Itms w A l) (hl : l.length ≤ 1000) (hs : ∀ x ∈ l, x.s.size ≤ 100000) :
    Calls Tryz.prog 29 #[.slice A l.length c] w fun e w' => ∃ A' c', e = .returned (.slice A' l.length c') ∧ NewI w' w.heap.size A' (sortI l) ∧ Below w.heap.size w w' := by
  obtain ⟨i0, hi, hz0, hz1, hz2⟩ := partsI
  have hir := info_item
  have HR := Lib.hid hR
  have HS := Lib.hid hs
  clear hR hs
  go_enter Tryz.func29, Tryz.ntmps29
  go_wp2_with fail
  go_loopw [3, 12] (fun v3 v12 wr => ∃ (k : Nat) (A3 : Option Addr) (c3 : Nat), k ≤ l.length ∧ v12 = .int .i64 (k : Nat) ∧ v3 = .slice A3 k c3 ∧ Hid (NewI wr w.heap.size A3 (insAll (l.take k))) ∧ Hid (Below w.heap.size w wr)) (fun _ v _ => l.length - (intOf v).toNat)
  case atStart => exact ⟨0, none, 0, Nat.zero_le _, rfl, rfl, .inl rfl, Below.refl _ _⟩
  case round =>
    obtain ⟨k, A3, c3, hk, rfl, rfl, HN, HB⟩ := hrel
    by_cases hlt : k < l.length
    case neg =>
      obtain rfl : k = l.length := by omega
      have hd : decide ((l.length : Int) < (l.length : Int)) = false := decide_eq_false (by omega)
      have HE : Hid (insAll (l.take l.length) = sortI l) := by show _ = _; rw [List.take_length]; exact insAll_sort l
      go_wp2_with fail
      go_ret
      exact ⟨A3, c3, rfl, by rw [← HE.out]; exact HN.out, HB.out⟩
    have hd : decide ((k : Int) < (l.length : Int)) = true := decide_eq_true (by omega)
    obtain ⟨b, off, rfl, hb, hcc⟩ := (HR.out.below HB.out) (by omega)
    obtain ⟨c0, c1, c2, c3', c4, c5, c6, c7⟩ := hcc k l[k] (List.getElem?_eq_getElem hlt)
    have HSN : Hid (insAll (l.take (k + 1)) = putS l[k] (insAll (l.take k))) := by
      show _ = _
      rw [List.take_succ_eq_append_getElem hlt, insAll_snoc]
    have HSX := Lib.hid (HS.out l[k] (List.getElem_mem hlt))
    have HOL : Hid ((insAll (l.take k)).length = k) := by show _ = _; rw [insAll_len, List.length_take]; omega
    have HOS : Hid (∀ y ∈ insAll (l.take k), y.s.size ≤ 100000) := fun y hy => HS.out y (List.mem_of_mem_take (insAll_mem hy))
    obtain ⟨W2, hW2⟩ : ∃ W2, W2 = wr.alloc (.cells l[k].cells 33) := ⟨_, rfl⟩
    have hb2 : Below wr.heap.size wr W2 := by rw [hW2]; exact below_al wr _
    have HX2 : Hid (W2.heap[wr.heap.size]? = some (.cells l[k].cells 33 (0, 0))) := by show _ = _; rw [hW2]; exact heap_alloc_new wr _
    have HZ2 : Hid (W2.heap.size = wr.heap.size + 1) := by show _ = _; rw [hW2]; simp only [World.alloc, Array.size_push]
    have HI2 : Hid (Itms W2 A3 (insAll (l.take k))) := HN.out.itms.below hb2
    have HB2 := Lib.hid (below_then HB.out hb2)
    generalize insAll (l.take k) = O at *
    generalize l[k] = X at *
    simp only [Itm.cells] at hW2
    have HW2 := Lib.hid hW2
    clear hcc hb2 hW2 HN
    generalize hgx : wr.heap.size = gx at *
    go_wp2_with fail
    rw [← HW2.out]
    clear HW2 c0 c1 c2 c3' c4 c5 c6 c7
    go_loopw [6, 7, 18] (fun v6 v7 v18 wi => ∃ (j : Nat) (V : Value), j ≤ k ∧ V = v6 ∧ v18 = .int .i64 (j : Nat) ∧ v7 = .bool ((O.take j).any (behI X)) ∧ Hid (wi.ownsRow W2.heap.size 33 8 v6 (nxtS X (O.take j)).length (cellsI (nxtS X (O.take j)))) ∧ Hid (Below W2.heap.size W2 wi)) (fun _ _ v _ => k - (intOf v).toNat)
    case atStart => exact ⟨0, _, Nat.zero_le _, rfl, rfl, rfl, World.ownsRow_nil _ _ _ _, Below.refl _ _⟩
    case round =>
      obtain ⟨j, V, hj, rfl, rfl, rfl, HO, HBI⟩ := hrel
      have HXI : Hid (wr.heap[gx]? = some (.cells X.cells 33 (0, 0))) := (HBI.out.block _ (lt_of_block HX2.out)).trans HX2.out
      have HGX : Hid (gx < W2.heap.size) := by show _ < _; have := HZ2.out; omega
      by_cases hjk : j < k
      case neg =>
        obtain rfl : j = k := by omega
        have hd2 : decide ((j : Int) < (j : Int)) = false := decide_eq_false (by omega)
        have HTK : Hid (O.take j = O) := List.take_of_length_le (by have := HOL.out; omega)
        rw [HTK.out] at HO ⊢
        have HEND := Lib.hid (nxtS_end X O)
        have HPL : Hid ((putS X O).length = j + 1) := by show _ = _; rw [putS_len, HOL.out]
        have HNL : Hid ((nxtS X O).length ≤ 1001) := by show _ ≤ _; have := nxtS_len X O; have := HOL.out; omega
        have HBR := Lib.hid (HB2.out.trans (HBI.out.mono HB2.out.size))
        generalize hbd : O.any (behI X) = bd at *
        cases bd with
        | true =>
          have HEQ : Hid (nxtS X O = putS X O) := HEND.out
          rw [HEQ.out] at HO
          obtain ⟨A5, c5, rfl, hN5⟩ := nb_of_own V (by rw [HPL.out]; omega) HO.out
          have HN5 := Lib.hid hN5
          clear hN5 HEND HO
          rw [HPL.out]
          go_wp2_with fail
          go_roundw
          case rel =>
            refine ⟨j + 1, A5, c5, by omega, by go_num, rfl, ?_, HBR⟩
            show NewI _ _ _ _
            rw [HSN.out]
            rcases HN5.out with ⟨h, _⟩ | ⟨g, e, hg, hic⟩
            · exact .inl h
            · exact .inr ⟨g, e, Nat.le_trans HB2.out.size hg, hic.1⟩
          case measure => simp [intOf]; omega
        | false =>
          have HEQ : Hid (nxtS X O ++ [X] = putS X O) := HEND.out
          obtain ⟨x0, x1, x2, x3, x4, x5, x6, x7⟩ := cells_of_box HXI.out
          have HO5 := Lib.hid (HO.out.alloc (.cells X.cells 33))
          have HQ5 := Lib.hid (news_box wr X)
          have HB5 := Lib.hid (HBR.out.alloc HBR.out.size (.cells X.cells 33))
          have HSZ : Hid (W2.heap.size ≤ (wr.alloc (.cells X.cells 33)).heap.size) := Nat.le_trans HBI.out.size (below_al wr _).size
          have HBW : Hid (W2.heap.size ≥ w.heap.size) := HB2.out.size
          simp only [Itm.cells] at HO5 HQ5 HB5 HSZ
          clear HO HEND
          go_wp2_with (at_builtin; refine wpList_append_own _ rfl _ _ 22 rfl W2.heap.size 33 i0 (.agg #[.string ⟨#[]⟩, .int .i64 0, .int .u32 0, .int .u32 0, .int .u32 0, .int .i64 0, .int .i64 0, .string ⟨#[]⟩]) 8 72 Tryz.underlying22 hi hz0 hz1 hz2 rfl (by decide) _ _ _ rfl HO5.out ⟨wr.heap.size, 0, none⟩ 1 1 X.cellsL rfl ?qc1 ?qc2 ?qc3 ?qc4 ?qc5 ?qc6 ?_)
          case qc1 => rfl
          case qc2 => exact HQ5.out
          case qc3 => exact one_box X
          case qc4 => have := HNL.out; unfold maxLen; omega
          case qc5 => have := HNL.out; omega
          case qc6 => exact HSZ.out
          intro v7 w7 hown7 hgrow7 _
          have HB7 : Hid (Below w.heap.size w w7) := HB5.out.grown hgrow7 HB5.out.size (fun q hq => Nat.le_trans HBW.out (HO5.out.lt q hq).1)
          have hown7 : w7.ownsRow W2.heap.size 33 8 v7 (putS X O).length (cellsI (putS X O)) := by
            have h := hown7
            rw [cells_snoc, HEQ.out] at h
            rw [show (nxtS X O).length + 1 = (putS X O).length by rw [← HEQ.out, List.length_append]; rfl] at h
            exact h
          obtain ⟨A5, c5, rfl, hN5⟩ := nb_of_own v7 (by rw [HPL.out]; omega) hown7
          have HN5 := Lib.hid hN5
          clear hN5 hown7 hgrow7 HO5 HQ5 HB5
          rw [HPL.out]
          go_wp2_with fail
          go_roundw
          case rel =>
            refine ⟨j + 1, A5, c5, by omega, by go_num, rfl, ?_, HB7⟩
            show NewI _ _ _ _
            rw [HSN.out]
            rcases HN5.out with ⟨h, _⟩ | ⟨g, e, hg, hic⟩
            · exact .inl h
            · exact .inr ⟨g, e, Nat.le_trans HBW.out hg, hic.1⟩
          case measure => simp [intOf]; omega
      have hd2 : decide ((j : Int) < (k : Int)) = true := decide_eq_true (by omega)
      have hjO : j < O.length := by rw [HOL.out]; exact hjk
      obtain ⟨b3, off3, rfl, hb3, hcc3⟩ := (HI2.out.below HBI.out) (by omega)
      obtain ⟨f0, f1, f2, f3, f4, f5, f6, f7⟩ := hcc3 j O[j] (List.getElem?_eq_getElem hjO)
      have HNX : Hid (nxtS X (O.take (j + 1)) = (if (O.take j).any (behI X) = true then nxtS X (O.take j) else if behI X O[j] = true then nxtS X (O.take j) ++ [X] else nxtS X (O.take j)) ++ [O[j]]) := by
        show _ = _
        rw [List.take_succ_eq_append_getElem hjO, nxtS_snoc]
      have HAN : Hid ((O.take (j + 1)).any (behI X) = ((O.take j).any (behI X) || behI X O[j])) := any_take _ _ _ hjO
      have HNL : Hid ((nxtS X (O.take j)).length ≤ 1001) := by show _ ≤ _; have := nxtS_len X (O.take j); rw [List.length_take] at this; omega
      have HSY := Lib.hid (HOS.out O[j] (List.getElem_mem hjO))
      obtain ⟨W4, hW4⟩ : ∃ W4, W4 = wr.alloc (.cells O[j].cells 33) := ⟨_, rfl⟩
      have hb4 : Below wr.heap.size wr W4 := by rw [hW4]; exact below_al wr _
      have HY4 : Hid (W4.heap[wr.heap.size]? = some (.cells O[j].cells 33 (0, 0))) := by show _ = _; rw [hW4]; exact heap_alloc_new wr _
      have HX4 : Hid (W4.heap[gx]? = some (.cells X.cells 33 (0, 0))) := (hb4.block _ (lt_of_block HXI.out)).trans HXI.out
      have HO4 : Hid (W4.ownsRow W2.heap.size 33 8 V (nxtS X (O.take j)).length (cellsI (nxtS X (O.take j)))) := by show World.ownsRow _ _ _ _ _ _ _; rw [hW4]; exact HO.out.alloc _
      have HB4 := Lib.hid (below_then HBI.out hb4)
      have HLT : Hid (∀ q, V.ownBlock = some q → W2.heap.size ≤ q ∧ q < wr.heap.size) := fun q hq => HO.out.lt q hq
      generalize nxtS X (O.take j) = L at *
      generalize O[j] = Y at *
      generalize hbd : (O.take j).any (behI X) = bd at *
      simp only [Itm.cells] at hW4
      have HW4 := Lib.hid hW4
      clear hcc3 hb4 hW4 HO hbd
      generalize hgy : wr.heap.size = gy at *
      go_upto_region 10 with fail
      rw [← HW4.out]
      clear HW4 f0 f1 f2 f3 f4 f5 f6 f7
      cases bd with
      | true =>
        have HNE : Hid (nxtS X (O.take (j + 1)) = L ++ [Y]) := HNX.out
        have HAE : Hid ((O.take (j + 1)).any (behI X) = true) := HAN.out
        obtain ⟨y0, y1, y2, y3, y4, y5, y6, y7⟩ := cells_of_box HY4.out
        have HO5 := Lib.hid (HO4.out.alloc (.cells Y.cells 33))
        have HQ5 := Lib.hid (news_box W4 Y)
        have HB5 := Lib.hid (HB4.out.alloc HB4.out.size (.cells Y.cells 33))
        simp only [Itm.cells] at HO5 HQ5 HB5
        clear HNX HAN HO4
        go_wp2_with (at_builtin; refine wpList_append_own _ rfl _ _ 22 rfl W2.heap.size 33 i0 (.agg #[.string ⟨#[]⟩, .int .i64 0, .int .u32 0, .int .u32 0, .int .u32 0, .int .i64 0, .int .i64 0, .string ⟨#[]⟩]) 8 72 Tryz.underlying22 hi hz0 hz1 hz2 rfl (by decide) _ _ _ rfl HO5.out ⟨W4.heap.size, 0, none⟩ 1 1 Y.cellsL rfl ?qc1 ?qc2 ?qc3 ?qc4 ?qc5 ?qc6 ?_)
        case qc1 => rfl
        case qc2 => exact HQ5.out
        case qc3 => exact one_box Y
        case qc4 => have := HNL.out; unfold maxLen; omega
        case qc5 => have := HNL.out; omega
        case qc6 => exact HB5.out.size
        intro v7 w7 hown7 hgrow7 _
        have HB7 : Hid (Below W2.heap.size W2 w7) := HB5.out.grown hgrow7 HB5.out.size (fun q hq => (HLT.out q hq).1)
        have HO7 : Hid (w7.ownsRow W2.heap.size 33 8 v7 (nxtS X (O.take (j + 1))).length (cellsI (nxtS X (O.take (j + 1))))) := by
          show World.ownsRow _ _ _ _ _ _ _
          rw [HNE.out, ← cells_snoc, List.length_append]
          exact hown7
        clear hown7 hgrow7 HO5 HQ5 HB5
        go_wp2_with fail
        go_roundw
        case rel => exact ⟨j + 1, _, by omega, rfl, by go_num, by rw [HAE.out], HO7, HB7⟩
        case measure => simp [intOf]; omega
      | false =>
        have HORD := Lib.hid (fun w => rorder_any X.s Y.s w HSX.out HSY.out)
        obtain ⟨y0, _⟩ := cells_of_box HY4.out
        obtain ⟨x0, _⟩ := cells_of_box HX4.out
        go_wp2_with fail
        refine (HORD.out _).mono ?_; rintro e w5 ⟨rfl, hb5⟩
        have HY5 : Hid (w5.heap[gy]? = some (.cells Y.cells 33 (0, 0))) := (hb5.block _ (lt_of_block HY4.out)).trans HY4.out
        have HX5 : Hid (w5.heap[gx]? = some (.cells X.cells 33 (0, 0))) := (hb5.block _ (lt_of_block HX4.out)).trans HX4.out
        have HO5 := Lib.hid (own_belowI HO4.out hb5)
        have HB5 := Lib.hid (below_then HB4.out hb5)
        have HG5 : Hid (gy < w5.heap.size) := lt_of_block HY5.out
        clear hb5 HORD HO4 HB4 HY4 HX4 x0 y0
        by_cases hlt5 : ordT X.s Y.s < 0
        · have hbe : behI X Y = true := decide_eq_true hlt5
          have HNE : Hid (nxtS X (O.take (j + 1)) = (L ++ [X]) ++ [Y]) := by show _ = _; rw [HNX.out, if_neg (by decide), if_pos hbe]
          have HAE : Hid ((O.take (j + 1)).any (behI X) = true) := by show _ = _; rw [HAN.out, hbe]; rfl
          obtain ⟨x0, x1, x2, x3, x4, x5, x6, x7⟩ := cells_of_box HX5.out
          have HO6 := Lib.hid (HO5.out.alloc (.cells X.cells 33))
          have HQ6 := Lib.hid (news_box w5 X)
          have HB6 := Lib.hid (HB5.out.alloc HB5.out.size (.cells X.cells 33))
          have HY6 : Hid ((w5.alloc (.cells X.cells 33)).heap[gy]? = some (.cells Y.cells 33 (0, 0))) := ((below_al w5 (.cells X.cells 33)).block _ HG5.out).trans HY5.out
          simp only [Itm.cells] at HO6 HQ6 HB6
          have HY6 : Hid ((w5.alloc (.cells #[.string X.s, .int .i64 X.k, .int .u32 X.m, .int .u32 X.u, .int .u32 X.g, .int .i64 X.t, .int .i64 X.a, .string X.d] 33)).heap[gy]? = some (.cells Y.cells 33 (0, 0))) := HY6.out
          clear HNX HAN HO5 HB5 HY5 HX5 hbe
          go_upto_region 12 with (at_builtin; refine wpList_append_own _ rfl _ _ 22 rfl W2.heap.size 33 i0 (.agg #[.string ⟨#[]⟩, .int .i64 0, .int .u32 0, .int .u32 0, .int .u32 0, .int .i64 0, .int .i64 0, .string ⟨#[]⟩]) 8 72 Tryz.underlying22 hi hz0 hz1 hz2 rfl (by decide) _ _ _ rfl HO6.out ⟨w5.heap.size, 0, none⟩ 1 1 X.cellsL rfl ?qc1 ?qc2 ?qc3 ?qc4 ?qc5 ?qc6 ?_)
          case qc1 => rfl
          case qc2 => exact HQ6.out
          case qc3 => exact one_box X
          case qc4 => have := HNL.out; unfold maxLen; omega
          case qc5 => have := HNL.out; omega
          case qc6 => exact HB6.out.size
          intro v7 w7 hown7 hgrow7 _
          have HB7 : Hid (Below W2.heap.size W2 w7) := HB6.out.grown hgrow7 HB6.out.size (fun q hq => (HLT.out q hq).1)
          have HY7 : Hid (w7.heap[gy]? = some (.cells Y.cells 33 (0, 0))) := (hgrow7.block gy (lt_of_block HY6.out) (fun h => by have := (HLT.out gy h.symm).2; omega)).trans HY6.out
          have HL7 : Hid (∀ q, v7.ownBlock = some q → W2.heap.size ≤ q) := fun q hq => (hown7.lt q hq).1
          obtain ⟨z0, z1, z2, z3, z4, z5, z6, z7⟩ := cells_of_box HY7.out
          have HO8 := Lib.hid (hown7.alloc (.cells Y.cells 33))
          have HQ8 := Lib.hid (news_box w7 Y)
          have HB8 := Lib.hid (HB7.out.alloc HB7.out.size (.cells Y.cells 33))
          simp only [Itm.cells] at HO8 HQ8 HB8
          clear hown7 hgrow7 HO6 HQ6 HB6 HY6 HB7 HLT x0 x1 x2 x3 x4 x5 x6 x7
          go_wp2_with (at_builtin; refine wpList_append_own _ rfl _ _ 22 rfl W2.heap.size 33 i0 (.agg #[.string ⟨#[]⟩, .int .i64 0, .int .u32 0, .int .u32 0, .int .u32 0, .int .i64 0, .int .i64 0, .string ⟨#[]⟩]) 8 72 Tryz.underlying22 hi hz0 hz1 hz2 rfl (by decide) _ _ _ rfl HO8.out ⟨w7.heap.size, 0, none⟩ 1 1 Y.cellsL rfl ?qd1 ?qd2 ?qd3 ?qd4 ?qd5 ?qd6 ?_)
          case qd1 => rfl
          case qd2 => exact HQ8.out
          case qd3 => exact one_box Y
          case qd4 => have := HNL.out; unfold maxLen; omega
          case qd5 => have := HNL.out; omega
          case qd6 => exact HB8.out.size
          intro v9 w9 hown9 hgrow9 _
          have HB9 : Hid (Below W2.heap.size W2 w9) := HB8.out.grown hgrow9 HB8.out.size (fun q hq => HL7.out q hq)
          have HO9 : Hid (w9.ownsRow W2.heap.size 33 8 v9 (nxtS X (O.take (j + 1))).length (cellsI (nxtS X (O.take (j + 1))))) := by
            show World.ownsRow _ _ _ _ _ _ _
            rw [HNE.out, ← cells_snoc, ← cells_snoc, List.length_append, List.length_append, List.append_assoc]
            exact hown9
          clear hown9 hgrow9 HO8 HQ8 HB8
          go_wp2_with fail
          go_roundw
          case rel => exact ⟨j + 1, _, by omega, rfl, by go_num, by rw [HAE.out], HO9, HB9⟩
          case measure => simp [intOf]; omega
        · have hbe : behI X Y = false := decide_eq_false hlt5
          have hd5 : decide (ordT X.s Y.s < 0) = false := decide_eq_false hlt5
          have HNE : Hid (nxtS X (O.take (j + 1)) = L ++ [Y]) := by show _ = _; rw [HNX.out, if_neg (by decide), if_neg (by rw [hbe]; decide)]
          have HAE : Hid ((O.take (j + 1)).any (behI X) = false) := by show _ = _; rw [HAN.out, hbe]; rfl
          obtain ⟨y0, y1, y2, y3, y4, y5, y6, y7⟩ := cells_of_box HY5.out
          have HO6 := Lib.hid (HO5.out.alloc (.cells Y.cells 33))
          have HQ6 := Lib.hid (news_box w5 Y)
          have HB6 := Lib.hid (HB5.out.alloc HB5.out.size (.cells Y.cells 33))
          simp only [Itm.cells] at HO6 HQ6 HB6
          clear HNX HAN HO5 HB5 hbe
          go_wp2_with (at_builtin; refine wpList_append_own _ rfl _ _ 22 rfl W2.heap.size 33 i0 (.agg #[.string ⟨#[]⟩, .int .i64 0, .int .u32 0, .int .u32 0, .int .u32 0, .int .i64 0, .int .i64 0, .string ⟨#[]⟩]) 8 72 Tryz.underlying22 hi hz0 hz1 hz2 rfl (by decide) _ _ _ rfl HO6.out ⟨w5.heap.size, 0, none⟩ 1 1 Y.cellsL rfl ?qc1 ?qc2 ?qc3 ?qc4 ?qc5 ?qc6 ?_)
          case qc1 => rfl
          case qc2 => exact HQ6.out
          case qc3 => exact one_box Y
          case qc4 => have := HNL.out; unfold maxLen; omega
          case qc5 => have := HNL.out; omega
          case qc6 => exact HB6.out.size
          intro v7 w7 hown7 hgrow7 _
          have HB7 : Hid (Below W2.heap.size W2 w7) := HB6.out.grown hgrow7 HB6.out.size (fun q hq => (HLT.out q hq).1)
          have HO7 : Hid (w7.ownsRow W2.heap.size 33 8 v7 (nxtS X (O.take (j + 1))).length (cellsI (nxtS X (O.take (j + 1))))) := by
            show World.ownsRow _ _ _ _ _ _ _
            rw [HNE.out, ← cells_snoc, List.length_append]
            exact hown7
          clear hown7 hgrow7 HO6 HQ6 HB6
          go_wp2_with fail
          go_roundw
          case rel => exact ⟨j + 1, _, by omega, rfl, by go_num, by rw [HAE.out], HO7, HB7⟩
          case measure => simp [intOf]; omega
end Go.Proofs.YtpkhpaklhfomkaaGreatDoor

namespace Go.Proofs.YtpkhpaklhfomkaaGreatDoor
set_option maxRecDepth 100000
set_option linter.unusedSimpArgs false
set_option linter.unusedVariables false
open Go.RowKit Go.Joins Go.Deep
def FewP (l : List Itm) : Prop := ∀ x ∈ l, l.length ≤ 60 ∧ x.s.size ≤ 1000 ∧ x.d.size ≤ 5000
instance (l : List Itm) : Decidable (FewP l) := by unfold FewP; infer_instance
set_option maxHeartbeats 8000000 in
theorem fewI_any (A : Option Addr) (cap : Nat) (l : List Itm) (w : World) (hR : Itms w A l) (hl : l.length ≤ 9223372036854775807) :
    Calls Tryz.prog 7 #[.slice A l.length cap] w fun e w' => e = .returned (.bool (decide (FewP l))) ∧ Below w.heap.size w w' := by
  have hir := info_item
  have HR := Lib.hid hR
  obtain ⟨V, hV⟩ : ∃ V, V = decide (FewP l) := ⟨_, rfl⟩
  rw [← hV]
  have HV := Lib.hid hV
  clear hR hV
  go_enter Tryz.func7, Tryz.ntmps7
  go_wp2_with fail
  go_loopw [4, 7] (fun _ v7 wr => ∃ k : Nat, k ≤ l.length ∧ v7 = .int .i64 (k : Nat) ∧ Hid (∀ x ∈ l.take k, l.length ≤ 60 ∧ x.s.size ≤ 1000 ∧ x.d.size ≤ 5000) ∧ Hid (Below w.heap.size w wr)) (fun _ v _ => l.length - (intOf v).toNat)
  case atStart => exact ⟨0, Nat.zero_le _, rfl, (fun s hs => by cases hs), Below.refl _ _⟩
  case round =>
    obtain ⟨k, hk, rfl, HS, HB⟩ := hrel
    by_cases hlt : k < l.length
    · have hd : decide ((k : Int) < (l.length : Int)) = true := decide_eq_true (by omega)
      obtain ⟨b, off, rfl, hb, hcc⟩ := (HR.out.below HB.out) (by omega)
      obtain ⟨c0, c1, c2, c3, c4, c5, c6, c7⟩ := hcc k l[k] (List.getElem?_eq_getElem hlt)
      have HMEM : Hid (l[k] ∈ l) := List.getElem_mem hlt
      have HTK : Hid (l.take (k + 1) = l.take k ++ [l[k]]) := List.take_succ_eq_append_getElem hlt
      have hx0 := heap_alloc_new wr (.cells l[k].cells 33)
      have HB1 := Lib.hid (HB.out.alloc HB.out.size (.cells l[k].cells 33))
      simp only [Itm.cells] at hx0 HB1
      generalize l[k] = x at *
      obtain ⟨x0, x1, x2, x3, x4, x5, x6, x7⟩ := x
      dsimp only at c0 c1 c2 c3 c4 c5 c6 c7 HB1 hx0
      have d0 := (cell_of_row _ _ 0 _ _ _ hx0).trans (show _ = some (.string x0) from rfl)
      have d7 := (cell_of_row _ _ 7 _ _ _ hx0).trans (show _ = some (.string x7) from rfl)
      clear hcc hx0
      by_cases h60 : 60 < l.length
      · have e1 : decide ((60 : Int) < (l.length : Int)) = true := decide_eq_true (by omega)
        have HF : Hid (V = false) := by
          show V = false
          rw [HV.out]
          exact decide_eq_false (fun h => by have := (h _ HMEM.out).1; omega)
        clear HR HS HTK HMEM HV
        go_wp2_with fail
        go_ret
        exact ⟨by rw [HF.out]; rfl, HB1.out⟩
      have e1 : decide ((60 : Int) < (l.length : Int)) = false := decide_eq_false (by omega)
      by_cases h1000 : 1000 < x0.size
      · have e2 : decide ((1000 : Int) < (x0.size : Int)) = true := decide_eq_true (by omega)
        have HF : Hid (V = false) := by
          show V = false
          rw [HV.out]
          exact decide_eq_false (fun h => by have : x0.size ≤ 1000 := (h _ HMEM.out).2.1; omega)
        clear HR HS HTK HMEM HV
        go_wp2_with fail
        go_ret
        exact ⟨by rw [HF.out]; rfl, HB1.out⟩
      have e2 : decide ((1000 : Int) < (x0.size : Int)) = false := decide_eq_false (by omega)
      by_cases h5000 : 5000 < x7.size
      · have e3 : decide ((5000 : Int) < (x7.size : Int)) = true := decide_eq_true (by omega)
        have HF : Hid (V = false) := by
          show V = false
          rw [HV.out]
          exact decide_eq_false (fun h => by have : x7.size ≤ 5000 := (h _ HMEM.out).2.2; omega)
        clear HR HS HTK HMEM HV
        go_wp2_with fail
        go_ret
        exact ⟨by rw [HF.out]; rfl, HB1.out⟩
      have e3 : decide ((5000 : Int) < (x7.size : Int)) = false := decide_eq_false (by omega)
      have HS2 : Hid (∀ y ∈ l.take (k + 1), l.length ≤ 60 ∧ y.s.size ≤ 1000 ∧ y.d.size ≤ 5000) := fun y hy => by
        rw [HTK.out, List.mem_append] at hy
        rcases hy with hy | hy
        · exact HS.out y hy
        · obtain rfl : y = _ := by simpa using hy
          exact ⟨by omega, by show x0.size ≤ 1000; omega, by show x7.size ≤ 5000; omega⟩
      have hk62 : (k : Int) + 1 < 9223372036854775807 := by omega
      clear HR HTK HMEM HV HS
      go_wp2_with fail
      go_roundw
      case rel => exact ⟨k + 1, by omega, by go_num, HS2, HB1⟩
      case measure => simp [intOf]; omega
    · obtain rfl : k = l.length := by omega
      have hd : decide ((l.length : Int) < (l.length : Int)) = false := decide_eq_false (by omega)
      have HF : Hid (V = true) := by
        show V = true
        rw [HV.out]
        refine decide_eq_true (fun x hx => ?_)
        exact HS.out x (by rw [List.take_length]; exact hx)
      go_wp2_with fail
      go_ret
      exact ⟨by rw [HF.out]; rfl, HB.out⟩
set_option maxHeartbeats 8000000 in
theorem sameI_any (A B : Option Addr) (cA cB : Nat) (l : List Itm) (w : World) (hA : Itms w A l) (hB : Itms w B l) (hl : l.length ≤ 1000000) :
    Calls Tryz.prog 10 #[.slice A l.length cA, .slice B l.length cB] w fun e w' => e = .returned (.bool true) ∧ ∃ d, w' = w.drewN d := by
  have hit := info_item
  have HA := Lib.hid hA
  have HB := Lib.hid hB
  clear hA hB
  go_enter Tryz.func10, Tryz.ntmps10
  go_wp2_with fail
  go_loopw [13] (fun i wr => ∃ (k d : Nat), k ≤ l.length ∧ i = .int .i64 (k : Nat) ∧ wr = w.drewN d) (fun i _ => l.length - (intOf i).toNat)
  case atStart => exact ⟨0, 0, Nat.zero_le _, rfl, rfl⟩
  case round =>
    obtain ⟨k, d, hk, rfl, rfl⟩ := hrel
    by_cases hkn : k < l.length
    · obtain ⟨b, off, rfl, hbl, hc⟩ := HA.out (by omega)
      obtain ⟨b2, off2, rfl, hbl2, hc2⟩ := HB.out (by omega)
      obtain ⟨c0, c1, c2, c3, c4, c5, c6, c7⟩ := hc k l[k] (List.getElem?_eq_getElem hkn)
      obtain ⟨e0, e1, e2, e3, e4, e5, e6, e7⟩ := hc2 k l[k] (List.getElem?_eq_getElem hkn)
      clear hc hc2
      generalize l[k] = x at *
      obtain ⟨x0, x1, x2, x3, x4, x5, x6, x7⟩ := x
      dsimp only at c0 c1 c2 c3 c4 c5 c6 c7 e0 e1 e2 e3 e4 e5 e6 e7
      have heq := eqv_node x1 x2 x3 x4 x5 x6 x7
      have hki : (k : Int) < (l.length : Int) := by omega
      go_wp2_with fail
      go_quiet (fail)
      go_wp2_with fail
      go_roundw
      case rel => exact ⟨k + 1, d + nq, by omega, by go_num, by first | rfl | rw [World.drewN_drewN]⟩
      case measure => simp [intOf]; omega
    · obtain rfl : k = l.length := by omega
      go_wp2_with fail
      go_ret
      exact ⟨rfl, d, rfl⟩
end Go.Proofs.YtpkhpaklhfomkaaGreatDoor

namespace Go.Proofs.YtpkhpaklhfomkaaGreatDoor
set_option maxRecDepth 100000
set_option linter.unusedSimpArgs false
set_option linter.unusedVariables false
open Go.RowKit Go.Joins Go.Deep
open Go.Lib hiding intOf
theorem fndV_some {l : List Itm} {p : ByteArray} {X : Itm} (h : fndQ l p = some X) : fndV l p = .tuple #[.agg #[.int .i64 X.k, .int .u32 X.m, .int .u32 X.u, .int .u32 X.g, .int .i64 X.t, .int .i64 X.a, .string X.d], .bool true] := by
  unfold fndV
  rw [show l.find? (fun X => X.s.toList == p.toList) = some X from h]
  rfl
theorem fndV_none {l : List Itm} {p : ByteArray} (h : fndQ l p = none) : fndV l p = .tuple #[.agg #[.int .i64 0, .int .u32 0, .int .u32 0, .int .u32 0, .int .i64 0, .int .i64 0, .string ⟨#[]⟩], .bool false] := by
  unfold fndV
  rw [show l.find? (fun X => X.s.toList == p.toList) = none from h]
theorem fndV_form (l : List Itm) (p : ByteArray) : ∃ (Y : Itm) (b : Bool), fndV l p = .tuple #[.agg #[.int .i64 Y.k, .int .u32 Y.m, .int .u32 Y.u, .int .u32 Y.g, .int .i64 Y.t, .int .i64 Y.a, .string Y.d], .bool b] := by
  cases h : fndQ l p with
  | some X => exact ⟨X, true, fndV_some h⟩
  | none => exact ⟨⟨⟨#[]⟩, 0, 0, 0, 0, 0, 0, ⟨#[]⟩⟩, false, fndV_none h⟩
theorem few_boundsO {l : List Itm} (h : FewP l) : l.length ≤ 100 ∧ ∀ x ∈ l, x.s.size ≤ 100000 := by
  refine ⟨?_, fun x hx => by have := h x hx; omega⟩
  cases l with
  | nil => decide
  | cons x l => have := (h x (by simp)).1; omega
theorem node_of_box {w : World} {g : Nat} {X : Itm} (h : w.heap[g]? = some (.cells #[.int .i64 X.k, .int .u32 X.m, .int .u32 X.u, .int .u32 X.g, .int .i64 X.t, .int .i64 X.a, .string X.d] 31 (0, 0))) : w.cell? ⟨g, 0, none⟩ = some (.int .i64 X.k) ∧ w.cell? ⟨g, 1, none⟩ = some (.int .u32 X.m) ∧ w.cell? ⟨g, 2, none⟩ = some (.int .u32 X.u) ∧ w.cell? ⟨g, 3, none⟩ = some (.int .u32 X.g) ∧ w.cell? ⟨g, 4, none⟩ = some (.int .i64 X.t) ∧ w.cell? ⟨g, 5, none⟩ = some (.int .i64 X.a) ∧ w.cell? ⟨g, 6, none⟩ = some (.string X.d) :=
  ⟨(cell_of_row _ _ 0 _ _ _ h).trans rfl, (cell_of_row _ _ 1 _ _ _ h).trans rfl, (cell_of_row _ _ 2 _ _ _ h).trans rfl, (cell_of_row _ _ 3 _ _ _ h).trans rfl, (cell_of_row _ _ 4 _ _ _ h).trans rfl, (cell_of_row _ _ 5 _ _ _ h).trans rfl, (cell_of_row _ _ 6 _ _ _ h).trans rfl⟩
set_option maxHeartbeats 16000000 in
theorem denoteOver_core (A B : Option Addr) (cA cB : Nat) (t u : List Itm) (w : World) (hA : Itms w A t) (hB : Itms w B u) (hlt : t.length ≤ 9223372036854775807) (hlu : u.length ≤ 9223372036854775807) :
    Calls Tryz.prog 4 #[.slice A t.length cA, .slice B u.length cB] w fun e w' => e = .returned (.bool true) ∧ Below w.heap.size w w' := by
  have hir := info_item
  have hinod := info_nodeT
  have HA := Lib.hid (fun w1 (hb : Below w.heap.size w w1) => hA.below hb)
  have HB := Lib.hid (fun w1 (hb : Below w.heap.size w w1) => hB.below hb)
  have HF1 := Lib.hid (fun w1 (hb : Below w.heap.size w w1) => fewI_any A cA t w1 (hA.below hb) hlt)
  have HF2 := Lib.hid (fun w1 (hb : Below w.heap.size w w1) => fewI_any B cB u w1 (hB.below hb) hlu)
  have HAW := Lib.hid (awake21_any w)
  clear hA hB
  go_enter Tryz.func4, Tryz.ntmps4
  go_wp2_with fail
  refine HAW.out.mono ?_; rintro e w1 ⟨rfl, hb1⟩
  have HB1 := Lib.hid hb1
  have H1 := Lib.hid (HF1.out w1 hb1)
  clear hb1 HAW HF1
  by_cases hf1 : FewP t
  case neg =>
    rw [decide_eq_false hf1] at H1
    go_wp2_with fail
    refine H1.out.mono ?_; rintro e w2 ⟨rfl, hb2⟩
    have HB2 := Lib.hid (below_then HB1.out hb2)
    clear hb2 H1 HA HB HF2
    go_wp2_with fail
    go_ret
    exact ⟨rfl, HB2.out⟩
  rw [decide_eq_true hf1] at H1
  obtain ⟨hlt1, hst⟩ := few_boundsO hf1
  have HST := Lib.hid hst
  clear hf1 hst
  go_wp2_with fail
  refine H1.out.mono ?_; rintro e w2 ⟨rfl, hb2⟩
  have HB2 := Lib.hid (below_then HB1.out hb2)
  have H2 := Lib.hid (HF2.out w2 HB2.out)
  clear hb2 H1 HB1 HF2
  by_cases hf2 : FewP u
  case neg =>
    rw [decide_eq_false hf2] at H2
    go_wp2_with fail
    refine H2.out.mono ?_; rintro e w3 ⟨rfl, hb3⟩
    have HB3 := Lib.hid (below_then HB2.out hb3)
    clear hb3 H2 HA HB
    go_wp2_with fail
    go_ret
    exact ⟨rfl, HB3.out⟩
  rw [decide_eq_true hf2] at H2
  obtain ⟨hlu1, hsu⟩ := few_boundsO hf2
  have HSU := Lib.hid hsu
  clear hf2 hsu
  go_wp2_with fail
  refine H2.out.mono ?_; rintro e w3 ⟨rfl, hb3⟩
  have HB3 := Lib.hid (below_then HB2.out hb3)
  have HRT := Lib.hid (right16_any A cA t w3 (HA.out w3 HB3.out) (by omega) HST.out)
  have HRU := Lib.hid (fun w1 (hb : Below w.heap.size w w1) => right16_any B cB u w1 (HB.out w1 hb) (by omega) HSU.out)
  clear hb3 H2 HB2
  have HPT : Hid ((!(t.any datL) && rgtI t) = true → t.Pairwise (fun a b => ordT a.s b.s < 0)) := fun h => rgt_pw (by rw [Bool.and_eq_true] at h; exact h.2)
  have HPU : Hid ((!(u.any datL) && rgtI u) = true → u.Pairwise (fun a b => ordT a.s b.s < 0)) := fun h => rgt_pw (by rw [Bool.and_eq_true] at h; exact h.2)
  generalize (!(t.any datL) && rgtI t) = R1 at *
  generalize (!(u.any datL) && rgtI u) = R2 at *
  cases R1 with
  | false =>
    go_wp2_with fail
    refine HRT.out.mono ?_; rintro e w4 ⟨rfl, hb4⟩
    have HB4 := Lib.hid (below_then HB3.out hb4)
    clear hb4 HRT HRU HA HB
    go_wp2_with fail
    go_ret
    exact ⟨rfl, HB4.out⟩
  | true =>
  have HPT2 := Lib.hid (HPT.out rfl)
  go_wp2_with fail
  refine HRT.out.mono ?_; rintro e w4 ⟨rfl, hb4⟩
  have HB4 := Lib.hid (below_then HB3.out hb4)
  have HRU4 := Lib.hid (HRU.out w4 HB4.out)
  clear hb4 HRT HRU HB3 HPT
  cases R2 with
  | false =>
    go_wp2_with fail
    refine HRU4.out.mono ?_; rintro e w5 ⟨rfl, hb5⟩
    have HB5 := Lib.hid (below_then HB4.out hb5)
    clear hb5 HRU4 HA HB
    go_wp2_with fail
    go_ret
    exact ⟨rfl, HB5.out⟩
  | true =>
  have HPU2 := Lib.hid (HPU.out rfl)
  go_wp2_with fail
  refine HRU4.out.mono ?_; rintro e w5 ⟨rfl, hb5⟩
  have HB5 := Lib.hid (below_then HB4.out hb5)
  have HOV := Lib.hid (override_any A B cA cB t u w5 (HA.out w5 HB5.out) (HB.out w5 HB5.out) (by omega) (by omega) HST.out HSU.out)
  clear hb5 HRU4 HB4 HPU
  have HFD : Hid (∀ x ∈ ovrL t u, fndQ u x.s = some x ∨ (fndQ u x.s = none ∧ fndQ t x.s = some x)) := fun x hx => ovr_find HPT2.out HPU2.out hx
  have HHA : Hid (∀ x ∈ t ++ u, ∃ y, fndQ (ovrL t u) x.s = some y) := fun x hx => ovr_has hx
  have HOO : Hid (ovrL (ovrL t u) u = ovrL t u) := ovr_ovr HPT2.out HPU2.out
  have HON : Hid (ovrL t [] = t) := ovr_nil HPT2.out
  have HOL : Hid ((ovrL t u).length ≤ 200) := by
    show (sortI (leftL t u ++ u)).length ≤ 200
    rw [sortI_len, List.length_append]
    have : (leftL t u).length ≤ t.length := List.length_filter_le _ _
    omega
  have HOS : Hid (∀ x ∈ ovrL t u, x.s.size ≤ 100000) := fun x hx => by
    rcases ovr_mem.1 hx with ⟨h, _⟩ | h
    · exact HST.out x h
    · exact HSU.out x h
  generalize ovrL t u = O at *
  go_wp2_with fail
  refine HOV.out.mono ?_; rintro e w6 ⟨A6, c6, rfl, hN6, hb6⟩
  have HB6 := Lib.hid (below_then HB5.out hb6)
  have HI6 := Lib.hid hN6.itms
  clear hb6 hN6 HOV HB5
  have hol := HOL.out
  go_wp2_with fail
  go_loopw [41] (fun v41 wr => ∃ k : Nat, k ≤ O.length ∧ v41 = .int .i64 (k : Nat) ∧ Hid (Below w6.heap.size w6 wr)) (fun v _ => O.length - (intOf v).toNat)
  case atStart => exact ⟨0, Nat.zero_le _, rfl, Below.refl _ _⟩
  case round =>
    obtain ⟨k, hk, rfl, HBR⟩ := hrel
    by_cases hkn : k < O.length
    · have hd : decide ((k : Int) < (O.length : Int)) = true := decide_eq_true (by omega)
      have HBW := Lib.hid (below_then HB6.out HBR.out)
      obtain ⟨b, off, rfl, hb, hcc⟩ := (HI6.out.below HBR.out) (by omega)
      obtain ⟨c0, c1, c2, c3, c4, c5, c6', c7⟩ := hcc k O[k] (List.getElem?_eq_getElem hkn)
      have HFX := Lib.hid (HFD.out O[k] (List.getElem_mem hkn))
      obtain ⟨W2, hW2⟩ : ∃ W2, W2 = wr.alloc (.cells O[k].cells 33) := ⟨_, rfl⟩
      have hb2 : Below wr.heap.size wr W2 := by rw [hW2]; exact below_al wr _
      have HX2 : Hid (W2.heap[wr.heap.size]? = some (.cells O[k].cells 33 (0, 0))) := by show _ = _; rw [hW2]; exact heap_alloc_new wr _
      have HBR2 := Lib.hid (below_then HBR.out hb2)
      have HBW2 := Lib.hid (below_then HBW.out hb2)
      generalize O[k] = X at *
      simp only [Itm.cells] at hW2
      have HW2 := Lib.hid hW2
      have HFU := Lib.hid (rfind_any B cB u X.s W2 (HB.out W2 HBW2.out) (by omega))
      have HFT := Lib.hid (fun w1 (hb : Below w.heap.size w w1) => rfind_any A cA t X.s w1 (HA.out w1 hb) (by omega))
      clear hcc hb2 hW2 HBR HBW
      generalize hgx : wr.heap.size = gx at *
      go_upto_region 9 with fail
      rw [← HW2.out]
      clear HW2 c0 c1 c2 c3 c4 c5 c6' c7
      obtain ⟨x0, _⟩ := cells_of_box HX2.out
      rcases HFX.out with h1 | ⟨h1, h2⟩
      · rw [fndV_some h1] at HFU
        obtain ⟨Y, bY, hY⟩ := fndV_form t X.s
        rw [hY] at HFT
        clear h1 hY HFX
        go_wp2_with fail
        refine HFU.out.mono ?_; rintro e w3 ⟨rfl, hb3⟩
        obtain ⟨W4, hW4⟩ : ∃ W4, W4 = w3.alloc (.cells #[.int .i64 X.k, .int .u32 X.m, .int .u32 X.u, .int .u32 X.g, .int .i64 X.t, .int .i64 X.a, .string X.d] 31) := ⟨_, rfl⟩
        have hb34 : Below w3.heap.size w3 W4 := by rw [hW4]; exact below_al w3 _
        have hb24 := below_then hb3 hb34
        have HN4 : Hid (W4.heap[w3.heap.size]? = some (.cells #[.int .i64 X.k, .int .u32 X.m, .int .u32 X.u, .int .u32 X.g, .int .i64 X.t, .int .i64 X.a, .string X.d] 31 (0, 0))) := by show _ = _; rw [hW4]; exact heap_alloc_new w3 _
        have HX4 := Lib.hid ((hb24.block _ (lt_of_block HX2.out)).trans HX2.out)
        have HBR4 := Lib.hid (below_then HBR2.out hb24)
        have HBW4 := Lib.hid (below_then HBW2.out hb24)
        have HFT4 := Lib.hid (HFT.out W4 HBW4.out)
        have HW4 := Lib.hid hW4
        clear hb3 hb34 hb24 hW4 HFU HFT x0 HX2 HBR2 HBW2
        obtain ⟨x0, _⟩ := cells_of_box HX4.out
        go_upto_region 10 with fail
        rw [← HW4.out]
        generalize hgn : w3.heap.size = gn at *
        clear HW4
        go_wp2_with fail
        refine HFT4.out.mono ?_; rintro e w5' ⟨rfl, hb5⟩
        obtain ⟨W6, hW6⟩ : ∃ W6, W6 = w5'.alloc (.cells #[.int .i64 Y.k, .int .u32 Y.m, .int .u32 Y.u, .int .u32 Y.g, .int .i64 Y.t, .int .i64 Y.a, .string Y.d] 31) := ⟨_, rfl⟩
        have hb56 : Below w5'.heap.size w5' W6 := by rw [hW6]; exact below_al w5' _
        have hb46 := below_then hb5 hb56
        have HN6 := Lib.hid ((hb46.block _ (lt_of_block HN4.out)).trans HN4.out)
        have HX6 := Lib.hid ((hb46.block _ (lt_of_block HX4.out)).trans HX4.out)
        have HBR6 := Lib.hid (below_then HBR4.out hb46)
        have HW6 := Lib.hid hW6
        clear hb5 hb56 hb46 hW6 HFT4 HBR4 HBW4 HX4 HN4 x0
        obtain ⟨x0, x1, x2, x3, x4, x5, x6, x7⟩ := cells_of_box HX6.out
        obtain ⟨n0, n1, n2, n3, n4, n5, n6⟩ := node_of_box HN6.out
        have heq := eqv_node X.k X.m X.u X.g X.t X.a X.d
        go_upto_region 11 with fail
        rw [← HW6.out]
        clear HW6 HX6 HN6
        go_wp2_with fail
        go_roundw
        case rel => exact ⟨k + 1, by omega, by go_num, HBR6⟩
        case measure => simp [intOf]; omega
      · rw [fndV_none h1] at HFU
        rw [fndV_some h2] at HFT
        clear h1 h2 HFX
        go_wp2_with fail
        refine HFU.out.mono ?_; rintro e w3 ⟨rfl, hb3⟩
        obtain ⟨W4, hW4⟩ : ∃ W4, W4 = w3.alloc (.cells #[.int .i64 0, .int .u32 0, .int .u32 0, .int .u32 0, .int .i64 0, .int .i64 0, .string ⟨#[]⟩] 31) := ⟨_, rfl⟩
        have hb34 : Below w3.heap.size w3 W4 := by rw [hW4]; exact below_al w3 _
        have hb24 := below_then hb3 hb34
        have HX4 := Lib.hid ((hb24.block _ (lt_of_block HX2.out)).trans HX2.out)
        have HBR4 := Lib.hid (below_then HBR2.out hb24)
        have HBW4 := Lib.hid (below_then HBW2.out hb24)
        have HFT4 := Lib.hid (HFT.out W4 HBW4.out)
        have HW4 := Lib.hid hW4
        clear hb3 hb34 hb24 hW4 HFU HFT x0 HX2 HBR2 HBW2
        obtain ⟨x0, _⟩ := cells_of_box HX4.out
        go_upto_region 10 with fail
        rw [← HW4.out]
        clear HW4
        go_wp2_with fail
        refine HFT4.out.mono ?_; rintro e w5' ⟨rfl, hb5⟩
        obtain ⟨W6, hW6⟩ : ∃ W6, W6 = w5'.alloc (.cells #[.int .i64 X.k, .int .u32 X.m, .int .u32 X.u, .int .u32 X.g, .int .i64 X.t, .int .i64 X.a, .string X.d] 31) := ⟨_, rfl⟩
        have hb56 : Below w5'.heap.size w5' W6 := by rw [hW6]; exact below_al w5' _
        have hb46 := below_then hb5 hb56
        have HN6 : Hid (W6.heap[w5'.heap.size]? = some (.cells #[.int .i64 X.k, .int .u32 X.m, .int .u32 X.u, .int .u32 X.g, .int .i64 X.t, .int .i64 X.a, .string X.d] 31 (0, 0))) := by show _ = _; rw [hW6]; exact heap_alloc_new w5' _
        have HX6 := Lib.hid ((hb46.block _ (lt_of_block HX4.out)).trans HX4.out)
        have HBR6 := Lib.hid (below_then HBR4.out hb46)
        have HW6 := Lib.hid hW6
        clear hb5 hb56 hb46 hW6 HFT4 HBR4 HBW4 HX4 x0
        obtain ⟨x0, x1, x2, x3, x4, x5, x6, x7⟩ := cells_of_box HX6.out
        obtain ⟨n0, n1, n2, n3, n4, n5, n6⟩ := node_of_box HN6.out
        have heq := eqv_node X.k X.m X.u X.g X.t X.a X.d
        go_upto_region 11 with fail
        rw [← HW6.out]
        generalize hgm : w5'.heap.size = gm at *
        clear HW6 HX6 HN6
        go_wp2_with fail
        go_roundw
        case rel => exact ⟨k + 1, by omega, by go_num, HBR6⟩
        case measure => simp [intOf]; omega
    · obtain rfl : k = O.length := by omega
      have hd : decide ((O.length : Int) < (O.length : Int)) = false := decide_eq_false (by omega)
      have HBW := Lib.hid (below_then HB6.out HBR.out)
      have HIO : Hid (Itms wr A6 O) := HI6.out.below HBR.out
      have HAR := Lib.hid (HA.out wr HBW.out)
      have HON0 : Hid (wr.ownsRow wr.heap.size 33 8 (.slice none 0 0) ([] : List Itm).length (cellsI [])) := World.ownsRow_nil _ _ _ _
      clear HFD HI6 HB6 HBR
      go_wp2_with (at_builtin; refine wpList_append_itms rfl _ _ rfl wr.heap.size (.slice none 0 0) [] rfl HON0.out A t.length cA t rfl rfl HAR.out ?qa1 ?qa2 ?_)
      case qa1 => simp; omega
      case qa2 => exact Nat.le_refl _
      intro v7 w7 ho7 hg7
      have HK7 : Hid (Below wr.heap.size wr w7) := (Below.refl _ _).grown hg7 (Nat.le_refl _) (fun q hq => by simp [Value.ownBlock] at hq)
      have HO7 := Lib.hid ho7
      have HBR7 := Lib.hid (HB.out w7 (below_then HBW.out HK7.out))
      clear ho7 hg7 HAR HON0
      go_wp2_with (at_builtin; refine wpList_append_itms rfl _ _ rfl wr.heap.size v7 ([] ++ t) rfl HO7.out B u.length cB u rfl rfl HBR7.out ?qb1 ?qb2 ?_)
      case qb1 => simp; omega
      case qb2 => exact HK7.out.size
      intro v8 w8 ho8 hg8
      have HK8 : Hid (Below wr.heap.size wr w8) := HK7.out.grown hg8 HK7.out.size (fun q hq => (HO7.out.lt q hq).1)
      have ho8 : w8.ownsRow wr.heap.size 33 8 v8 (t ++ u).length (cellsI (t ++ u)) := by rw [List.length_append]; exact ho8
      obtain ⟨A8, c8, hv8, hN8⟩ := own_newI ho8
      have HI8 := Lib.hid hN8.itms
      have HLL : Hid ((t ++ u).length ≤ 200) := by show _ ≤ _; rw [List.length_append]; omega
      have hv8 : v8 = .slice A8 (t ++ u).length c8 := hv8
      subst hv8
      have HB8 := Lib.hid (below_then HBW.out HK8.out)
      have HIO8 := Lib.hid (HIO.out.below HK8.out)
      clear ho8 hg8 hN8 HO7 HK7 HBR7 HK8 HIO HBW
      generalize t ++ u = L at *
      have hll := HLL.out
      go_wp2_with fail
      go_loopw [90] (fun v90 wi => ∃ k : Nat, k ≤ L.length ∧ v90 = .int .i64 (k : Nat) ∧ Hid (Below w8.heap.size w8 wi)) (fun v _ => L.length - (intOf v).toNat)
      case atStart => exact ⟨0, Nat.zero_le _, rfl, Below.refl _ _⟩
      case round =>
        obtain ⟨k, hk, rfl, HBR⟩ := hrel
        by_cases hkn : k < L.length
        · have hd : decide ((k : Int) < (L.length : Int)) = true := decide_eq_true (by omega)
          obtain ⟨b, off, rfl, hb, hcc⟩ := (HI8.out.below HBR.out) (by omega)
          obtain ⟨c0, c1, c2, c3, c4, c5, c6', c7⟩ := hcc k L[k] (List.getElem?_eq_getElem hkn)
          obtain ⟨Y, hY⟩ := HHA.out L[k] (List.getElem_mem hkn)
          obtain ⟨W2, hW2⟩ : ∃ W2, W2 = wr.alloc (.cells L[k].cells 33) := ⟨_, rfl⟩
          have hb2 : Below wr.heap.size wr W2 := by rw [hW2]; exact below_al wr _
          have HX2 : Hid (W2.heap[wr.heap.size]? = some (.cells L[k].cells 33 (0, 0))) := by show _ = _; rw [hW2]; exact heap_alloc_new wr _
          have HBR2 := Lib.hid (below_then HBR.out hb2)
          generalize L[k] = X at *
          simp only [Itm.cells] at hW2
          have HW2 := Lib.hid hW2
          have HFO := Lib.hid (rfind_any A6 c6 O X.s W2 (HIO8.out.below HBR2.out) (by omega))
          rw [fndV_some hY] at HFO
          clear hcc hb2 hW2 HBR hY
          generalize hgx : wr.heap.size = gx at *
          go_upto_region 17 with fail
          rw [← HW2.out]
          clear HW2 c0 c1 c2 c3 c4 c5 c6' c7
          obtain ⟨x0, _⟩ := cells_of_box HX2.out
          go_wp2_with fail
          refine HFO.out.mono ?_; rintro e w3 ⟨rfl, hb3⟩
          have HBR3 := Lib.hid (below_then (below_then HBR2.out hb3) (below_al w3 (.cells #[.int .i64 Y.k, .int .u32 Y.m, .int .u32 Y.u, .int .u32 Y.g, .int .i64 Y.t, .int .i64 Y.a, .string Y.d] 31)))
          clear hb3 HFO x0 HBR2
          go_wp2_with fail
          go_roundw
          case rel => exact ⟨k + 1, by omega, by go_num, HBR3⟩
          case measure => simp [intOf]; omega
        · obtain rfl : k = L.length := by omega
          have hd : decide ((L.length : Int) < (L.length : Int)) = false := decide_eq_false (by omega)
          have HBW := Lib.hid (below_then HB8.out HBR.out)
          have HIO : Hid (Itms wr A6 O) := HIO8.out.below HBR.out
          have HV1 := Lib.hid (override_any A6 B c6 cB O u wr HIO.out (HB.out wr HBW.out) (by omega) (by omega) HOS.out HSU.out)
          rw [HOO.out] at HV1
          clear HHA HI8 HB8 HBR HIO8
          go_wp2_with fail
          refine HV1.out.mono ?_; rintro e w9 ⟨A9, c9, rfl, hN9, hb9⟩
          have HB9 := Lib.hid (below_then HBW.out hb9)
          have HS1 := Lib.hid (sameI_any A9 A6 c9 c6 O w9 hN9.itms (HIO.out.below hb9) (by omega))
          clear hN9 hb9 HV1 HIO HBW
          go_wp2_with fail
          refine HS1.out.mono ?_; rintro e w10 ⟨rfl, dd, rfl⟩
          have HB10 := Lib.hid (below_drewN HB9.out dd)
          have HV2 := Lib.hid (override_any A none cA 0 t [] _ (HA.out _ HB10.out) (Itms.nil _ _) (by omega) (by decide) HST.out (fun x hx => by cases hx))
          rw [HON.out] at HV2
          clear HS1 HB9
          have hn0 : ([] : List Itm).length = 0 := rfl
          rw [hn0] at HV2
          go_wp2_with fail
          refine HV2.out.mono ?_; rintro e w11 ⟨A11, c11, rfl, hN11, hb11⟩
          have HB11 := Lib.hid (below_then HB10.out hb11)
          have HS2 := Lib.hid (sameI_any A11 A c11 cA t w11 hN11.itms (HA.out w11 HB11.out) (by omega))
          clear hN11 hb11 HV2 HB10
          go_wp2_with fail
          refine HS2.out.mono ?_; rintro e w12 ⟨rfl, dd2, rfl⟩
          go_wp2_with fail
          go_ret
          exact ⟨rfl, below_drewN HB11.out dd2⟩
end Go.Proofs.YtpkhpaklhfomkaaGreatDoor
