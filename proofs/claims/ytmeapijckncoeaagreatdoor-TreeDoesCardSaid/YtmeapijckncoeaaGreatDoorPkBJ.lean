/-
  Trees: how many bytes items have.
  Trees: the document's Put.
  Trees: the document's Fill.
-/
import Derived.Test.YtmeapijckncoeaaGreatDoorPkBF
import Derived.Test.YtmeapijckncoeaaGreatDoorPkBI
import Derived.Test.YtmeapijckncoeaaGreatDoorPkBH

namespace Go.Proofs.YtmeapijckncoeaaGreatDoor
set_option maxRecDepth 100000
set_option linter.unusedSimpArgs false
set_option linter.unusedVariables false
open Go.RowKit Go.Joins Go.Deep
open Go.Lib hiding intOf
/-- How many bytes items have. -/
def bytN (l : List Itm) : Nat := (l.map fun x => x.d.size).sum
theorem byt_snoc (l : List Itm) (k : Nat) (h : k < l.length) : bytN (l.take (k + 1)) = bytN (l.take k) + l[k].d.size := by
  unfold bytN
  rw [List.take_succ_eq_append_getElem h, List.map_append, List.sum_append]
  simp
/-- .. as a number of 64 bits. -/
def bytM (l : List Itm) : Nat := bytN l % 18446744073709551616
theorem bytM_snoc (l : List Itm) (k : Nat) (h : k < l.length) : bytM (l.take (k + 1)) = (bytM (l.take k) + l[k].d.size) % 18446744073709551616 := by
  unfold bytM
  rw [byt_snoc l k h]
  omega
theorem bytM_lt (l : List Itm) : bytM l < 18446744073709551616 := Nat.mod_lt _ (by decide)
set_option maxHeartbeats 16000000 in
theorem tbytes_any (A : Option Addr) (c : Nat) (l : List Itm) (w : World) (hR : Itms w A l) (hl : l.length ≤ 1000000) (hs : ∀ x ∈ l, x.d.size ≤ 9223372036854775807) :
    Calls Tryz.prog 21 #[.slice A l.length c] w fun e w' => e = .returned (.int .u64 (bytM l : Nat)) ∧ Below w.heap.size w w' := by
  have hir := info_item
  have HR := Lib.hid (fun w1 (hb : Below w.heap.size w w1) => hR.below hb)
  have HS := Lib.hid hs
  clear hR hs
  go_enter Tryz.func21, Tryz.ntmps21
  go_wp2_with fail
  go_loopw [3, 8] (fun v3 v8 wr => ∃ (k : Nat), k ≤ l.length ∧ v8 = .int .i64 (k : Nat) ∧ v3 = .int .u64 (bytM (l.take k) : Nat) ∧ Hid (Below w.heap.size w wr)) (fun _ v _ => l.length - (intOf v).toNat)
  case atStart => exact ⟨0, Nat.zero_le _, rfl, rfl, Below.refl _ _⟩
  case round =>
    obtain ⟨k, hk, rfl, rfl, HBR⟩ := hrel
    by_cases hkn : k < l.length
    case neg =>
      obtain rfl : k = l.length := by omega
      have hd : decide ((l.length : Int) < (l.length : Int)) = false := decide_eq_false (by omega)
      have HTK : Hid (l.take l.length = l) := List.take_length
      rw [HTK.out]
      go_wp2_with fail
      go_ret
      exact ⟨rfl, HBR.out⟩
    have hd : decide ((k : Int) < (l.length : Int)) = true := decide_eq_true (by omega)
    obtain ⟨b, off, rfl, hb, hcc⟩ := (HR.out wr HBR.out) (by omega)
    obtain ⟨c0, c1, c2, c3, c4, c5, c6, c7⟩ := hcc k l[k] (List.getElem?_eq_getElem hkn)
    have HSN := Lib.hid (bytM_snoc l k hkn)
    have HDX := HS.out l[k] (List.getElem_mem hkn)
    obtain ⟨W2, hW2⟩ : ∃ W2, W2 = wr.alloc (.cells l[k].cells 42) := ⟨_, rfl⟩
    have hb2 : Below wr.heap.size wr W2 := by rw [hW2]; exact below_al wr _
    have HX2 : Hid (W2.heap[wr.heap.size]? = some (.cells l[k].cells 42 (0, 0))) := by show _ = _; rw [hW2]; exact heap_alloc_new wr _
    have HB2 := Lib.hid (below_then HBR.out hb2)
    have hbn := bytM_lt (l.take k)
    have HMM := Lib.hid (fun (a b : Nat) => Int.natCast_emod (a + b) 18446744073709551616)
    generalize bytM (l.take k) = O at *
    generalize l[k] = X at *
    simp only [Itm.cells] at hW2
    have HW2 := Lib.hid hW2
    clear hcc hb2 hW2 HBR
    generalize hgx : wr.heap.size = gx at *
    go_upto_region 5 with fail
    rw [← HW2.out]
    clear HW2 c0 c1 c2 c3 c4 c5 c6 c7
    obtain ⟨x0, x1, x2, x3, x4, x5, x6, x7⟩ := cells_of_box HX2.out
    have hm1 : (X.d.size : Int) % 18446744073709551616 = (X.d.size : Int) := Int.emod_eq_of_lt (by omega) (by omega)
    obtain ⟨R, hR⟩ : ∃ R : Nat, R = (O + X.d.size) % 18446744073709551616 := ⟨_, rfl⟩
    have hm2 : ((O : Int) + (X.d.size : Int)) % 18446744073709551616 = (R : Int) := by rw [hR]; omega
    have HRR := Lib.hid hR
    clear hR HMM
    go_wp2_with fail
    go_roundw
    case rel => exact ⟨k + 1, by omega, by go_num, by rw [HSN.out, ← HRR.out]; exact congrArg _ (by have h := HRR.out; rw [show IntKind.u64.wrap ((O : Int) + (X.d.size : Int)) = ((O : Int) + (X.d.size : Int)) % 18446744073709551616 from by simp [IntKind.wrap, IntKind.bits, IntKind.signed]]; omega), HB2⟩
    case measure => simp [intOf]; omega
set_option maxHeartbeats 16000000 in
theorem rbytes_any (A : Option Addr) (c : Nat) (l : List Itm) (w : World) (hR : Itms w A l) (hl : l.length ≤ 1000000) (hs : ∀ x ∈ l, x.d.size ≤ 9223372036854775807) :
    Calls Tryz.prog 22 #[.slice A l.length c] w fun e w' => e = .returned (.int .u64 (bytM l : Nat)) ∧ Below w.heap.size w w' := by
  have hir := info_item
  have HR := Lib.hid (fun w1 (hb : Below w.heap.size w w1) => hR.below hb)
  have HS := Lib.hid hs
  clear hR hs
  go_enter Tryz.func22, Tryz.ntmps22
  go_wp2_with fail
  go_loopw [3, 8] (fun v3 v8 wr => ∃ (k : Nat), k ≤ l.length ∧ v8 = .int .i64 (k : Nat) ∧ v3 = .int .u64 (bytM (l.take k) : Nat) ∧ Hid (Below w.heap.size w wr)) (fun _ v _ => l.length - (intOf v).toNat)
  case atStart => exact ⟨0, Nat.zero_le _, rfl, rfl, Below.refl _ _⟩
  case round =>
    obtain ⟨k, hk, rfl, rfl, HBR⟩ := hrel
    by_cases hkn : k < l.length
    case neg =>
      obtain rfl : k = l.length := by omega
      have hd : decide ((l.length : Int) < (l.length : Int)) = false := decide_eq_false (by omega)
      have HTK : Hid (l.take l.length = l) := List.take_length
      rw [HTK.out]
      go_wp2_with fail
      go_ret
      exact ⟨rfl, HBR.out⟩
    have hd : decide ((k : Int) < (l.length : Int)) = true := decide_eq_true (by omega)
    obtain ⟨b, off, rfl, hb, hcc⟩ := (HR.out wr HBR.out) (by omega)
    obtain ⟨c0, c1, c2, c3, c4, c5, c6, c7⟩ := hcc k l[k] (List.getElem?_eq_getElem hkn)
    have HSN := Lib.hid (bytM_snoc l k hkn)
    have HDX := HS.out l[k] (List.getElem_mem hkn)
    obtain ⟨W2, hW2⟩ : ∃ W2, W2 = wr.alloc (.cells l[k].cells 42) := ⟨_, rfl⟩
    have hb2 : Below wr.heap.size wr W2 := by rw [hW2]; exact below_al wr _
    have HX2 : Hid (W2.heap[wr.heap.size]? = some (.cells l[k].cells 42 (0, 0))) := by show _ = _; rw [hW2]; exact heap_alloc_new wr _
    have HB2 := Lib.hid (below_then HBR.out hb2)
    have hbn := bytM_lt (l.take k)
    have HMM := Lib.hid (fun (a b : Nat) => Int.natCast_emod (a + b) 18446744073709551616)
    generalize bytM (l.take k) = O at *
    generalize l[k] = X at *
    simp only [Itm.cells] at hW2
    have HW2 := Lib.hid hW2
    clear hcc hb2 hW2 HBR
    generalize hgx : wr.heap.size = gx at *
    go_upto_region 5 with fail
    rw [← HW2.out]
    clear HW2 c0 c1 c2 c3 c4 c5 c6 c7
    obtain ⟨x0, x1, x2, x3, x4, x5, x6, x7⟩ := cells_of_box HX2.out
    have hm1 : (X.d.size : Int) % 18446744073709551616 = (X.d.size : Int) := Int.emod_eq_of_lt (by omega) (by omega)
    obtain ⟨R, hR⟩ : ∃ R : Nat, R = (O + X.d.size) % 18446744073709551616 := ⟨_, rfl⟩
    have hm2 : ((O : Int) + (X.d.size : Int)) % 18446744073709551616 = (R : Int) := by rw [hR]; omega
    have HRR := Lib.hid hR
    clear hR HMM
    go_wp2_with fail
    go_roundw
    case rel => exact ⟨k + 1, by omega, by go_num, by rw [HSN.out, ← HRR.out]; exact congrArg _ (by have h := HRR.out; rw [show IntKind.u64.wrap ((O : Int) + (X.d.size : Int)) = ((O : Int) + (X.d.size : Int)) % 18446744073709551616 from by simp [IntKind.wrap, IntKind.bits, IntKind.signed]]; omega), HB2⟩
    case measure => simp [intOf]; omega
end Go.Proofs.YtmeapijckncoeaaGreatDoor

namespace Go.Proofs.YtmeapijckncoeaaGreatDoor
set_option maxRecDepth 100000
set_option linter.unusedSimpArgs false
set_option linter.unusedVariables false
open Go.RowKit Go.Joins Go.Deep
open Go.Lib hiding intOf
set_option maxHeartbeats 16000000 in
theorem rput_any (A : Option Addr) (c : Nat) (l : List Itm) (X : Itm) (w : World) (hR : Itms w A l) (hl : l.length ≤ 100000) (hs : ∀ x ∈ l, x.s.size ≤ 100000) (hx : X.s.size ≤ 100000) :
    Calls Tryz.prog 28 #[.slice A l.length c, .string X.s, .agg X.node] w fun e w' => ∃ A' c', e = .returned (.slice A' (putL l X).length c') ∧ NewI w' w.heap.size A' (putL l X) ∧ Below w.heap.size w w' := by
  obtain ⟨i0, hi, hz0, hz1, hz2⟩ := partsI
  have hir := info_item
  have hinod := info_nodeT
  have HPE := Lib.hid (putL_putS l X)
  obtain ⟨O, hO⟩ : ∃ O, O = putR l X.s := ⟨_, rfl⟩
  have HOL : Hid (O.length ≤ 100000) := by show _ ≤ _; rw [hO]; exact Nat.le_trans (List.length_filter_le _ _) hl
  have HOS : Hid (∀ y ∈ O, y.s.size ≤ 100000) := fun y hy => by rw [hO] at hy; exact hs y (List.mem_filter.1 hy).1
  obtain ⟨w1, hw1⟩ : ∃ w1, w1 = w.alloc (.cells X.node 25) := ⟨_, rfl⟩
  have h01 : Below w.heap.size w w1 := by rw [hw1]; exact below_al w _
  have HXN1 : Hid (w1.heap[w.heap.size]? = some (.cells X.node 25 (0, 0))) := by show _ = _; rw [hw1]; exact heap_alloc_new w _
  have HB1 := Lib.hid h01
  have HWO := Lib.hid (rwithout_any A c l X.s w1 (hR.below h01) (by omega))
  rw [← hO] at HWO HPE
  have HSX := Lib.hid hx
  generalize putL l X = PL at *
  simp only [Itm.node] at hw1 HXN1 ⊢
  have HW1 := Lib.hid hw1
  clear hR hl hs hx hO h01 hw1
  go_enter Tryz.func28, Tryz.ntmps28
  go_upto_region 1 with fail
  rw [← HW1.out]
  clear HW1
  go_wp2_with fail
  refine HWO.out.mono ?_; rintro e W2 ⟨A1, c1, rfl, hN1, hb2⟩
  have HI2 := Lib.hid hN1.itms
  have HB2 := Lib.hid (below_then HB1.out hb2)
  have HXN2 := Lib.hid ((hb2.block _ (lt_of_block HXN1.out)).trans HXN1.out)
  clear hN1 hb2 HWO HXN1 HB1
  go_wp2_with fail
  go_loopw [7, 8, 15] (fun v7 v8 v15 wi => ∃ (j : Nat) (V : Value), j ≤ O.length ∧ V = v7 ∧ v15 = .int .i64 (j : Nat) ∧ v8 = .bool ((O.take j).any (behI X)) ∧ Hid (wi.ownsRow W2.heap.size 42 8 v7 (nxtS X (O.take j)).length (cellsI (nxtS X (O.take j)))) ∧ Hid (Below W2.heap.size W2 wi)) (fun _ _ v _ => O.length - (intOf v).toNat)
  case atStart => exact ⟨0, _, Nat.zero_le _, rfl, rfl, rfl, World.ownsRow_nil _ _ _ _, Below.refl _ _⟩
  case round =>
    obtain ⟨j, V, hj, rfl, rfl, rfl, HO, HBI⟩ := hrel
    have HXI := Lib.hid ((HBI.out.block _ (lt_of_block HXN2.out)).trans HXN2.out)
    by_cases hjk : j < O.length
    case neg =>
      obtain rfl : j = O.length := by omega
      have hd2 : decide ((O.length : Int) < (O.length : Int)) = false := decide_eq_false (by omega)
      have HTK : Hid (O.take O.length = O) := List.take_length
      rw [HTK.out] at HO ⊢
      have HEND := Lib.hid (nxtS_end X O)
      have HNL : Hid ((nxtS X O).length ≤ 100001) := by show _ ≤ _; have := nxtS_len X O; have := HOL.out; omega
      have HBR := Lib.hid (HB2.out.trans (HBI.out.mono HB2.out.size))
      have HBW : Hid (W2.heap.size ≥ w.heap.size) := HB2.out.size
      generalize hbd : O.any (behI X) = bd at *
      cases bd with
      | true =>
        have HEQ : Hid (nxtS X O = PL) := by show _ = _; rw [HPE.out]; exact HEND.out
        rw [HEQ.out] at HO
        obtain ⟨A5, c5, rfl, hN5⟩ := own_newD HO.out
        have HN5 := Lib.hid hN5
        clear hN5 HEND HO
        go_wp2_with fail
        go_ret
        refine ⟨A5, c5, rfl, ?_, HBR.out⟩
        rcases HN5.out with h | ⟨g, e, hg, hic⟩
        · exact .inl h
        · exact .inr ⟨g, e, Nat.le_trans HBW.out hg, hic⟩
      | false =>
        have HEQ : Hid (nxtS X O ++ [X] = PL) := by show _ = _; rw [HPE.out]; exact HEND.out
        have HO5 := Lib.hid (HO.out.alloc (.cells X.cells 42))
        have HQ5 := Lib.hid (news_box wr X)
        have HB5 := Lib.hid (HBR.out.alloc HBR.out.size (.cells X.cells 42))
        have HSZ : Hid (W2.heap.size ≤ (wr.alloc (.cells X.cells 42)).heap.size) := Nat.le_trans HBI.out.size (below_al wr _).size
        simp only [Itm.cells] at HO5 HQ5 HB5 HSZ
        clear HO HEND
        go_wp2_with (first
          | refine wpList_load_row rfl 25 (.tmp 5) rfl w.heap.size rfl 25 _ (0, 0) _ HXI.out Tryz.underlying25 rfl info_nodeT ?_
          | (at_builtin; refine wpList_append_own _ rfl _ _ 22 rfl W2.heap.size 42 i0 (.agg #[.string ⟨#[]⟩, .int .i64 0, .int .u32 0, .int .u32 0, .int .u32 0, .int .i64 0, .int .i64 0, .string ⟨#[]⟩]) 8 72 Tryz.underlying22 hi hz0 hz1 hz2 rfl (by decide) _ _ _ rfl HO5.out ⟨wr.heap.size, 0, none⟩ 1 1 X.cellsL rfl ?qc1 ?qc2 ?qc3 ?qc4 ?qc5 ?qc6 ?_))
        case qc1 => rfl
        case qc2 => exact HQ5.out
        case qc3 => exact one_box X
        case qc4 => have := HNL.out; unfold maxLen; omega
        case qc5 => have := HNL.out; omega
        case qc6 => exact HSZ.out
        intro v7 w7 hown7 hgrow7 _
        have HB7 : Hid (Below w.heap.size w w7) := HB5.out.grown hgrow7 HB5.out.size (fun q hq => Nat.le_trans HBW.out (HO5.out.lt q hq).1)
        have hown7 : w7.ownsRow W2.heap.size 42 8 v7 PL.length (cellsI PL) := by
          have h := hown7
          rw [cells_snoc, HEQ.out] at h
          rw [show (nxtS X O).length + 1 = PL.length by rw [← HEQ.out, List.length_append]; rfl] at h
          exact h
        obtain ⟨A5, c5, rfl, hN5⟩ := own_newD hown7
        have HN5 := Lib.hid hN5
        clear hN5 hown7 hgrow7 HO5 HQ5 HB5
        go_wp2_with fail
        go_ret
        refine ⟨A5, c5, rfl, ?_, HB7.out⟩
        rcases HN5.out with h | ⟨g, e, hg, hic⟩
        · exact .inl h
        · exact .inr ⟨g, e, Nat.le_trans HBW.out hg, hic⟩
    have hd2 : decide ((j : Int) < (O.length : Int)) = true := decide_eq_true (by omega)
    obtain ⟨b3, off3, rfl, hb3, hcc3⟩ := (HI2.out.below HBI.out) (by omega)
    obtain ⟨f0, f1, f2, f3, f4, f5, f6, f7⟩ := hcc3 j O[j] (List.getElem?_eq_getElem hjk)
    have HNX : Hid (nxtS X (O.take (j + 1)) = (if (O.take j).any (behI X) = true then nxtS X (O.take j) else if behI X O[j] = true then nxtS X (O.take j) ++ [X] else nxtS X (O.take j)) ++ [O[j]]) := by
      show _ = _
      rw [List.take_succ_eq_append_getElem hjk, nxtS_snoc]
    have HAN : Hid ((O.take (j + 1)).any (behI X) = ((O.take j).any (behI X) || behI X O[j])) := any_take _ _ _ hjk
    have HNL : Hid ((nxtS X (O.take j)).length ≤ 100001) := by show _ ≤ _; have := nxtS_len X (O.take j); rw [List.length_take] at this; have := HOL.out; omega
    have HSY := Lib.hid (HOS.out O[j] (List.getElem_mem hjk))
    have HJL : Hid (j ≤ 100000) := by show _ ≤ _; have := HOL.out; omega
    obtain ⟨W4, hW4⟩ : ∃ W4, W4 = wr.alloc (.cells O[j].cells 42) := ⟨_, rfl⟩
    have hb4 : Below wr.heap.size wr W4 := by rw [hW4]; exact below_al wr _
    have HY4 : Hid (W4.heap[wr.heap.size]? = some (.cells O[j].cells 42 (0, 0))) := by show _ = _; rw [hW4]; exact heap_alloc_new wr _
    have HX4 := Lib.hid ((hb4.block _ (lt_of_block HXI.out)).trans HXI.out)
    have HO4 : Hid (W4.ownsRow W2.heap.size 42 8 V (nxtS X (O.take j)).length (cellsI (nxtS X (O.take j)))) := by show World.ownsRow _ _ _ _ _ _ _; rw [hW4]; exact HO.out.alloc _
    have HB4 := Lib.hid (below_then HBI.out hb4)
    have HLT : Hid (∀ q, V.ownBlock = some q → W2.heap.size ≤ q ∧ q < wr.heap.size) := fun q hq => HO.out.lt q hq
    generalize nxtS X (O.take j) = L at *
    generalize O[j] = Y at *
    generalize hbd : (O.take j).any (behI X) = bd at *
    simp only [Itm.cells] at hW4
    have HW4 := Lib.hid hW4
    clear hcc3 hb4 hW4 HO hbd
    generalize hgy : wr.heap.size = gy at *
    go_upto_region 6 with fail
    rw [← HW4.out]
    clear HW4 f0 f1 f2 f3 f4 f5 f6 f7
    cases bd with
    | true =>
      have HNE : Hid (nxtS X (O.take (j + 1)) = L ++ [Y]) := HNX.out
      have HAE : Hid ((O.take (j + 1)).any (behI X) = true) := HAN.out
      obtain ⟨y0, y1, y2, y3, y4, y5, y6, y7⟩ := cells_of_box HY4.out
      have HO5 := Lib.hid (HO4.out.alloc (.cells Y.cells 42))
      have HQ5 := Lib.hid (news_box W4 Y)
      have HB5 := Lib.hid (HB4.out.alloc HB4.out.size (.cells Y.cells 42))
      simp only [Itm.cells] at HO5 HQ5 HB5
      clear HNX HAN HO4
      go_wp2_with (at_builtin; refine wpList_append_own _ rfl _ _ 22 rfl W2.heap.size 42 i0 (.agg #[.string ⟨#[]⟩, .int .i64 0, .int .u32 0, .int .u32 0, .int .u32 0, .int .i64 0, .int .i64 0, .string ⟨#[]⟩]) 8 72 Tryz.underlying22 hi hz0 hz1 hz2 rfl (by decide) _ _ _ rfl HO5.out ⟨W4.heap.size, 0, none⟩ 1 1 Y.cellsL rfl ?qc1 ?qc2 ?qc3 ?qc4 ?qc5 ?qc6 ?_)
      case qc1 => rfl
      case qc2 => exact HQ5.out
      case qc3 => exact one_box Y
      case qc4 => have := HNL.out; unfold maxLen; omega
      case qc5 => have := HNL.out; omega
      case qc6 => exact HB5.out.size
      intro v7 w7 hown7 hgrow7 _
      have HB7 : Hid (Below W2.heap.size W2 w7) := HB5.out.grown hgrow7 HB5.out.size (fun q hq => (HLT.out q hq).1)
      have HO7 : Hid (w7.ownsRow W2.heap.size 42 8 v7 (nxtS X (O.take (j + 1))).length (cellsI (nxtS X (O.take (j + 1))))) := by
        show World.ownsRow _ _ _ _ _ _ _
        rw [HNE.out, ← cells_snoc, List.length_append]
        exact hown7
      clear hown7 hgrow7 HO5 HQ5 HB5
      have hjb : j ≤ 100000 := HJL.out
      go_wp2_with fail
      go_roundw
      case rel => exact ⟨j + 1, _, by omega, rfl, by go_num, by rw [HAE.out], HO7, HB7⟩
      case measure => simp [intOf]; omega
    | false =>
      have HORD := Lib.hid (fun w => rorder_any X.s Y.s w HSX.out HSY.out)
      obtain ⟨y0, _⟩ := cells_of_box HY4.out
      go_wp2_with fail
      refine (HORD.out _).mono ?_; rintro e w5 ⟨rfl, hb5⟩
      have HY5 : Hid (w5.heap[gy]? = some (.cells Y.cells 42 (0, 0))) := (hb5.block _ (lt_of_block HY4.out)).trans HY4.out
      have HX5 := Lib.hid ((hb5.block _ (lt_of_block HX4.out)).trans HX4.out)
      have HO5 := Lib.hid (own_belowI HO4.out hb5)
      have HB5 := Lib.hid (below_then HB4.out hb5)
      have HG5 : Hid (gy < w5.heap.size) := lt_of_block HY5.out
      clear hb5 HORD HO4 HB4 HY4 HX4 y0
      by_cases hlt5 : ordT X.s Y.s < 0
      · have hbe : behI X Y = true := decide_eq_true hlt5
        have hd5 : decide (ordT X.s Y.s < 0) = true := decide_eq_true hlt5
        have HNE : Hid (nxtS X (O.take (j + 1)) = (L ++ [X]) ++ [Y]) := by show _ = _; rw [HNX.out, if_neg (by decide), if_pos hbe]
        have HAE : Hid ((O.take (j + 1)).any (behI X) = true) := by show _ = _; rw [HAN.out, hbe]; rfl
        have HO6 := Lib.hid (HO5.out.alloc (.cells X.cells 42))
        have HQ6 := Lib.hid (news_box w5 X)
        have HB6 := Lib.hid (HB5.out.alloc HB5.out.size (.cells X.cells 42))
        have HY6 : Hid ((w5.alloc (.cells X.cells 42)).heap[gy]? = some (.cells Y.cells 42 (0, 0))) := ((below_al w5 (.cells X.cells 42)).block _ HG5.out).trans HY5.out
        simp only [Itm.cells] at HO6 HQ6 HB6
        have HY6 : Hid ((w5.alloc (.cells #[.string X.s, .int .i64 X.k, .int .u32 X.m, .int .u32 X.u, .int .u32 X.g, .int .i64 X.t, .int .i64 X.a, .string X.d] 42)).heap[gy]? = some (.cells Y.cells 42 (0, 0))) := HY6.out
        clear HNX HAN HO5 HB5 HY5 hbe
        go_upto_region 8 with (first
          | refine wpList_load_row rfl 25 (.tmp 5) rfl w.heap.size rfl 25 _ (0, 0) _ HX5.out Tryz.underlying25 rfl info_nodeT ?_
          | (at_builtin; refine wpList_append_own _ rfl _ _ 22 rfl W2.heap.size 42 i0 (.agg #[.string ⟨#[]⟩, .int .i64 0, .int .u32 0, .int .u32 0, .int .u32 0, .int .i64 0, .int .i64 0, .string ⟨#[]⟩]) 8 72 Tryz.underlying22 hi hz0 hz1 hz2 rfl (by decide) _ _ _ rfl HO6.out ⟨w5.heap.size, 0, none⟩ 1 1 X.cellsL rfl ?qc1 ?qc2 ?qc3 ?qc4 ?qc5 ?qc6 ?_))
        case qc1 => rfl
        case qc2 => exact HQ6.out
        case qc3 => exact one_box X
        case qc4 => have := HNL.out; unfold maxLen; omega
        case qc5 => have := HNL.out; omega
        case qc6 => exact HB6.out.size
        intro v7 w7 hown7 hgrow7 _
        have HB7 : Hid (Below W2.heap.size W2 w7) := HB6.out.grown hgrow7 HB6.out.size (fun q hq => (HLT.out q hq).1)
        have HY7 : Hid (w7.heap[gy]? = some (.cells Y.cells 42 (0, 0))) := (hgrow7.block gy (lt_of_block HY6.out) (fun h => by have := (HLT.out gy h.symm).2; omega)).trans HY6.out
        have HL7 : Hid (∀ q, v7.ownBlock = some q → W2.heap.size ≤ q) := fun q hq => (hown7.lt q hq).1
        obtain ⟨z0, z1, z2, z3, z4, z5, z6, z7⟩ := cells_of_box HY7.out
        have HO8 := Lib.hid (hown7.alloc (.cells Y.cells 42))
        have HQ8 := Lib.hid (news_box w7 Y)
        have HB8 := Lib.hid (HB7.out.alloc HB7.out.size (.cells Y.cells 42))
        simp only [Itm.cells] at HO8 HQ8 HB8
        clear hown7 hgrow7 HO6 HQ6 HB6 HY6 HB7 HLT
        go_wp2_with (at_builtin; refine wpList_append_own _ rfl _ _ 22 rfl W2.heap.size 42 i0 (.agg #[.string ⟨#[]⟩, .int .i64 0, .int .u32 0, .int .u32 0, .int .u32 0, .int .i64 0, .int .i64 0, .string ⟨#[]⟩]) 8 72 Tryz.underlying22 hi hz0 hz1 hz2 rfl (by decide) _ _ _ rfl HO8.out ⟨w7.heap.size, 0, none⟩ 1 1 Y.cellsL rfl ?qd1 ?qd2 ?qd3 ?qd4 ?qd5 ?qd6 ?_)
        case qd1 => rfl
        case qd2 => exact HQ8.out
        case qd3 => exact one_box Y
        case qd4 => have := HNL.out; unfold maxLen; omega
        case qd5 => have := HNL.out; omega
        case qd6 => exact HB8.out.size
        intro v9 w9 hown9 hgrow9 _
        have HB9 : Hid (Below W2.heap.size W2 w9) := HB8.out.grown hgrow9 HB8.out.size (fun q hq => HL7.out q hq)
        have HO9 : Hid (w9.ownsRow W2.heap.size 42 8 v9 (nxtS X (O.take (j + 1))).length (cellsI (nxtS X (O.take (j + 1))))) := by
          show World.ownsRow _ _ _ _ _ _ _
          rw [HNE.out, ← cells_snoc, ← cells_snoc, List.length_append, List.length_append, List.append_assoc]
          exact hown9
        clear hown9 hgrow9 HO8 HQ8 HB8
        have hjb : j ≤ 100000 := HJL.out
        go_wp2_with fail
        go_roundw
        case rel => exact ⟨j + 1, _, by omega, rfl, by go_num, by rw [HAE.out], HO9, HB9⟩
        case measure => simp [intOf]; omega
      · have hbe : behI X Y = false := decide_eq_false hlt5
        have hd5 : decide (ordT X.s Y.s < 0) = false := decide_eq_false hlt5
        have HNE : Hid (nxtS X (O.take (j + 1)) = L ++ [Y]) := by show _ = _; rw [HNX.out, if_neg (by decide), if_neg (by rw [hbe]; decide)]
        have HAE : Hid ((O.take (j + 1)).any (behI X) = false) := by show _ = _; rw [HAN.out, hbe]; rfl
        obtain ⟨y0, y1, y2, y3, y4, y5, y6, y7⟩ := cells_of_box HY5.out
        have HO6 := Lib.hid (HO5.out.alloc (.cells Y.cells 42))
        have HQ6 := Lib.hid (news_box w5 Y)
        have HB6 := Lib.hid (HB5.out.alloc HB5.out.size (.cells Y.cells 42))
        simp only [Itm.cells] at HO6 HQ6 HB6
        clear HNX HAN HO5 HB5 hbe
        go_wp2_with (at_builtin; refine wpList_append_own _ rfl _ _ 22 rfl W2.heap.size 42 i0 (.agg #[.string ⟨#[]⟩, .int .i64 0, .int .u32 0, .int .u32 0, .int .u32 0, .int .i64 0, .int .i64 0, .string ⟨#[]⟩]) 8 72 Tryz.underlying22 hi hz0 hz1 hz2 rfl (by decide) _ _ _ rfl HO6.out ⟨w5.heap.size, 0, none⟩ 1 1 Y.cellsL rfl ?qc1 ?qc2 ?qc3 ?qc4 ?qc5 ?qc6 ?_)
        case qc1 => rfl
        case qc2 => exact HQ6.out
        case qc3 => exact one_box Y
        case qc4 => have := HNL.out; unfold maxLen; omega
        case qc5 => have := HNL.out; omega
        case qc6 => exact HB6.out.size
        intro v7 w7 hown7 hgrow7 _
        have HB7 : Hid (Below W2.heap.size W2 w7) := HB6.out.grown hgrow7 HB6.out.size (fun q hq => (HLT.out q hq).1)
        have HO7 : Hid (w7.ownsRow W2.heap.size 42 8 v7 (nxtS X (O.take (j + 1))).length (cellsI (nxtS X (O.take (j + 1))))) := by
          show World.ownsRow _ _ _ _ _ _ _
          rw [HNE.out, ← cells_snoc, List.length_append]
          exact hown7
        clear hown7 hgrow7 HO6 HQ6 HB6
        have hjb : j ≤ 100000 := HJL.out
        go_wp2_with fail
        go_roundw
        case rel => exact ⟨j + 1, _, by omega, rfl, by go_num, by rw [HAE.out], HO7, HB7⟩
        case measure => simp [intOf]; omega
end Go.Proofs.YtmeapijckncoeaaGreatDoor

namespace Go.Proofs.YtmeapijckncoeaaGreatDoor
set_option maxRecDepth 100000
set_option linter.unusedSimpArgs false
set_option linter.unusedVariables false
open Go.RowKit Go.Joins Go.Deep
open Go.Lib hiding intOf
set_option maxHeartbeats 4000000 in
theorem radded_any (A : Option Addr) (c : Nat) (l : List Itm) (p : ByteArray) (w : World) (hR : Itms w A l) (hl : l.length ≤ 1000000) :
    Calls Tryz.prog 27 #[.slice A l.length c, .string p] w fun e w' => e = .returned (.bool (!hasP l p)) ∧ Below w.heap.size w w' := by
  have HF := Lib.hid (rfind_any A c l p w hR hl)
  rw [hasP_fnd]
  unfold fndV at HF
  unfold fndQ
  have hinod := info_nodeT
  clear hR
  cases hf : l.find? (fun X => X.s.toList == p.toList) with
  | none =>
    rw [hf] at HF
    dsimp only at HF
    clear hf
    go_enter Tryz.func27, Tryz.ntmps27
    go_wp2_with fail
    refine HF.out.mono ?_; rintro e w1 ⟨rfl, hb⟩
    have HB := Lib.hid (hb.trans ((Below.refl _ w1).alloc (Nat.le_refl _) (.cells #[.int .i64 0, .int .u32 0, .int .u32 0, .int .u32 0, .int .i64 0, .int .i64 0, .string ⟨#[]⟩] 25) |>.mono hb.size))
    clear hb HF
    go_wp2_with fail
    go_ret
    exact ⟨rfl, HB.out⟩
  | some x =>
    rw [hf] at HF
    dsimp only at HF
    clear hf
    obtain ⟨x0, x1, x2, x3, x4, x5, x6, x7⟩ := x
    simp only [Itm.node] at HF ⊢
    go_enter Tryz.func27, Tryz.ntmps27
    go_wp2_with fail
    refine HF.out.mono ?_; rintro e w1 ⟨rfl, hb⟩
    have HB := Lib.hid (hb.trans ((Below.refl _ w1).alloc (Nat.le_refl _) (.cells #[.int .i64 x1, .int .u32 x2, .int .u32 x3, .int .u32 x4, .int .i64 x5, .int .i64 x6, .string x7] 25) |>.mono hb.size))
    clear hb HF
    go_wp2_with fail
    go_ret
    exact ⟨rfl, HB.out⟩
theorem putL_mem {l : List Itm} {y x : Itm} (h : x ∈ putL l y) : x = y ∨ x ∈ l := by
  unfold putL insI at h
  rcases List.mem_append.1 h with h | h
  · exact .inr (List.mem_filter.1 (List.mem_of_mem_take h)).1
  · rcases List.mem_cons.1 h with h | h
    · exact .inl h
    · exact .inr (List.mem_filter.1 (List.mem_of_mem_drop h)).1
theorem putL_le (l : List Itm) (y : Itm) : (putL l y).length ≤ l.length + 1 := by
  have h1 : (putR l y.s).length ≤ l.length := List.length_filter_le _ _
  rw [putL_putS, putS_len]
  omega
set_option maxHeartbeats 16000000 in
theorem rfill_any (A : Option Addr) (c : Nat) (t : List Itm) (D : Itm) (w : World) (hT : Itms w A t) (hl : t.length ≤ 60) (hs : ∀ x ∈ t, x.s.size ≤ 1000) :
    Calls Tryz.prog 9 #[.slice A t.length c, .agg D.node] w fun e w' => ∃ A' c', e = .returned (.tuple #[.slice A' (rfV D t).1.length c', .bool (rfV D t).2]) ∧ NewI w' w.heap.size A' (rfV D t).1 ∧ Below w.heap.size w w' := by
  have hir := info_item
  have hinod := info_nodeT
  obtain ⟨w1, hw1⟩ : ∃ w1, w1 = w.alloc (.cells D.node 25) := ⟨_, rfl⟩
  have h01 : Below w.heap.size w w1 := by rw [hw1]; exact below_al w _
  have HXN1 : Hid (w1.heap[w.heap.size]? = some (.cells D.node 25 (0, 0))) := by show _ = _; rw [hw1]; exact heap_alloc_new w _
  have HB1 := Lib.hid h01
  have HSO := Lib.hid (rsort_any A c t w1 (hT.below h01) (by omega) (fun x hx => by have := hs x hx; omega))
  obtain ⟨S, hS⟩ : ∃ S, S = sortI t := ⟨_, rfl⟩
  have HSL : Hid (t.length = S.length) := by show _ = _; rw [hS, sortI_len]
  have HSS : Hid (∀ x ∈ S, x.s.size ≤ 1000) := fun x hx => by rw [hS] at hx; exact hs x (sortI_mem t x hx)
  obtain ⟨R1, hR1⟩ : ∃ R1, R1 = (rfV D t).1 := ⟨_, rfl⟩
  obtain ⟨R2, hR2⟩ : ∃ R2, R2 = (rfV D t).2 := ⟨_, rfl⟩
  have HV1 : Hid (∀ O, rfA S D S = some O → R1 = O ∧ R2 = true) := fun O h => by rw [hS] at h; rw [hR1, hR2]; unfold rfV; rw [h]; exact ⟨rfl, rfl⟩
  have HV2 : Hid (rfA S D S = none → R1 = S ∧ R2 = false) := fun h => by rw [hS] at h; rw [hR1, hR2]; unfold rfV; rw [h]; exact ⟨hS.symm, rfl⟩
  rw [← hS] at HSO
  rw [← hR1, ← hR2]
  have HL0 : Hid (S.length ≤ 60) := by show _ ≤ _; have := HSL.out; omega
  simp only [Itm.node] at hw1 HXN1 ⊢
  have HW1 := Lib.hid hw1
  clear hT hl hs hS hR1 hR2 h01 hw1
  go_enter Tryz.func9, Tryz.ntmps9
  go_upto_region 1 with fail
  rw [← HW1.out]
  clear HW1
  go_wp2_with fail
  refine HSO.out.mono ?_; rintro e W2 ⟨A6, c6, rfl, hN2, hb2⟩
  rw [HSL.out]
  have HB2 := Lib.hid (below_then HB1.out hb2)
  have HI2 := Lib.hid hN2.itms
  have HXN2 := Lib.hid ((hb2.block _ (lt_of_block HXN1.out)).trans HXN1.out)
  have HN2 : Hid (NewI W2 w.heap.size A6 S) := by
    show NewI _ _ _ _
    rcases hN2 with h | ⟨g, e, hg, hio⟩
    · exact .inl h
    · exact .inr ⟨g, e, Nat.le_trans HB1.out.size hg, hio⟩
  have HNS : Hid (∀ wz, Below W2.heap.size W2 wz → NewI wz w.heap.size A6 S) := fun wz hz => by
    rcases HN2.out with h | ⟨g, e, hg, hio⟩
    · exact .inl h
    · exact .inr ⟨g, e, hg, hio.below hz⟩
  have HR0 : Hid (rfA S D (S.take 0) = some S) := rfl
  clear hN2 hb2 HSO HXN1 HB1
  go_wp2_with fail
  go_loopw [7, 18] (fun v7 v18 wr => ∃ (k : Nat) (A7 : Option Addr) (c7 : Nat) (O : List Itm), k ≤ S.length ∧ v18 = .int .i64 (k : Nat) ∧ v7 = .slice A7 O.length c7 ∧ Hid (rfA S D (S.take k) = some O) ∧ Hid (NewI wr w.heap.size A7 O) ∧ Hid (O.length ≤ 60 + k * 1000 ∧ ∀ x ∈ O, x.s.size ≤ 1000) ∧ Hid (Below W2.heap.size W2 wr)) (fun _ v _ => S.length - (intOf v).toNat)
  case atStart => exact ⟨0, A6, c6, S, Nat.zero_le _, rfl, rfl, HR0, HN2, ⟨by have := HL0.out; omega, HSS.out⟩, Below.refl _ _⟩
  case round =>
    clear HR0 HN2
    obtain ⟨k, A7, c7, O, hk, rfl, rfl, HR, HN, HL, HB⟩ := hrel
    by_cases hkn : k < S.length
    case neg =>
      obtain rfl : k = S.length := by omega
      have hd : decide ((S.length : Int) < (S.length : Int)) = false := decide_eq_false (by omega)
      have HE := Lib.hid (HV1.out O (by have := HR.out; rwa [List.take_length] at this))
      have HBW := Lib.hid (below_then HB2.out HB.out)
      clear HV1 HV2 HR HB
      go_wp2_with fail
      go_ret2
      obtain ⟨e1, e2⟩ := HE.out
      exact ⟨A7, c7, by rw [e1, e2]; rfl, by rw [e1]; exact HN.out, HBW.out⟩
    have hd : decide ((k : Int) < (S.length : Int)) = true := decide_eq_true (by omega)
    obtain ⟨b, off, rfl, hb, hcc⟩ := (HI2.out.below HB.out) (by omega)
    obtain ⟨c0, c1, c2, c3, c4, c5, c6', c7'⟩ := hcc k S[k] (List.getElem?_eq_getElem hkn)
    obtain ⟨RF, hRF⟩ : ∃ RF, RF = rfA S D (S.take (k + 1)) := ⟨_, rfl⟩
    have HRF : Hid (rfW S D (chn (parB S[k].s)) O = RF) := by
      show _ = RF
      rw [hRF, List.take_succ_eq_append_getElem hkn, rfA_snoc, HR.out]; rfl
    have HRN : Hid (RF = none → R1 = S ∧ R2 = false) := fun h => HV2.out (by
      rw [hRF] at h
      have := rfA_none (m := S.drop (k + 1)) h
      rwa [List.take_append_drop] at this)
    have HRQ := Lib.hid hRF
    have HPP := Lib.hid (fun w => rparent_any S[k].s w (by have := HSS.out S[k] (List.getElem_mem hkn); omega))
    have HPZ : Hid ((parB S[k].s).size ≤ 1000) := by show _ ≤ _; have := par_le S[k].s; have := HSS.out S[k] (List.getElem_mem hkn); omega
    have HKL : Hid (k < 60) := by show _ < _; have := HL0.out; omega
    obtain ⟨W3, hW3⟩ : ∃ W3, W3 = wr.alloc (.cells S[k].cells 42) := ⟨_, rfl⟩
    have hb3 : Below wr.heap.size wr W3 := by rw [hW3]; exact below_al wr _
    have hx3 : W3.heap[wr.heap.size]? = some (.cells S[k].cells 42 (0, 0)) := by rw [hW3]; exact heap_alloc_new wr _
    have HN3 : Hid (NewI W3 w.heap.size A7 O) := by
      show NewI _ _ _ _
      rcases HN.out with h | ⟨g, e, hg, hio⟩
      · exact .inl h
      · exact .inr ⟨g, e, hg, hio.below hb3⟩
    have HB3 := Lib.hid (below_then HB.out hb3)
    obtain ⟨x0, _⟩ := cells_of_box hx3
    generalize S[k] = X at *
    simp only [Itm.cells] at hW3
    have HW3 := Lib.hid hW3
    clear hcc hb3 hx3 hW3 HN HB hRF HR
    generalize hgx : wr.heap.size = gx at *
    go_upto_region 6 with fail
    rw [← HW3.out]
    clear HW3 c0 c1 c2 c3 c4 c5 c6' c7'
    go_wp2_with fail
    refine (HPP.out _).mono ?_; rintro e wx ⟨rfl, hw⟩; rw [hw]; clear hw wx
    generalize parB X.s = q0 at *
    clear HPP x0
    go_wp2_with fail
    go_loopw [7, 10] (fun v7 v10 wi => ∃ (q : ByteArray) (A8 : Option Addr) (c8 : Nat) (P : List Itm), v10 = .string q ∧ v7 = .slice A8 P.length c8 ∧ Hid (rfW S D (chn q) P = RF) ∧ Hid (NewI wi w.heap.size A8 P) ∧ Hid (P.length + q.size ≤ 1060 + k * 1000 ∧ q.size ≤ 1000 ∧ ∀ x ∈ P, x.s.size ≤ 1000) ∧ Hid (Below W2.heap.size W2 wi)) (fun _ v _ => szV v)
    case atStart => exact ⟨q0, A7, c7, O, rfl, rfl, HRF, HN3, ⟨by have := HL.out.1; have := HPZ.out; omega, HPZ.out, HL.out.2⟩, HB3⟩
    case round =>
      clear HRF HN3 HB3 HL HPZ
      obtain ⟨q, A8, c8, P, rfl, rfl, HR, HN, HL, HB⟩ := hrel
      by_cases hq0 : q.size = 0
      · have hpe : (q.toList == []) = true := by
          have : q = ⟨#[]⟩ := ByteArray.ext (Array.eq_empty_of_size_eq_zero hq0)
          rw [this, Lib.toList_data]; rfl
        have HE : Hid (rfA S D (S.take (k + 1)) = some P) := by
          show _ = _
          rw [← HRQ.out, ← HR.out, chn_nil hq0]; rfl
        have hk60 := HKL.out
        clear HR HRQ HRN
        go_wp2_with fail
        go_roundw
        case rel => exact ⟨k + 1, A8, c8, P, by omega, by go_num, rfl, HE, HN, ⟨by have := HL.out.1; omega, HL.out.2.2⟩, HB⟩
        case measure => simp [intOf]; omega
      · have hpe : (q.toList == []) = false := by
          refine beq_eq_false_iff_ne.2 fun h => hq0 ?_
          have h2 : q.data.toList = [] := by rw [← Lib.toList_data]; exact h
          show q.data.size = 0
          rw [← Array.length_toList, h2]; rfl
        have HPS := Lib.hid (par_size q hq0)
        have HPA := Lib.hid (fun w => rparent_any q w (by have := HL.out.2.1; omega))
        have HCH : Hid (chn q = q :: chn (parB q)) := chn_cons hq0
        have HFI := Lib.hid (rfind_any A8 c8 P q wr HN.out.itms (by have := HL.out.1; have := HKL.out; omega))
        unfold fndV at HFI
        have HR : Hid ((match fndQ P q with | some X => if X.k ≠ 1 ∧ hasP S q = true then none else rfW S D (chn (parB q)) P | none => rfW S D (chn (parB q)) (putL P (D.at q))) = RF) := by
          have h := HR.out
          rw [HCH.out, rfW] at h
          exact h
        have HL2 : Hid (P.length + (parB q).size + 1 ≤ 1060 + k * 1000 ∧ (parB q).size ≤ 1000 ∧ ∀ x ∈ P, x.s.size ≤ 1000) := ⟨by have := HL.out.1; have := HPS.out; omega, by have := HL.out.2.1; have := HPS.out; omega, HL.out.2.2⟩
        have HQS : Hid (q.size ≤ 1000) := HL.out.2.1
        unfold fndQ at HR
        clear HCH HL
        cases hf : P.find? (fun X => X.s.toList == q.toList) with
        | some Y =>
          rw [hf] at HFI HR
          dsimp only at HFI HR
          simp only [Itm.node] at HFI
          clear hf
          go_wp2_with fail
          refine HFI.out.mono ?_; rintro e w4 ⟨rfl, hb4⟩
          obtain ⟨W5, hW5⟩ : ∃ W5, W5 = w4.alloc (.cells Y.node 25) := ⟨_, rfl⟩
          have hb5 : Below w4.heap.size w4 W5 := by rw [hW5]; exact below_al w4 _
          have hx5 : W5.heap[w4.heap.size]? = some (.cells Y.node 25 (0, 0)) := by rw [hW5]; exact heap_alloc_new w4 _
          have z0 := (cell_of_row _ _ 0 _ _ _ hx5).trans (show _ = some (.int .i64 Y.k) from rfl)
          have hb45 := below_then hb4 hb5
          have HN5 : Hid (NewI W5 w.heap.size A8 P) := by
            show NewI _ _ _ _
            rcases HN.out with h | ⟨g, e, hg, hio⟩
            · exact .inl h
            · exact .inr ⟨g, e, hg, hio.below hb45⟩
          have HB5 := Lib.hid (below_then HB.out hb45)
          have HAD := Lib.hid (radded_any _ c6 S q W5 (HI2.out.below HB5.out) (by have := HL0.out; omega))
          simp only [Itm.node] at hW5
          have HW5 := Lib.hid hW5
          generalize Y.k = yk at *
          clear hb4 hb5 hx5 hW5 hb45 HFI HN HB
          generalize hgz : w4.heap.size = gz at *
          go_upto_region 10 with fail
          rw [← HW5.out]
          clear HW5
          by_cases hk1 : yk = 1
          · have HR2 : Hid (rfW S D (chn (parB q)) P = RF) := by
              have h := HR.out
              rwa [if_neg (fun k => k.1 hk1)] at h
            subst hk1
            clear HR HAD
            go_wp2_with fail
            refine (HPA.out _).mono ?_; rintro e wx ⟨rfl, hw⟩; rw [hw]; clear hw wx
            go_wp2_with fail
            go_roundw
            case rel => exact ⟨parB q, A8, c8, P, rfl, rfl, HR2, HN5, ⟨by have := HL2.out.1; omega, HL2.out.2⟩, HB5⟩
            case measure => exact HPS.out
          · have hk2 : (yk == 1) = false := beq_eq_false_iff_ne.2 hk1
            cases hh : hasP S q with
            | true =>
              rw [hh] at HAD HR
              have HRE : Hid (R1 = S ∧ R2 = false) := HRN.out (by rw [← HR.out, if_pos ⟨hk1, rfl⟩])
              have HI5 := Lib.hid (HB5.out)
              clear HR HRQ HRN hh
              go_wp2_with fail
              refine HAD.out.mono ?_; rintro e w6 ⟨rfl, hb6⟩
              have HB6 := Lib.hid (below_then HB5.out hb6)
              clear hb6 HAD
              go_wp2_with fail
              go_ret2
              obtain ⟨e1, e2⟩ := HRE.out
              refine ⟨_, c6, by rw [e1, e2]; rfl, ?_, below_then HB2.out HB6.out⟩
              rw [e1]
              exact HNS.out _ HB6.out
            | false =>
              rw [hh] at HAD HR
              have HR2 : Hid (rfW S D (chn (parB q)) P = RF) := by
                have h := HR.out
                rwa [if_neg (fun k => by cases k.2)] at h
              clear HR hh
              go_wp2_with fail
              refine HAD.out.mono ?_; rintro e w6 ⟨rfl, hb6⟩
              have HN6 : Hid (NewI w6 w.heap.size A8 P) := by
                show NewI _ _ _ _
                rcases HN5.out with h | ⟨g, e, hg, hio⟩
                · exact .inl h
                · exact .inr ⟨g, e, hg, hio.below hb6⟩
              have HB6 := Lib.hid (below_then HB5.out hb6)
              clear hb6 HAD HN5 HB5
              go_wp2_with fail
              refine (HPA.out _).mono ?_; rintro e wx ⟨rfl, hw⟩; rw [hw]; clear hw wx
              go_wp2_with fail
              go_roundw
              case rel => exact ⟨parB q, A8, c8, P, rfl, rfl, HR2, HN6, ⟨by have := HL2.out.1; omega, HL2.out.2⟩, HB6⟩
              case measure => exact HPS.out
        | none =>
          rw [hf] at HFI HR
          dsimp only at HFI HR
          clear hf
          go_wp2_with fail
          refine HFI.out.mono ?_; rintro e w4 ⟨rfl, hb4⟩
          obtain ⟨W5, hW5⟩ : ∃ W5, W5 = w4.alloc (.cells #[.int .i64 0, .int .u32 0, .int .u32 0, .int .u32 0, .int .i64 0, .int .i64 0, .string ⟨#[]⟩] 25) := ⟨_, rfl⟩
          have hb5 : Below w4.heap.size w4 W5 := by rw [hW5]; exact below_al w4 _
          have hb45 := below_then hb4 hb5
          have HIP : Hid (Itms W5 A8 P) := HN.out.itms.below hb45
          have HB5 := Lib.hid (below_then HB.out hb45)
          have HXD := Lib.hid ((HB5.out.block _ (lt_of_block HXN2.out)).trans HXN2.out)
          have HPU := Lib.hid (rput_any A8 c8 P (D.at q) W5 HIP.out (by have := HL2.out.1; have := HKL.out; omega) (fun x hx => by have := HL2.out.2.2 x hx; omega) (by have := HQS.out; show q.size ≤ _; omega))
          have HPL := Lib.hid (putL_le P (D.at q))
          have HPM : Hid (∀ x ∈ putL P (D.at q), x.s.size ≤ 1000) := fun x hx => by
            rcases putL_mem hx with h | h
            · subst h; exact HQS.out
            · exact HL2.out.2.2 x h
          have HBS : Hid (w.heap.size ≤ W5.heap.size) := Nat.le_trans HB2.out.size HB5.out.size
          generalize putL P (D.at q) = PP at *
          simp only [Itm.at, Itm.node] at HPU
          have HW5 := Lib.hid hW5
          clear hb4 hb5 hW5 hb45 HFI HN HB
          generalize hgz : w4.heap.size = gz at *
          go_upto_region 10 with fail
          rw [← HW5.out]
          clear HW5
          go_wp2_with (refine wpList_load_row rfl 25 (.tmp 3) rfl w.heap.size rfl 25 _ (0, 0) _ HXD.out Tryz.underlying25 rfl info_nodeT ?_)
          refine HPU.out.mono ?_; rintro e w6 ⟨A9, c9, rfl, hN6, hb6⟩
          have HN6 : Hid (NewI w6 w.heap.size A9 PP) := by
            show NewI _ _ _ _
            rcases hN6 with h | ⟨g, e, hg, hio⟩
            · exact .inl h
            · exact .inr ⟨g, e, Nat.le_trans HBS.out hg, hio⟩
          have HB6 := Lib.hid (below_then HB5.out hb6)
          clear hb6 hN6 HPU HB5
          go_wp2_with fail
          refine (HPA.out _).mono ?_; rintro e wx ⟨rfl, hw⟩; rw [hw]; clear hw wx
          go_wp2_with fail
          go_roundw
          case rel => exact ⟨parB q, A9, c9, PP, rfl, rfl, HR, HN6, ⟨by have := HL2.out.1; have := HPL.out; omega, HL2.out.2.1, HPM.out⟩, HB6⟩
          case measure => exact HPS.out
end Go.Proofs.YtmeapijckncoeaaGreatDoor
