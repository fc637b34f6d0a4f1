/-
  Trees: the document's Find and kind.
-/
import Derived.Test.YtpkhpaklhfomkaaGreatDoorTpC
namespace Go.Proofs.YtpkhpaklhfomkaaGreatDoor
set_option maxRecDepth 100000
set_option linter.unusedSimpArgs false
set_option linter.unusedVariables false
open Go.RowKit Go.Joins Go.Deep
open Go.Lib hiding intOf
set_option maxHeartbeats 8000000 in
theorem rfind_any (A : Option Addr) (c : Nat) (l : List Itm) (p : ByteArray) (w : World) (hR : Itms w A l) (hl : l.length ≤ 1000000) :
    Calls Tryz.prog 14 #[.slice A l.length c, .string p] w fun e w' => e = .returned (fndV l p) ∧ Below w.heap.size w w' := by
  have hir := info_item
  obtain ⟨W1, hW1⟩ : ∃ W1, W1 = w.alloc (.cells #[.int .i64 0, .int .u32 0, .int .u32 0, .int .u32 0, .int .i64 0, .int .i64 0, .string ⟨#[]⟩] 31) := ⟨_, rfl⟩
  have hb1 := (Below.refl w.heap.size w).alloc (Nat.le_refl _) (.cells #[.int .i64 0, .int .u32 0, .int .u32 0, .int .u32 0, .int .i64 0, .int .i64 0, .string ⟨#[]⟩] 31)
  have hx1 := heap_alloc_new w (.cells #[.int .i64 0, .int .u32 0, .int .u32 0, .int .u32 0, .int .i64 0, .int .i64 0, .string ⟨#[]⟩] 31)
  have hs1 : (w.alloc (.cells #[.int .i64 0, .int .u32 0, .int .u32 0, .int .u32 0, .int .i64 0, .int .i64 0, .string ⟨#[]⟩] 31)).heap.size = w.heap.size + 1 := by simp only [World.alloc, Array.size_push]
  rw [← hW1] at hb1 hx1 hs1
  have HR := Lib.hid (hR.below hb1)
  have HX := Lib.hid hx1
  have HS := Lib.hid hs1
  have HB1 := Lib.hid hb1
  have HW1 := Lib.hid hW1
  obtain ⟨V, hV⟩ : ∃ V, V = fndV l p := ⟨_, rfl⟩
  rw [← hV]
  have HV := Lib.hid hV
  clear hR hV hb1 hx1 hs1 hW1
  go_enter Tryz.func14, Tryz.ntmps14
  go_wp2_with fail
  rw [← HW1.out]
  generalize hgg : w.heap.size = gx at *
  go_loopw [10] (fun v10 wr => ∃ k : Nat, k ≤ l.length ∧ v10 = .int .i64 (k : Nat) ∧ Hid ((l.take k).find? (fun X => X.s.toList == p.toList) = none) ∧ Hid (Below W1.heap.size W1 wr)) (fun v _ => l.length - (intOf v).toNat)
  case atStart => exact ⟨0, Nat.zero_le _, rfl, rfl, Below.refl _ _⟩
  case round =>
    obtain ⟨k, hk, rfl, HF, HB⟩ := hrel
    have HXR : Hid (wr.heap[gx]? = _) := (HB.out.block gx (by have := HS.out; omega)).trans HX.out
    by_cases hlt : k < l.length
    · have hd : decide ((k : Int) < (l.length : Int)) = true := decide_eq_true (by omega)
      obtain ⟨b, off, rfl, hb, hcc⟩ := (HR.out.below HB.out) (by omega)
      obtain ⟨c0, c1, c2, c3, c4, c5, c6, c7⟩ := hcc k l[k] (List.getElem?_eq_getElem hlt)
      have HFT := Lib.hid (find_take (fun X => X.s.toList == p.toList) l k hlt HF.out)
      have HFN := Lib.hid (find_take_no (fun X => X.s.toList == p.toList) l k hlt HF.out)
      have hx0 := heap_alloc_new wr (.cells l[k].cells 33)
      have HB2 := Lib.hid (HB.out.alloc HB.out.size (.cells l[k].cells 33))
      have HX2 := Lib.hid (((below_al wr (.cells l[k].cells 33)).block gx (lt_of_block HXR.out)).trans HXR.out)
      simp only [Itm.cells] at hx0 HB2 HX2
      generalize hx : l[k] = x at *
      obtain ⟨x0, x1, x2, x3, x4, x5, x6, x7⟩ := x
      dsimp only at c0 c1 c2 c3 c4 c5 c6 c7 HB2 hx0 HX2
      have HLX := Lib.hid hx
      have d0 := (cell_of_row _ _ 0 _ _ _ hx0).trans (show _ = some (.string x0) from rfl)
      have d1 := (cell_of_row _ _ 1 _ _ _ hx0).trans (show _ = some (.int .i64 x1) from rfl)
      have d2 := (cell_of_row _ _ 2 _ _ _ hx0).trans (show _ = some (.int .u32 x2) from rfl)
      have d3 := (cell_of_row _ _ 3 _ _ _ hx0).trans (show _ = some (.int .u32 x3) from rfl)
      have d4 := (cell_of_row _ _ 4 _ _ _ hx0).trans (show _ = some (.int .u32 x4) from rfl)
      have d5 := (cell_of_row _ _ 5 _ _ _ hx0).trans (show _ = some (.int .i64 x5) from rfl)
      have d6 := (cell_of_row _ _ 6 _ _ _ hx0).trans (show _ = some (.int .i64 x6) from rfl)
      have d7 := (cell_of_row _ _ 7 _ _ _ hx0).trans (show _ = some (.string x7) from rfl)
      clear hcc hx hx0
      by_cases hq : (x0.toList == p.toList) = true
      · have HVV : Hid (V = .tuple #[.agg #[.int .i64 x1, .int .u32 x2, .int .u32 x3, .int .u32 x4, .int .i64 x5, .int .i64 x6, .string x7], .bool true]) := by
          show V = _
          rw [HV.out]; unfold fndV; rw [HFT.out hq]; rfl
        have hxr := HX2.out
        clear HFN HFT HV HR HF HX
        go_wp2_with (first
          | refine wpList_store_row rfl 31 (.tmp 4) (.tmp 19) rfl gx #[.int .i64 x1, .int .u32 x2, .int .u32 x3, .int .u32 x4, .int .i64 x5, .int .i64 x6, .string x7] rfl rfl 31 _ HX2.out info_nodeT rfl (by simp [Value.oneCell']) ?_
          | fail)
        have HX3 := Lib.hid (setRow_heap _ _ _ #[.int .i64 x1, .int .u32 x2, .int .u32 x3, .int .u32 x4, .int .i64 x5, .int .i64 x6, .string x7] _ _ HX2.out)
        rw [HVV.out]
        exact bodyPost_ret (results_ct_rowT rfl _ _ gx 31 _ (0, 0) _ rfl HX3.out Tryz.underlying31 rfl info_nodeT) rfl ⟨rfl, by rw [hgg]; exact below_setRow (HB1.out.trans (HB2.out.mono (by have := HS.out; omega))) (Nat.le_refl _) _⟩
      · have hq := Bool.eq_false_iff.2 hq
        have HF2 := Lib.hid (HFN.out hq)
        clear HFN HFT HV HR HF HX
        go_wp2_with fail
        go_roundw
        case rel => exact ⟨k + 1, by omega, by go_num, HF2, HB2⟩
        case measure => simp [intOf]; omega
    · obtain rfl : k = l.length := by omega
      have hd : decide ((l.length : Int) < (l.length : Int)) = false := decide_eq_false (by omega)
      have HVV : Hid (V = .tuple #[.agg #[.int .i64 0, .int .u32 0, .int .u32 0, .int .u32 0, .int .i64 0, .int .i64 0, .string ⟨#[]⟩], .bool false]) := by
        show V = _
        have h := HF.out
        rw [List.take_length] at h
        rw [HV.out]; unfold fndV; rw [h]
      have HXR := Lib.hid HXR.out
      have HX3 := Lib.hid (setRow_heap _ _ _ #[.int .i64 0, .int .u32 0, .int .u32 0, .int .u32 0, .int .i64 0, .int .i64 0, .string ⟨#[]⟩] _ _ HXR.out)
      go_wp2_with (first
        | refine wpList_store_row rfl 31 (.tmp 4) (.tmp 21) rfl gx #[.int .i64 0, .int .u32 0, .int .u32 0, .int .u32 0, .int .i64 0, .int .i64 0, .string ⟨#[]⟩] rfl rfl 31 _ HXR.out info_nodeT rfl (by simp [Value.oneCell']) ?_
        | fail)
      rw [HVV.out]
      exact bodyPost_ret (results_ct_rowT rfl _ _ gx 31 _ (0, 0) _ rfl HX3.out Tryz.underlying31 rfl info_nodeT) rfl ⟨rfl, by rw [hgg]; exact below_setRow (HB1.out.trans (HB.out.mono (by have := HS.out; omega))) (Nat.le_refl _) _⟩
/-- The Kind of a path in a tree. -/
def kndL (l : List Itm) (p : ByteArray) : Int := if p.toList.isEmpty = true then 1 else match l.find? (fun X => X.s.toList == p.toList) with
  | some x => x.k
  | none => 0
set_option maxHeartbeats 4000000 in
theorem rkind_any (A : Option Addr) (c : Nat) (l : List Itm) (p : ByteArray) (w : World) (hR : Itms w A l) (hl : l.length ≤ 1000000) :
    Calls Tryz.prog 56 #[.slice A l.length c, .string p] w fun e w' => e = .returned (.int .i64 (kndL l p)) ∧ Below w.heap.size w w' := by
  have HF := Lib.hid (rfind_any A c l p w hR hl)
  have HK : Hid (kndL l p = _) := rfl
  unfold kndL at HK ⊢
  unfold fndV at HF
  have hinod := info_nodeT
  clear hR
  by_cases h0 : p.toList.isEmpty = true
  · rw [if_pos h0]
    have hpe : (p.toList == []) = true := by cases h : p.toList <;> simp_all
    go_enter Tryz.func56, Tryz.ntmps56
    go_wp2_with fail
    go_ret
    exact ⟨rfl, Below.refl _ _⟩
  · rw [if_neg h0]
    have hpe : (p.toList == []) = false := by cases h : p.toList <;> simp_all
    cases hf : l.find? (fun X => X.s.toList == p.toList) with
    | none =>
      rw [hf] at HF
      dsimp only at HF
      clear hf HK
      go_enter Tryz.func56, Tryz.ntmps56
      go_wp2_with fail
      refine HF.out.mono ?_; rintro e w1 ⟨rfl, hb⟩
      have HB := Lib.hid (hb.trans ((Below.refl _ w1).alloc (Nat.le_refl _) (.cells #[.int .i64 0, .int .u32 0, .int .u32 0, .int .u32 0, .int .i64 0, .int .i64 0, .string ⟨#[]⟩] 31) |>.mono hb.size))
      clear hb HF
      go_wp2_with fail
      go_ret
      exact ⟨rfl, HB.out⟩
    | some x =>
      rw [hf] at HF
      dsimp only at HF
      clear hf HK
      obtain ⟨x0, x1, x2, x3, x4, x5, x6, x7⟩ := x
      simp only [Itm.node] at HF ⊢
      go_enter Tryz.func56, Tryz.ntmps56
      go_wp2_with fail
      refine HF.out.mono ?_; rintro e w1 ⟨rfl, hb⟩
      have HB := Lib.hid (hb.trans ((Below.refl _ w1).alloc (Nat.le_refl _) (.cells #[.int .i64 x1, .int .u32 x2, .int .u32 x3, .int .u32 x4, .int .i64 x5, .int .i64 x6, .string x7] 31) |>.mono hb.size))
      clear hb HF
      go_wp2_with fail
      go_ret
      exact ⟨rfl, HB.out⟩
end Go.Proofs.YtpkhpaklhfomkaaGreatDoor
