/-
  Trees: Drop, Find.
-/
import Derived.Test.YtpkhpaklhfomkaaDoorTpB
namespace Go.Proofs.YtpkhpaklhfomkaaDoor
set_option maxRecDepth 100000
set_option linter.unusedSimpArgs false
set_option linter.unusedVariables false
open Go.RowKit Go.Joins Go.Deep
open Go.Lib hiding intOf
/-- What Drop leaves. -/
def drpL (p : ByteArray) (l : List Itm) : List Itm := l.filter (fun X => !(undB X.s p))
set_option maxHeartbeats 4000000 in
theorem tdrop_any (A : Option Addr) (c : Nat) (l : List Itm) (p : ByteArray) (w : World) (hR : Itms w A l) (hl : l.length ≤ 100000) :
    Calls Tryd.prog 8 #[.slice A l.length c, .string p] w fun e w' => ∃ A' c', e = .returned (.slice A' (drpL p l).length c') ∧ NewB w' w.heap.size c' A' (drpL p l) ∧ Below w.heap.size w w' := by
  obtain ⟨W1, hW1⟩ : ∃ W1, W1 = w.alloc (.cells #[.string p] 9) := ⟨_, rfl⟩
  have hb1 := (Below.refl w.heap.size w).alloc (Nat.le_refl _) (.cells #[.string p] 9)
  have hx1 := heap_alloc_new w (.cells #[.string p] 9)
  have hs1 : (w.alloc (.cells #[.string p] 9)).heap.size = w.heap.size + 1 := by simp only [World.alloc, Array.size_push]
  rw [← hW1] at hb1 hx1 hs1
  have hC := withoutD_any A c l p w.heap.size W1 (hR.below hb1) hl ⟨by omega, (cell_of_row _ _ 0 _ _ _ hx1).trans rfl⟩
  have HC := Lib.hid hC
  have HB1 := Lib.hid hb1
  have HS1 := Lib.hid hs1
  have HW1 := Lib.hid hW1
  clear hb1 hx1 hC hR hs1 hW1
  go_enter Tryd.func8, Tryd.ntmps8
  go_upto_region 1 with fail
  rw [← HW1.out]
  generalize hgg : w.heap.size = gx at *
  go_wp2_with fail
  refine HC.out.mono ?_; rintro e w3 ⟨A1, c1, rfl, hlc, hN, hb3⟩
  have HB3 := Lib.hid hb3
  have HN := Lib.hid hN
  clear hN hb3 HC
  go_wp2_with fail
  go_ret
  refine ⟨A1, c1, rfl, ?_, ?_⟩
  · rcases HN.out with h | ⟨g1, e, hg1, hic⟩
    · exact .inl h
    · exact .inr ⟨g1, e, by have := HS1.out; omega, hic⟩
  · subst hgg
    exact HB1.out.trans (HB3.out.mono (by have := HS1.out; omega))
theorem results_ct_rowT {P : Program} {fn : Func} {p u : Tmp} {ty : TypeId} (h : fn.results = #[.cell p ty, .tmp u]) (tmps : Array Value) (w : World) (g : Nat) (t : TypeId) (cs : Array Value) (fr : Nat × Nat) (d : TypeDesc)
    (hp : tmps.getD p undef = .pointer (some ⟨g, 0, none⟩)) (hg : w.heap[g]? = some (.cells cs t fr))
    (hu : P.underlying ty = some d) (hd : (match d with | .struct _ | .array _ _ => true | _ => false) = true) (hi : (P.info? ty).map (·.size) = some cs.size) :
    (results fn tmps).run P w = .ok (.tuple #[.agg cs, tmps.getD u undef]) w := by
  rw [results_cell_tmp h, hp]
  simp [asAddr, run_loadVar_row w g t ty cs fr d hg hu hd hi, Result.andThen]
theorem info_nodeT : (Tryd.prog.info? 25).map (·.size) = some 7 := by kernel_rfl
/-- A node's cells. -/
def Itm.node (x : Itm) : Array Value := #[.int .i64 x.k, .int .u32 x.m, .int .u32 x.u, .int .u32 x.g, .int .i64 x.t, .int .i64 x.a, .string x.d]
/-- What Find answers. -/
def fndV (l : List Itm) (p : ByteArray) : Value := match l.find? (fun X => X.s.toList == p.toList) with
  | some x => .tuple #[.agg x.node, .bool true]
  | none => .tuple #[.agg #[.int .i64 0, .int .u32 0, .int .u32 0, .int .u32 0, .int .i64 0, .int .i64 0, .string ⟨#[]⟩], .bool false]
theorem find_take {α : Type} (q : α → Bool) (l : List α) (k : Nat) (h : k < l.length) (h0 : (l.take k).find? q = none) (hq : q l[k] = true) : l.find? q = some l[k] := by
  have h1 : (l.take k ++ l.drop k).find? q = some l[k] := by
    rw [List.find?_append, h0, Option.none_or, List.drop_eq_getElem_cons h, List.find?_cons, hq]
  rwa [List.take_append_drop] at h1
theorem find_take_no {α : Type} (q : α → Bool) (l : List α) (k : Nat) (h : k < l.length) (h0 : (l.take k).find? q = none) (hq : q l[k] = false) : (l.take (k + 1)).find? q = none := by
  rw [List.take_succ_eq_append_getElem h, List.find?_append, h0]
  simp [hq]
set_option maxHeartbeats 8000000 in
theorem tfind_any (A : Option Addr) (c : Nat) (l : List Itm) (p : ByteArray) (w : World) (hR : Itms w A l) (hl : l.length ≤ 1000000) :
    Calls Tryd.prog 7 #[.slice A l.length c, .string p] w fun e w' => e = .returned (fndV l p) ∧ Below w.heap.size w w' := by
  have hir := info_item
  obtain ⟨W1, hW1⟩ : ∃ W1, W1 = w.alloc (.cells #[.int .i64 0, .int .u32 0, .int .u32 0, .int .u32 0, .int .i64 0, .int .i64 0, .string ⟨#[]⟩] 25) := ⟨_, rfl⟩
  have hb1 := (Below.refl w.heap.size w).alloc (Nat.le_refl _) (.cells #[.int .i64 0, .int .u32 0, .int .u32 0, .int .u32 0, .int .i64 0, .int .i64 0, .string ⟨#[]⟩] 25)
  have hx1 := heap_alloc_new w (.cells #[.int .i64 0, .int .u32 0, .int .u32 0, .int .u32 0, .int .i64 0, .int .i64 0, .string ⟨#[]⟩] 25)
  have hs1 : (w.alloc (.cells #[.int .i64 0, .int .u32 0, .int .u32 0, .int .u32 0, .int .i64 0, .int .i64 0, .string ⟨#[]⟩] 25)).heap.size = w.heap.size + 1 := by simp only [World.alloc, Array.size_push]
  rw [← hW1] at hb1 hx1 hs1
  have HR := Lib.hid (hR.below hb1)
  have HX := Lib.hid hx1
  have HS := Lib.hid hs1
  have HB1 := Lib.hid hb1
  have HW1 := Lib.hid hW1
  obtain ⟨V, hV⟩ : ∃ V, V = fndV l p := ⟨_, rfl⟩
  rw [← hV]
  have HV := Lib.hid hV
  clear hR hV hb1 hx1 hs1 hW1
  go_enter Tryd.func7, Tryd.ntmps7
  go_wp2_with fail
  rw [← HW1.out]
  generalize hgg : w.heap.size = gx at *
  go_loopw [10] (fun v10 wr => ∃ k : Nat, k ≤ l.length ∧ v10 = .int .i64 (k : Nat) ∧ Hid ((l.take k).find? (fun X => X.s.toList == p.toList) = none) ∧ Hid (Below W1.heap.size W1 wr)) (fun v _ => l.length - (intOf v).toNat)
  case atStart => exact ⟨0, Nat.zero_le _, rfl, rfl, Below.refl _ _⟩
  case round =>
    obtain ⟨k, hk, rfl, HF, HB⟩ := hrel
    have HXR : Hid (wr.heap[gx]? = _) := (HB.out.block gx (by have := HS.out; omega)).trans HX.out
    by_cases hlt : k < l.length
    · have hd : decide ((k : Int) < (l.length : Int)) = true := decide_eq_true (by omega)
      obtain ⟨b, off, rfl, hb, hcc⟩ := (HR.out.below HB.out) (by omega)
      obtain ⟨c0, c1, c2, c3, c4, c5, c6, c7⟩ := hcc k l[k] (List.getElem?_eq_getElem hlt)
      have HFT := Lib.hid (find_take (fun X => X.s.toList == p.toList) l k hlt HF.out)
      have HFN := Lib.hid (find_take_no (fun X => X.s.toList == p.toList) l k hlt HF.out)
      have hx0 := heap_alloc_new wr (.cells l[k].cells 38)
      have HB2 := Lib.hid (HB.out.alloc HB.out.size (.cells l[k].cells 38))
      have HX2 := Lib.hid (((below_al wr (.cells l[k].cells 38)).block gx (lt_of_block HXR.out)).trans HXR.out)
      simp only [Itm.cells] at hx0 HB2 HX2
      generalize hx : l[k] = x at *
      obtain ⟨x0, x1, x2, x3, x4, x5, x6, x7⟩ := x
      dsimp only at c0 c1 c2 c3 c4 c5 c6 c7 HB2 hx0 HX2
      have HLX := Lib.hid hx
      have d0 := (cell_of_row _ _ 0 _ _ _ hx0).trans (show _ = some (.string x0) from rfl)
      have d1 := (cell_of_row _ _ 1 _ _ _ hx0).trans (show _ = some (.int .i64 x1) from rfl)
      have d2 := (cell_of_row _ _ 2 _ _ _ hx0).trans (show _ = some (.int .u32 x2) from rfl)
      have d3 := (cell_of_row _ _ 3 _ _ _ hx0).trans (show _ = some (.int .u32 x3) from rfl)
      have d4 := (cell_of_row _ _ 4 _ _ _ hx0).trans (show _ = some (.int .u32 x4) from rfl)
      have d5 := (cell_of_row _ _ 5 _ _ _ hx0).trans (show _ = some (.int .i64 x5) from rfl)
      have d6 := (cell_of_row _ _ 6 _ _ _ hx0).trans (show _ = some (.int .i64 x6) from rfl)
      have d7 := (cell_of_row _ _ 7 _ _ _ hx0).trans (show _ = some (.string x7) from rfl)
      clear hcc hx hx0
      by_cases hq : (x0.toList == p.toList) = true
      · have HVV : Hid (V = .tuple #[.agg #[.int .i64 x1, .int .u32 x2, .int .u32 x3, .int .u32 x4, .int .i64 x5, .int .i64 x6, .string x7], .bool true]) := by
          show V = _
          rw [HV.out]; unfold fndV; rw [HFT.out hq]; rfl
        have hxr := HX2.out
        clear HFN HFT HV HR HF HX
        go_wp2_with (first
          | refine wpList_store_row rfl 25 (.tmp 4) (.tmp 19) rfl gx #[.int .i64 x1, .int .u32 x2, .int .u32 x3, .int .u32 x4, .int .i64 x5, .int .i64 x6, .string x7] rfl rfl 25 _ HX2.out info_nodeT rfl (by simp [Value.oneCell']) ?_
          | fail)
        have HX3 := Lib.hid (setRow_heap _ _ _ #[.int .i64 x1, .int .u32 x2, .int .u32 x3, .int .u32 x4, .int .i64 x5, .int .i64 x6, .string x7] _ _ HX2.out)
        rw [HVV.out]
        exact bodyPost_ret (results_ct_rowT rfl _ _ gx 25 _ (0, 0) _ rfl HX3.out Tryd.underlying25 rfl info_nodeT) rfl ⟨rfl, by rw [hgg]; exact below_setRow (HB1.out.trans (HB2.out.mono (by have := HS.out; omega))) (Nat.le_refl _) _⟩
      · have hq := Bool.eq_false_iff.2 hq
        have HF2 := Lib.hid (HFN.out hq)
        clear HFN HFT HV HR HF HX
        go_wp2_with fail
        go_roundw
        case rel => exact ⟨k + 1, by omega, by go_num, HF2, HB2⟩
        case measure => simp [intOf]; omega
    · obtain rfl : k = l.length := by omega
      have hd : decide ((l.length : Int) < (l.length : Int)) = false := decide_eq_false (by omega)
      have HVV : Hid (V = .tuple #[.agg #[.int .i64 0, .int .u32 0, .int .u32 0, .int .u32 0, .int .i64 0, .int .i64 0, .string ⟨#[]⟩], .bool false]) := by
        show V = _
        have h := HF.out
        rw [List.take_length] at h
        rw [HV.out]; unfold fndV; rw [h]
      have HXR := Lib.hid HXR.out
      have HX3 := Lib.hid (setRow_heap _ _ _ #[.int .i64 0, .int .u32 0, .int .u32 0, .int .u32 0, .int .i64 0, .int .i64 0, .string ⟨#[]⟩] _ _ HXR.out)
      go_wp2_with (first
        | refine wpList_store_row rfl 25 (.tmp 4) (.tmp 21) rfl gx #[.int .i64 0, .int .u32 0, .int .u32 0, .int .u32 0, .int .i64 0, .int .i64 0, .string ⟨#[]⟩] rfl rfl 25 _ HXR.out info_nodeT rfl (by simp [Value.oneCell']) ?_
        | fail)
      rw [HVV.out]
      exact bodyPost_ret (results_ct_rowT rfl _ _ gx 25 _ (0, 0) _ rfl HX3.out Tryd.underlying25 rfl info_nodeT) rfl ⟨rfl, by rw [hgg]; exact below_setRow (HB1.out.trans (HB.out.mono (by have := HS.out; omega))) (Nat.le_refl _) _⟩
end Go.Proofs.YtpkhpaklhfomkaaDoor
