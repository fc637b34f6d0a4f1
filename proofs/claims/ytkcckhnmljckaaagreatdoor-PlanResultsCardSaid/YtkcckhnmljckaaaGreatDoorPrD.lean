/-
  Plan: the chapter's example, second half: what is added; one item is at odds with none; Make.
-/
import Derived.Test.YtkcckhnmljckaaaGreatDoorPrC
namespace Go.Proofs.YtkcckhnmljckaaaGreatDoor
set_option maxRecDepth 100000
set_option linter.unusedSimpArgs false
set_option linter.unusedVariables false
open Go.RowKit Go.Joins Go.Deep Go.WideMaps
theorem parts_pact : (Tryz.prog.info? 47).map (fun i => (i.zero, i.size, i.bytes)) = some (some (.agg #[.int .i64 0, .int .i64 0, .int .i64 0]), 3, 24) := by kernel_rfl
theorem partsP : ∃ i0, Tryz.prog.info? 47 = some i0 ∧ i0.zero = some (.agg #[.int .i64 0, .int .i64 0, .int .i64 0]) ∧ i0.size = 3 ∧ i0.bytes = 24 := by
  have h := parts_pact
  cases hq : Tryz.prog.info? 47 with
  | none => rw [hq] at h; cases h
  | some i =>
    rw [hq] at h
    simp only [Option.map_some, Option.some.injEq, Prod.mk.injEq] at h
    exact ⟨i, rfl, h.1, h.2.1, h.2.2⟩
/-- The example's action. -/
def acA : Act3 := ⟨4, -1, 0⟩
/-- A row of the one action. -/
def OneA (w : World) (B : Nat) (v : Value) : Prop := w.ownsRow B 47 3 v 1 [.int .i64 4, .int .i64 (-1), .int .i64 0]
set_option maxHeartbeats 8000000 in
theorem addN_any (A : Option Addr) (w : World) (hT : Itms w A [itA]) : Calls Tryz.prog 18 #[.slice none 0 0, .slice A 1 1, .agg #[.slice none 0 0, .slice none 0 0]] w fun e w' => ∃ v, e = .returned (.tuple #[v, .int .i64 0]) ∧ OneA w' w.heap.size v ∧ Below w.heap.size w w' := by
  have hmm := @run_makeMap Tryz.prog
  have hif := info_filP
  have hir := info_item
  have hzu := zero_unitP
  obtain ⟨i0, hi, hz0, hz1, hz2⟩ := partsP
  have hb1 := below_alP w (.cells #[.slice none 0 0, .slice none 0 0] 45)
  have hx1 := heap_alloc_new w (.cells #[.slice none 0 0, .slice none 0 0] 45)
  have HB1 := Lib.hid hb1
  have HX1 := Lib.hid hx1
  have HT1 := Lib.hid (hT.below hb1)
  have HP := Lib.hid (pathsN_any (w.alloc (.cells #[.slice none 0 0, .slice none 0 0] 45)))
  have HG : Hid (w.heap.size ≤ w.heap.size) := Nat.le_refl _
  clear hT hb1 hx1
  go_enter Tryz.func18, Tryz.ntmps18
  go_upto_region 1 with fail
  generalize w.alloc (.cells #[.slice none 0 0, .slice none 0 0] 45) = w1 at *
  generalize hg1 : w.heap.size = g1 at *
  go_wp2_with fail
  refine HP.out.mono ?_; rintro e w2 ⟨rfl, hb2⟩
  have HM := Lib.hid (World.ownsMap_made (H := Unit) w2 Tryz.prog 9 unitElem)
  have hb3 := below_alP w2 (.map #[] 0)
  have HB3 : Hid (Below g1 w (w2.alloc (.map #[] 0))) := by subst hg1; exact below_then (below_then HB1.out hb2) hb3
  have HT3 := Lib.hid ((HT1.out.below hb2).below hb3)
  have HX3 := Lib.hid (((HX1.out : _)) |> fun h => (hb3.block _ (lt_of_heapP ((hb2.block _ (lt_of_heapP h)).trans h))).trans ((hb2.block _ (lt_of_heapP h)).trans h))
  have HGM : Hid (g1 ≤ w2.heap.size) := Nat.le_trans (Nat.le_of_lt (lt_of_heapP HX1.out)) hb2.size
  have HNE : Hid (g1 < w2.heap.size) := Nat.lt_of_lt_of_le (lt_of_heapP HX1.out) hb2.size
  clear hb2 hb3 HP HT1 HX1 HB1
  go_upto_region 5 with fail
  generalize hgm : w2.heap.size = gm at *
  clear hgm
  generalize w2.alloc (.map #[] 0) = w3 at *
  go_wp2_with fail
  refine wp_loop_rounds 1 ?_
  rw [rounds_succ]
  obtain ⟨b, off, rfl, c0, c1, c2, c3, c4, c5, c6, c7⟩ := one_cells HT3.out
  go_upto_region 11 with fail
  go_wp2_with fail
  refine wp_loop_rounds 2 ?_
  rw [rounds_succ]
  have hx4 := heap_alloc_new w3 (.cells itA.cells 42)
  have hb4 := below_alP w3 (.cells itA.cells 42)
  have HM4 := Lib.hid (HM.out.alloc (.cells itA.cells 42))
  have HX4 := Lib.hid hx4
  have HF4 := Lib.hid ((hb4.block _ (lt_of_heapP HX3.out)).trans HX3.out)
  have HB4 := Lib.hid (HB3.out.trans (hb4.mono (Nat.le_trans (Nat.le_of_lt (lt_of_heapP HX3.out)) (Nat.le_refl _))))
  simp only [Itm.cells, itA] at hx4 HM4 HX4 HF4 HB4
  have y0 := (cell_of_row _ _ 0 _ _ _ hx4).trans (show _ = some (.string ⟨#[97]⟩) from rfl)
  clear hx4 hb4 HM HB3 HT3 HX3
  go_upto_region 14 with fail
  generalize hgi : w3.heap.size = gi at *
  generalize w3.alloc (.cells #[.string ⟨#[97]⟩, .int .i64 2, .int .u32 0, .int .u32 0, .int .u32 0, .int .i64 0, .int .i64 0, .string ⟨#[]⟩] 42) = w4 at *
  have hha : Maps.has (DataW.map [] : DataW Unit) (.string [97]) = false := rfl
  have hb5 := below_alP w4 (.cells #[] 90)
  have HM5 := Lib.hid (HM4.out.alloc (.cells #[] 90))
  have hf5 := (hb5.block _ (lt_of_heapP HF4.out)).trans HF4.out
  have hx5 := (hb5.block _ (lt_of_heapP HX4.out)).trans HX4.out
  have HB5 := Lib.hid (HB4.out.trans (hb5.mono (Nat.le_of_lt (lt_of_heapP HF4.out))))
  have HTK := Lib.hid (takesP_nil (w4.alloc (.cells #[] 90)))
  simp only [Itm.cells, itA] at HTK
  have HX5 := Lib.hid hx5
  have HL5 : Hid (gm < (w4.alloc (.cells #[] 90)).heap.size ∧ g1 < (w4.alloc (.cells #[] 90)).heap.size) := ⟨HM5.out.lt, lt_of_heapP hf5⟩
  have v0 := (cell_of_row _ _ 0 _ _ _ hf5).trans (show _ = some (Value.slice none 0 0) from rfl)
  have v1 := (cell_of_row _ _ 1 _ _ _ hf5).trans (show _ = some (Value.slice none 0 0) from rfl)
  have u0 := (cell_of_row _ _ 0 _ _ _ hx5).trans (show _ = some (Value.string ⟨#[97]⟩) from rfl)
  have u1 := (cell_of_row _ _ 1 _ _ _ hx5).trans (show _ = some (Value.int .i64 2) from rfl)
  have u2 := (cell_of_row _ _ 2 _ _ _ hx5).trans (show _ = some (Value.int .u32 0) from rfl)
  have u3 := (cell_of_row _ _ 3 _ _ _ hx5).trans (show _ = some (Value.int .u32 0) from rfl)
  have u4 := (cell_of_row _ _ 4 _ _ _ hx5).trans (show _ = some (Value.int .u32 0) from rfl)
  have u5 := (cell_of_row _ _ 5 _ _ _ hx5).trans (show _ = some (Value.int .i64 0) from rfl)
  have u6 := (cell_of_row _ _ 6 _ _ _ hx5).trans (show _ = some (Value.int .i64 0) from rfl)
  have u7 := (cell_of_row _ _ 7 _ _ _ hx5).trans (show _ = some (Value.string ⟨#[]⟩) from rfl)
  clear hb5 hf5 hx5 HF4 HX4 HB4
  go_wp2_with (at_lookup; refine wpList_lookup_own_unit _ rfl _ _ 89 rfl 9 90 keyS Tryz.underlying89 (zero_unitP _) gm 0 _ rfl HM4.out _ _ rfl keyA ?_; rw [hha])
  refine HTK.out.mono ?_; rintro e w6 ⟨rfl, hb6⟩
  have HM6 := Lib.hid (HM5.out.kept (row := none) ⟨hb6.os, hb6.tape, hb6.output, hb6.size, fun i hi _ => hb6.block i hi⟩ (by simp))
  have HX6 := Lib.hid ((hb6.block _ (lt_of_heapP HX5.out)).trans HX5.out)
  have HB6 := Lib.hid (HB5.out.trans (hb6.mono (Nat.le_of_lt HL5.out.2)))
  have HL6 : Hid (gm < w6.heap.size ∧ g1 < w6.heap.size) := ⟨Nat.lt_of_lt_of_le HL5.out.1 hb6.size, Nat.lt_of_lt_of_le HL5.out.2 hb6.size⟩
  have HB7 := Lib.hid (HB6.out.trans ((below_alP w6 (.cells acA.cells 47)).mono (Nat.le_of_lt HL6.out.2)))
  have HM7 := Lib.hid (HM6.out.alloc (.cells acA.cells 47))
  have HX7 := Lib.hid (((below_alP w6 (.cells acA.cells 47)).block _ (lt_of_heapP HX6.out)).trans HX6.out)
  have HNW := Lib.hid (act_news w6 acA 47)
  have HON := Lib.hid (act_ones acA)
  simp only [Act3.cells, Act3.cellsL, acA] at HB7 HM7 HX7 HNW HON
  clear hb6 HTK HM5 HX5 HB5 HL5 HM4 v0 v1 u0 u1 u2 u3 u4 u5 u6 u7 y0
  have hg62 : g1 ≤ w6.heap.size + 1 := by have := HL6.out.2; omega
  go_wp2_with (at_builtin; refine wpList_append_own_at _ rfl (.tmp 58) (.tmp 61) _ rfl g1 47 i0 (.agg #[.int .i64 0, .int .i64 0, .int .i64 0]) 3 24 Tryz.underlying22 hi hz0 hz1 hz2 rfl (by decide) (.slice none 0 0) 0 [] rfl (World.ownsRow_nil _ _ _ _) ⟨w6.heap.size, 0, none⟩ 1 1 [.int .i64 4, .int .i64 (-1), .int .i64 0] rfl rfl ?c1 ?c2 ?c3 ?c4 ?c5 ?_)
  case c1 => exact HNW.out
  case c2 => exact HON.out
  case c3 => decide
  case c4 => decide
  case c5 => exact Nat.le_trans (Nat.le_of_lt HL6.out.2) (below_alP w6 _).size
  intro v8 w8 hown hgrow _ hfr
  have HM8 := Lib.hid (HM7.out.kept hgrow (by simp [Value.ownBlock]))
  have HX8 := Lib.hid ((hgrow.block _ (lt_of_heapP HX7.out) (by simp [Value.ownBlock])).trans HX7.out)
  have HB8 := Lib.hid (HB7.out.grown hgrow (Nat.le_trans (Nat.le_of_lt HL6.out.2) (below_alP w6 _).size) (fun k hk => by simp [Value.ownBlock] at hk))
  have HOW := Lib.hid hown
  have HSZ8 : Hid (w6.heap.size ≤ w8.heap.size) := Nat.le_trans (below_alP w6 _).size hgrow.size
  have HFR : Hid (v8.ownBlock ≠ some gm) := by
    intro h
    rw [h] at hfr
    rcases hfr with hfr | hfr
    · simp [Value.ownBlock] at hfr
    · injection hfr with hfr
      have := HL6.out.1
      try simp only [World.alloc, Array.size_push] at hfr
      omega
  have y0 := (cell_of_row _ _ 0 _ _ _ HX8.out).trans (show _ = some (.string ⟨#[97]⟩) from rfl)
  clear hown hgrow hfr HX7 HX8 HM7 HB7 HB6 HM6 HX6 HNW HON
  go_wp2_with (at_mapUpdate; refine wpList_mapUpdate_own _ rfl _ _ _ 89 rfl 9 90 keyS Tryz.underlying89 _ gm 0 _ rfl HM8.out (by unfold maxLen; omega) _ _ _ rfl rfl keyA (.agg []) [] unitElem_mk ?_; intro w9 hown9 hgrow9)
  rw [rounds_succ]
  have HB9 : Hid (Below g1 w w9) := HB8.out.grown hgrow9 (Nat.le_trans (Nat.le_of_lt HL6.out.2) HSZ8.out) (fun k hk => by injection hk with hk; subst hk; exact HGM.out)
  have HO9 : Hid (OneA w9 g1 v8) := HOW.out.kept hgrow9 (.inr HFR.out)
  clear hown9 hgrow9
  go_wp2_with fail
  go_ret2
  exact ⟨v8, rfl, by subst hg1; exact HO9.out, by subst hg1; exact HB9.out⟩
end Go.Proofs.YtkcckhnmljckaaaGreatDoor
