/-
  Plan: the chapter's example, first half: no entries, one item, no patterns.
-/
import Derived.Test.YtkcckhnmljckaaaGreatDoorPrB
import Derived.Maps.OwnSet
import Derived.StringKeys
namespace Go.Proofs.YtkcckhnmljckaaaGreatDoor
set_option maxRecDepth 100000
set_option linter.unusedSimpArgs false
set_option linter.unusedVariables false
open Go.RowKit Go.Joins Go.Deep Go.WideMaps
theorem keyS : Maps.Keyed Tryz.prog 9 := Maps.string_keyed Tryz.underlying9
theorem zero_unitP (w : World) : (zeroValue 90).run Tryz.prog w = .ok (.agg #[]) w := by kernel_rfl
theorem info_filP : (Tryz.prog.info? 45).map (·.size) = some 2 := by kernel_rfl
/-- The example's item. -/
def itA : Itm := ⟨⟨#[97]⟩, 2, 0, 0, 0, 0, 0, ⟨#[]⟩⟩
theorem one_cells {w : World} {A : Option Addr} (h : Itms w A [itA]) : ∃ b off, A = some ⟨b, off, none⟩ ∧ w.cell? ⟨b, off, none⟩ = some (.string ⟨#[97]⟩) ∧ w.cell? ⟨b, off + 1, none⟩ = some (.int .i64 2) ∧ w.cell? ⟨b, off + 2, none⟩ = some (.int .u32 0) ∧ w.cell? ⟨b, off + 3, none⟩ = some (.int .u32 0) ∧ w.cell? ⟨b, off + 4, none⟩ = some (.int .u32 0) ∧ w.cell? ⟨b, off + 5, none⟩ = some (.int .i64 0) ∧ w.cell? ⟨b, off + 6, none⟩ = some (.int .i64 0) ∧ w.cell? ⟨b, off + 7, none⟩ = some (.string ⟨#[]⟩) := by
  obtain ⟨b, off, e, _, hc⟩ := h (by decide)
  have := hc 0 itA rfl
  rw [Nat.zero_mul, Nat.add_zero] at this
  exact ⟨b, off, e, this⟩
theorem keyA : keyOf Tryz.prog 9 (.string ⟨#[97]⟩) = some (.string [97]) := keyOf_string_mk Tryz.underlying9 (by decide)
set_option maxHeartbeats 4000000 in
theorem pathsN_any (w : World) : Calls Tryz.prog 26 #[.slice none 0 0] w fun e w' => e = .returned (.tuple #[.slice none 0 0, .int .i64 0]) ∧ Below w.heap.size w w' := by
  have hmm := @run_makeMap Tryz.prog
  have HM := Lib.hid (World.ownsMap_made (H := Unit) w Tryz.prog 9 unitElem)
  have HB := Lib.hid (below_alP w (.map #[] 0))
  go_enter Tryz.func26, Tryz.ntmps26
  go_upto_region 3 with fail
  generalize w.alloc (.map #[] 0) = w1 at *
  go_wp2_with fail
  refine wp_loop_rounds 1 ?_
  rw [rounds_succ]
  have hsz : (Maps.size (DataW.map [] : DataW Unit)) = 0 := rfl
  go_upto_region 12 with fail
  go_wp2_with (refine wpList_len_own _ rfl (.tmp 35) 89 rfl 9 90 Tryz.underlying89 unitElem w.heap.size 0 _ rfl HM.out ?_; rw [hsz])
  go_ret2
  exact ⟨rfl, HB.out⟩
set_option maxHeartbeats 4000000 in
theorem matchN_any (A : Option Addr) (w : World) (hT : Itms w A [itA]) : Calls Tryz.prog 28 #[.slice none 0 0, .slice A 1 1] w fun e w' => e = .returned (.tuple #[.slice none 0 0, .int .i64 0]) ∧ Below w.heap.size w w' := by
  have hmm := @run_makeMap Tryz.prog
  have hir := info_item
  have HP := Lib.hid (pathsN_any w)
  have HT := Lib.hid hT
  clear hT
  go_enter Tryz.func28, Tryz.ntmps28
  go_wp2_with fail
  refine HP.out.mono ?_; rintro e w1 ⟨rfl, hb1⟩
  have HM := Lib.hid (World.ownsMap_made (H := Unit) w1 Tryz.prog 9 (plainElem Tryz.prog 3))
  have HB1 := Lib.hid (below_then hb1 (below_alP w1 (.map #[] 0)))
  have HT1 := Lib.hid ((HT.out.below hb1).below (below_alP w1 (.map #[] 0)))
  clear HP HT
  go_upto_region 5 with fail
  have HGM : Hid (w.heap.size ≤ w1.heap.size) := hb1.size
  clear hb1
  generalize hgm : w1.heap.size = gm at *
  clear hgm
  generalize w1.alloc (.map #[] 0) = w2 at *
  obtain ⟨b, off, rfl, c0, c1, c2, c3, c4, c5, c6, c7⟩ := one_cells HT1.out
  have hx0 := heap_alloc_new w2 (.cells itA.cells 42)
  have HM2 := Lib.hid (HM.out.alloc (.cells itA.cells 42))
  have HB2 := Lib.hid (HB1.out.alloc HB1.out.size (.cells itA.cells 42))
  simp only [Itm.cells, itA] at hx0 HM2 HB2
  have y0 := (cell_of_row _ _ 0 _ _ _ hx0).trans (show _ = some (.string ⟨#[97]⟩) from rfl)
  clear HM HB1 HT1
  go_wp2_with fail
  refine wp_loop_rounds 2 ?_
  rw [rounds_succ]
  go_upto_region 8 with fail
  generalize w2.alloc (.cells #[.string ⟨#[97]⟩, .int .i64 2, .int .u32 0, .int .u32 0, .int .u32 0, .int .i64 0, .int .i64 0, .string ⟨#[]⟩] 42) = w3 at *
  have HM3 : Hid (w3.ownsMap Tryz.prog 9 (plainElem Tryz.prog 3) gm 0 (.map [] : DataW Unit)) := HM2.out
  have hzi : (zeroValue 3).run Tryz.prog w3 = .ok (.int .i64 0) w3 := by kernel_rfl
  have HPE := Lib.hid (plainElem_int (H := Unit) Tryz.underlying3 (show (Lit.int .i64 0).wf = true by decide))
  have hha : Maps.has (DataW.map [] : DataW Unit) (.string [97]) = false := rfl
  clear HM2
  go_wp2_with (first | (at_lookup; refine wpList_lookup_own_ok_int _ rfl _ _ 111 rfl 9 3 .i64 keyS Tryz.underlying111 Tryz.underlying3 hzi gm 0 _ rfl HM3.out _ _ rfl keyA ?_; intro cz _ _; rw [hha]) | (at_mapUpdate; refine wpList_mapUpdate_own _ rfl _ _ _ 111 rfl 9 3 keyS Tryz.underlying111 _ gm 0 _ rfl HM3.out (by unfold maxLen; omega) _ _ _ rfl rfl keyA (.lit (.int .i64 0)) [] HPE.out ?_; intro w6 hown6 hgrow6))
  rw [rounds_succ]
  have HB6 : Hid (Below w.heap.size w w6) := HB2.out.grown hgrow6 HB2.out.size (fun k hk => by injection hk with hk; subst hk; exact HGM.out)
  clear hown6 hgrow6 HM3
  go_wp2_with fail
  refine wp_loop_rounds 1 ?_
  rw [rounds_succ]
  go_wp2_with fail
  go_ret2
  exact ⟨rfl, HB6.out⟩
set_option maxHeartbeats 4000000 in
theorem ofEntN_any (A : Option Addr) (w : World) (hT : Itms w A [itA]) : Calls Tryz.prog 17 #[.int .i64 1, .slice none 0 0, .slice A 1 1, .agg #[.slice none 0 0, .slice none 0 0]] w fun e w' => e = .returned (.tuple #[.slice none 0 0, .int .i64 0]) ∧ Below w.heap.size w w' := by
  have hif := info_filP
  have hb1 := below_alP w (.cells #[.slice none 0 0, .slice none 0 0] 45)
  have HB1 := Lib.hid hb1
  have HP := Lib.hid (matchN_any A _ (hT.below hb1))
  clear hT hb1
  go_enter Tryz.func17, Tryz.ntmps17
  go_upto_region 1 with fail
  generalize w.alloc (.cells #[.slice none 0 0, .slice none 0 0] 45) = w1 at *
  go_wp2_with fail
  refine HP.out.mono ?_; rintro e w2 ⟨rfl, hb2⟩
  have HB2 := Lib.hid (below_then HB1.out hb2)
  clear hb2 HP HB1
  go_wp2_with fail
  refine wp_loop_rounds 1 ?_
  rw [rounds_succ]
  go_wp2_with fail
  go_ret2
  exact ⟨rfl, HB2.out⟩
/-! ### No patterns -/
set_option maxHeartbeats 4000000 in
theorem indexP_nil (F : Value) (w : World) (hF : ∃ a b c, F = .func a b c) : Calls Tryz.prog 125 #[.slice none 0 0, F] w fun e w' => e = .returned (.int .i64 (-1)) ∧ w' = w := by
  obtain ⟨fa, fb, fc, rfl⟩ := hF
  go_enter Tryz.func125, Tryz.ntmps125
  go_wp2_with fail
  refine wp_loop_rounds 1 ?_
  rw [rounds_succ]
  go_wp2_with fail
  go_ret
  exact ⟨rfl, rfl⟩
theorem containsP_nil (F : Value) (w : World) (hF : ∃ a b c, F = .func a b c) : Calls Tryz.prog 112 #[.slice none 0 0, F] w fun e w' => e = .returned (.bool false) ∧ w' = w := by
  have H := Lib.hid (indexP_nil F w hF)
  obtain ⟨fa, fb, fc, rfl⟩ := hF
  go_enter Tryz.func112, Tryz.ntmps112
  go_wp2_with fail
  refine H.out.mono ?_; rintro e w1 ⟨rfl, rfl⟩
  go_wp2_with fail
  go_ret
  exact ⟨rfl, rfl⟩
theorem anyP_nil (s : ByteArray) (w : World) : Calls Tryz.prog 98 #[.slice none 0 0, .string s] w fun e w' => e = .returned (.bool false) ∧ Below w.heap.size w w' := by
  have HB := Lib.hid (below_alP w (.cells #[.string s] 9))
  have H := Lib.hid (fun F h => containsP_nil F (w.alloc (.cells #[.string s] 9)) h)
  go_enter Tryz.func98, Tryz.ntmps98
  go_upto_region 1 with fail
  generalize w.alloc (.cells #[.string s] 9) = w1 at *
  go_wp2_with fail
  refine (H.out _ ⟨_, _, _, rfl⟩).mono ?_; rintro e w2 ⟨rfl, rfl⟩
  go_wp2_with fail
  go_ret
  exact ⟨rfl, HB.out⟩
theorem matchedN_any (s : ByteArray) (w : World) : Calls Tryz.prog 71 #[.slice none 0 0, .string s, .bool false] w fun e w' => e = .returned (.bool false) ∧ Below w.heap.size w w' := by
  have H := Lib.hid (anyP_nil s w)
  go_enter Tryz.func71, Tryz.ntmps71
  go_wp2_with fail
  refine H.out.mono ?_; rintro e w1 ⟨rfl, hb1⟩
  have HB := Lib.hid hb1
  clear hb1
  go_wp2_with fail
  go_ret
  exact ⟨rfl, HB.out⟩
set_option maxHeartbeats 4000000 in
theorem takesF_nil (s : ByteArray) (w : World) : Calls Tryz.prog 46 #[.agg #[.slice none 0 0, .slice none 0 0], .string s, .bool false] w fun e w' => e = .returned (.bool true) ∧ Below w.heap.size w w' := by
  have hif := info_filP
  have hx0 := heap_alloc_new w (.cells #[.slice none 0 0, .slice none 0 0] 45)
  have HB := Lib.hid (below_alP w (.cells #[.slice none 0 0, .slice none 0 0] 45))
  have H := Lib.hid (matchedN_any s (w.alloc (.cells #[.slice none 0 0, .slice none 0 0] 45)))
  have z0 := (cell_of_row _ _ 0 _ _ _ hx0).trans (show _ = some (Value.slice none 0 0) from rfl)
  have z1 := (cell_of_row _ _ 1 _ _ _ hx0).trans (show _ = some (Value.slice none 0 0) from rfl)
  clear hx0
  go_enter Tryz.func46, Tryz.ntmps46
  go_upto_region 1 with fail
  generalize w.alloc (.cells #[.slice none 0 0, .slice none 0 0] 45) = w1 at *
  go_wp2_with fail
  refine H.out.mono ?_; rintro e w2 ⟨rfl, hb2⟩
  have HB2 := Lib.hid (below_then HB.out hb2)
  clear hb2
  go_wp2_with fail
  go_ret
  exact ⟨rfl, HB2.out⟩
set_option maxHeartbeats 4000000 in
theorem takesP_nil (w : World) : Calls Tryz.prog 29 #[.agg #[.slice none 0 0, .slice none 0 0], .agg itA.cells] w fun e w' => e = .returned (.bool true) ∧ Below w.heap.size w w' := by
  have hif := info_filP
  have hir := info_item
  have hx0 := heap_alloc_new w (.cells #[.slice none 0 0, .slice none 0 0] 45)
  have hb0 := below_alP w (.cells #[.slice none 0 0, .slice none 0 0] 45)
  have hx1 := heap_alloc_new (w.alloc (.cells #[.slice none 0 0, .slice none 0 0] 45)) (.cells itA.cells 42)
  have hb1 := below_alP (w.alloc (.cells #[.slice none 0 0, .slice none 0 0] 45)) (.cells itA.cells 42)
  have hy0 := (hb1.block _ (lt_of_heapP hx0)).trans hx0
  rw [show (w.alloc (.cells #[.slice none 0 0, .slice none 0 0] 45)).heap.size = w.heap.size + 1 from by simp only [World.alloc, Array.size_push]] at hx1
  have HB := Lib.hid (below_then hb0 hb1)
  have H := Lib.hid (takesF_nil ⟨#[97]⟩ ((w.alloc (.cells #[.slice none 0 0, .slice none 0 0] 45)).alloc (.cells itA.cells 42)))
  have HY := Lib.hid hy0
  simp only [Itm.cells, itA] at hx1 HB H HY
  have z0 := (cell_of_row _ _ 0 _ _ _ hx1).trans (show _ = some (Value.string ⟨#[97]⟩) from rfl)
  have z1 := (cell_of_row _ _ 1 _ _ _ hx1).trans (show _ = some (Value.int .i64 2) from rfl)
  simp only [Itm.cells, itA]
  clear hx0 hb0 hx1 hb1 hy0
  go_enter Tryz.func29, Tryz.ntmps29
  have HSZ : Hid (w.heap.size ≤ _) := HB.out.size
  go_upto_region 1 with fail
  generalize hgg : w.heap.size = g at *
  generalize (w.alloc (.cells #[.slice none 0 0, .slice none 0 0] 45)).alloc (.cells #[.string ⟨#[97]⟩, .int .i64 2, .int .u32 0, .int .u32 0, .int .u32 0, .int .i64 0, .int .i64 0, .string ⟨#[]⟩] 42) = w2 at *
  go_wp2_with (refine wpList_load_row rfl 45 (.tmp 2) rfl g rfl 45 _ (0, 0) _ HY.out Tryz.underlying45 rfl info_filP ?_)
  refine H.out.mono ?_; rintro e w3 ⟨rfl, hb3⟩
  have HB3 := Lib.hid hb3
  clear hb3
  go_wp2_with fail
  go_ret
  exact ⟨rfl, by subst hgg; exact HB.out.trans (HB3.out.mono HSZ.out)⟩
end Go.Proofs.YtkcckhnmljckaaaGreatDoor
