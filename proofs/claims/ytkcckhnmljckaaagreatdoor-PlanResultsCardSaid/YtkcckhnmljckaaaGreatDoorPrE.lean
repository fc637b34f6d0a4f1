/-
  Plan: the chapter's example: one item is at odds with none; actions; Make; awake.
-/
import Derived.Test.YtkcckhnmljckaaaGreatDoorPrD
namespace Go.Proofs.YtkcckhnmljckaaaGreatDoor
set_option maxRecDepth 100000
set_option linter.unusedSimpArgs false
set_option linter.unusedVariables false
open Go.RowKit Go.Joins Go.Deep Go.WideMaps
theorem parts_intP : (Tryz.prog.info? 3).map (fun i => (i.zero, i.size, i.bytes)) = some (some (.int .i64 0), 1, 8) := by kernel_rfl
theorem partsInt : ∃ i0, Tryz.prog.info? 3 = some i0 ∧ i0.zero = some (.int .i64 0) ∧ i0.size = 1 ∧ i0.bytes = 8 := by
  have h := parts_intP
  cases hq : Tryz.prog.info? 3 with
  | none => rw [hq] at h; cases h
  | some i =>
    rw [hq] at h
    simp only [Option.map_some, Option.some.injEq, Prod.mk.injEq] at h
    exact ⟨i, rfl, h.1, h.2.1, h.2.2⟩
theorem parts_barP : (Tryz.prog.info? 78).map (fun i => (i.zero, i.size, i.bytes)) = some (some (.agg #[.string ⟨#[]⟩, .int .i64 0]), 2, 24) := by kernel_rfl
theorem partsBar : ∃ i0, Tryz.prog.info? 78 = some i0 ∧ i0.zero = some (.agg #[.string ⟨#[]⟩, .int .i64 0]) ∧ i0.size = 2 ∧ i0.bytes = 24 := by
  have h := parts_barP
  cases hq : Tryz.prog.info? 78 with
  | none => rw [hq] at h; cases h
  | some i =>
    rw [hq] at h
    simp only [Option.map_some, Option.some.injEq, Prod.mk.injEq] at h
    exact ⟨i, rfl, h.1, h.2.1, h.2.2⟩
/-! ### One place in order -/
theorem insert1_any (A : Option Addr) (c : Nat) (F : Value) (w : World) (hF : ∃ a b c, F = .func a b c) : Calls Tryz.prog 93 #[.slice A 1 c, .int .i64 0, .int .i64 1, F] w fun e w' => e = .returned (.tuple #[]) ∧ w' = w := by
  obtain ⟨fa, fb, fc, rfl⟩ := hF
  go_enter Tryz.func93, Tryz.ntmps93
  go_wp2_with fail
  refine wp_loop_rounds 1 ?_
  rw [rounds_succ]
  go_wp2_with fail
  go_end0
  exact ⟨rfl, rfl⟩
set_option maxHeartbeats 4000000 in
theorem stable1_any (A : Option Addr) (c : Nat) (F : Value) (w : World) (hF : ∃ a b c, F = .func a b c) : Calls Tryz.prog 66 #[.slice A 1 c, .int .i64 1, F] w fun e w' => e = .returned (.tuple #[]) ∧ w' = w := by
  have H := Lib.hid (insert1_any A c F w hF)
  obtain ⟨fa, fb, fc, rfl⟩ := hF
  go_enter Tryz.func66, Tryz.ntmps66
  go_wp2_with fail
  refine wp_loop_rounds 1 ?_
  rw [rounds_succ]
  go_wp2_with fail
  refine H.out.mono ?_; rintro e w1 ⟨rfl, rfl⟩
  go_wp2_with fail
  refine wp_loop_rounds 1 ?_
  rw [rounds_succ]
  go_wp2_with fail
  go_end0
  exact ⟨rfl, rfl⟩
theorem sort1_any (A : Option Addr) (c : Nat) (F : Value) (w : World) (hF : ∃ a b c, F = .func a b c) : Calls Tryz.prog 41 #[.slice A 1 c, F] w fun e w' => e = .returned (.tuple #[]) ∧ w' = w := by
  have H := Lib.hid (stable1_any A c F w hF)
  obtain ⟨fa, fb, fc, rfl⟩ := hF
  go_enter Tryz.func41, Tryz.ntmps41
  go_wp2_with fail
  refine H.out.mono ?_; rintro e w1 ⟨rfl, rfl⟩
  go_wp2_with fail
  go_end0
  exact ⟨rfl, rfl⟩
set_option maxHeartbeats 4000000 in
theorem byPath1_any (A : Option Addr) (c : Nat) (w : World) : Calls Tryz.prog 24 #[.slice A 1 c] w fun e w' => ∃ g c', e = .returned (.slice (some ⟨g, 0, none⟩) 1 c') ∧ w'.cell? ⟨g, 0, none⟩ = some (.int .i64 0) ∧ Below w.heap.size w w' := by
  obtain ⟨i0, hi, hz0, hz1, hz2⟩ := partsInt
  have hx0 := heap_alloc_new w (.cells #[.slice A 1 c] 23)
  have hb0 := below_alP w (.cells #[.slice A 1 c] 23)
  have y0 := (cell_of_row _ _ 0 _ _ _ hx0).trans (show _ = some (Value.slice A 1 c) from rfl)
  have HB0 := Lib.hid hb0
  have HL : Hid (w.heap.size ≤ (w.alloc (.cells #[.slice A 1 c] 23)).heap.size) := hb0.size
  clear hx0 hb0
  go_enter Tryz.func24, Tryz.ntmps24
  go_upto_region 1 with fail
  generalize w.alloc (.cells #[.slice A 1 c] 23) = w1 at *
  go_wp2_with fail
  refine wp_loop_rounds 2 ?_
  rw [rounds_succ]
  have HB1 := Lib.hid (HB0.out.alloc HL.out (.cells #[.int .i64 0] 3))
  have HL1 : Hid (w.heap.size ≤ (w1.alloc (.cells #[.int .i64 0] 3)).heap.size) := HB1.out.size
  go_wp2_with (at_builtin; refine wpList_append_own_at _ rfl (.tmp 10) (.tmp 12) _ rfl w.heap.size 3 i0 (.int .i64 0) 1 8 Tryz.underlying73 hi hz0 hz1 hz2 rfl (by decide) (.slice none 0 0) 0 [] rfl (World.ownsRow_nil _ _ _ _) ⟨w1.heap.size, 0, none⟩ 1 1 [.int .i64 0] rfl rfl ?c1 ?c2 ?c3 ?c4 ?c5 ?_)
  case c1 => exact cell_one_new _ _ _
  case c2 => intro u hu; simp at hu; subst hu; rfl
  case c3 => decide
  case c4 => decide
  case c5 => exact HL1.out
  intro v8 w8 hown hgrow hnil _
  have HB8 := Lib.hid (HB1.out.grown hgrow HL1.out (fun k hk => by simp [Value.ownBlock] at hk))
  obtain ⟨g, cq, rfl, hcell⟩ : ∃ g cq, v8 = .slice (some ⟨g, 0, none⟩) 1 cq ∧ w8.cell? ⟨g, 0, none⟩ = some (.int .i64 0) := by
    rcases hown.2 with ⟨_, h0⟩ | ⟨g, cap, cur, he, _⟩
    · exact absurd h0 (by decide)
    · subst he
      exact ⟨g, cap, rfl, (hown.cellAt 0 (by decide)).trans rfl⟩
  have HCE := Lib.hid hcell
  clear hown hgrow hnil hcell HB1 HL1 HB0 HL y0
  go_wp2_with fail
  rw [rounds_succ]
  go_wp2_with fail
  refine (sort1_any (some ⟨g, 0, none⟩) cq _ w8 ⟨_, _, _, rfl⟩).mono ?_; rintro e w9 ⟨rfl, rfl⟩
  go_wp2_with fail
  go_ret
  exact ⟨g, cq, rfl, HCE.out, HB8.out⟩
theorem overN_any (s : ByteArray) (w : World) : Calls Tryz.prog 25 #[.slice none 0 0, .string s] w fun e w' => e = .returned (.slice none 0 0) ∧ w' = w := by
  have hd : decide ((0 : Int) < 0) = false := rfl
  go_enter Tryz.func25, Tryz.ntmps25
  go_wp2_with fail
  refine wp_loop_rounds 1 ?_
  rw [rounds_succ]
  go_wp2_with fail
  go_ret
  exact ⟨rfl, rfl⟩
set_option maxHeartbeats 8000000 in
theorem odds1_any (A : Option Addr) (c : Nat) (w : World) (hT : Itms w A [itA]) : Calls Tryz.prog 15 #[.slice A 1 c] w fun e w' => e = .returned (.tuple #[.string ⟨#[]⟩, .bool false]) ∧ Below w.heap.size w w' := by
  have hir := info_item
  obtain ⟨i0, hi, hz0, hz1, hz2⟩ := partsBar
  have HBP := Lib.hid (byPath1_any A c w)
  have HT := Lib.hid hT
  clear hT
  go_enter Tryz.func15, Tryz.ntmps15
  go_wp2_with fail
  refine HBP.out.mono ?_; rintro e w1 ⟨g, c', rfl, hce, hb1⟩
  have HB1 := Lib.hid hb1
  obtain ⟨b, off, rfl, c0, c1, c2, c3, c4, c5, c6, c7⟩ := one_cells (HT.out.below hb1)
  clear HBP HT hb1
  go_wp2_with fail
  refine wp_loop_rounds 2 ?_
  rw [rounds_succ]
  have hx2 := heap_alloc_new w1 (.cells itA.cells 42)
  have HB2 := Lib.hid (HB1.out.alloc HB1.out.size (.cells itA.cells 42))
  simp only [Itm.cells, itA] at hx2 HB2
  have y0 := (cell_of_row _ _ 0 _ _ _ hx2).trans (show _ = some (.string ⟨#[97]⟩) from rfl)
  have y1 := (cell_of_row _ _ 1 _ _ _ hx2).trans (show _ = some (Value.int .i64 2) from rfl)
  clear hx2
  go_upto_region 8 with fail
  generalize w1.alloc (.cells #[.string ⟨#[97]⟩, .int .i64 2, .int .u32 0, .int .u32 0, .int .u32 0, .int .i64 0, .int .i64 0, .string ⟨#[]⟩] 42) = w2 at *
  have hd : decide ((0 : Int) < 0) = false := rfl
  go_quiet (fail)
  have z0 : (w2.drewN nq).cell? _ = _ := y0
  have z1 : (w2.drewN nq).cell? _ = _ := y1
  have HB3 := Lib.hid (below_drewN HB2.out nq)
  clear y0 y1 HB2
  generalize w2.drewN nq = w3 at *
  go_wp2_with fail
  refine (overN_any _ w3).mono ?_; rintro e w4 ⟨rfl, rfl⟩
  have HB4 := Lib.hid (HB3.out.alloc HB3.out.size (.cells #[.string ⟨#[97]⟩, .int .i64 0] 78))
  have hxb := heap_alloc_new w4 (.cells #[.string ⟨#[97]⟩, .int .i64 0] 78)
  have HXB := Lib.hid hxb
  have HL4 : Hid (w.heap.size ≤ (w4.alloc (.cells #[.string ⟨#[97]⟩, .int .i64 0] 78)).heap.size) := HB4.out.size
  clear hxb
  go_wp2_with (at_builtin; refine wpList_append_own_at _ rfl (.tmp 73) (.tmp 78) _ rfl w.heap.size 78 i0 (.agg #[.string ⟨#[]⟩, .int .i64 0]) 2 24 Tryz.underlying75 hi hz0 hz1 hz2 rfl (by decide) (.slice none 0 0) 0 [] rfl (World.ownsRow_nil _ _ _ _) ⟨w4.heap.size, 0, none⟩ 1 1 [.string ⟨#[97]⟩, .int .i64 0] rfl rfl ?c1 ?c2 ?c3 ?c4 ?c5 ?_)
  case c1 =>
    intro j u hj
    rw [Addr.add_mid, Nat.zero_add, cell_of_row _ _ _ _ _ _ HXB.out, ← Array.getElem?_toList]
    exact hj
  case c2 =>
    intro u hu
    simp only [List.mem_cons, List.not_mem_nil, or_false] at hu
    rcases hu with rfl | rfl <;> rfl
  case c3 => decide
  case c4 => decide
  case c5 => exact HL4.out
  intro v8 w8 hown hgrow _ _
  have HB8 := Lib.hid (HB4.out.grown hgrow HL4.out (fun k hk => by simp [Value.ownBlock] at hk))
  clear hown hgrow HXB HB4 HL4 HB3 z0 z1
  go_wp2_with fail
  rw [rounds_succ]
  go_wp2_with fail
  go_ret2
  exact ⟨rfl, HB8.out⟩
set_option maxHeartbeats 8000000 in
theorem actionsN_any (A : Option Addr) (w : World) (hT : Itms w A [itA]) : Calls Tryz.prog 13 #[.int .i64 1, .slice none 0 0, .slice A 1 1, .agg #[.slice none 0 0, .slice none 0 0]] w fun e w' => ∃ A' c', e = .returned (.tuple #[.slice A' 1 c', .int .i64 0]) ∧ Acts3 w' A' [acA] ∧ Below w.heap.size w w' := by
  have hif := info_filP
  obtain ⟨i0, hi, hz0, hz1, hz2⟩ := partsP
  have hb1 := below_alP w (.cells #[.slice none 0 0, .slice none 0 0] 45)
  have hx1 := heap_alloc_new w (.cells #[.slice none 0 0, .slice none 0 0] 45)
  have HB1 := Lib.hid hb1
  have HX1 := Lib.hid hx1
  have HT1 := Lib.hid (hT.below hb1)
  have HO := Lib.hid (ofEntN_any A _ (hT.below hb1))
  clear hT hb1 hx1
  go_enter Tryz.func13, Tryz.ntmps13
  go_upto_region 1 with fail
  generalize hg1 : w.heap.size = g1 at *
  generalize w.alloc (.cells #[.slice none 0 0, .slice none 0 0] 45) = w1 at *
  go_wp2_with (refine wpList_load_row rfl 45 (.tmp 7) rfl g1 rfl 45 _ (0, 0) _ HX1.out Tryz.underlying45 rfl info_filP ?_)
  refine HO.out.mono ?_; rintro e w2 ⟨rfl, hb2⟩
  have HX2 := Lib.hid ((hb2.block _ (lt_of_heapP HX1.out)).trans HX1.out)
  have HT2 := Lib.hid (HT1.out.below hb2)
  have HB2 : Hid (Below g1 w w2) := HB1.out.trans (hb2.mono (Nat.le_of_lt (lt_of_heapP HX1.out)))
  have HA := Lib.hid (addN_any A w2 HT2.out)
  clear hb2 HO HX1 HT1 HB1
  go_wp2_with (refine wpList_load_row rfl 45 (.tmp 7) rfl g1 rfl 45 _ (0, 0) _ HX2.out Tryz.underlying45 rfl info_filP ?_)
  refine HA.out.mono ?_; rintro e w3 ⟨v, rfl, hown, hb3⟩
  have HL2 : Hid (g1 ≤ w2.heap.size) := Nat.le_of_lt (lt_of_heapP HX2.out)
  have HB3 : Hid (Below g1 w w3) := HB2.out.trans (hb3.mono HL2.out)
  have HL3 : Hid (g1 ≤ w3.heap.size) := Nat.le_trans HL2.out hb3.size
  obtain ⟨g, cq, rfl, HCS⟩ : ∃ g cq, v = .slice (some ⟨g, 0, none⟩) 1 cq ∧ Hid (∀ j u, ([.int .i64 4, .int .i64 (-1), .int .i64 0] : List Value)[j]? = some u → w3.cell? ((⟨g, 0, none⟩ : Addr).add j) = some u) := by
    rcases hown.2 with ⟨_, h0⟩ | ⟨g, cap, cur, he, _⟩
    · exact absurd h0 (by decide)
    · subst he
      exact ⟨g, cap, rfl, hown.cells rfl⟩
  clear hown hb3 HA HX2 HT2 HB2
  go_wp2_with (at_builtin; refine wpList_append_own_at _ rfl (.tmp 43) (.tmp 44) _ rfl g1 47 i0 (.agg #[.int .i64 0, .int .i64 0, .int .i64 0]) 3 24 Tryz.underlying22 hi hz0 hz1 hz2 rfl (by decide) (.slice none 0 0) 0 [] rfl (World.ownsRow_nil _ _ _ _) ⟨g, 0, none⟩ 1 cq [.int .i64 4, .int .i64 (-1), .int .i64 0] rfl rfl ?c1 ?c2 ?c3 ?c4 ?c5 ?_)
  case c1 => exact HCS.out
  case c2 =>
    intro u hu
    simp only [List.mem_cons, List.not_mem_nil, or_false] at hu
    rcases hu with rfl | rfl | rfl <;> rfl
  case c3 => decide
  case c4 => decide
  case c5 => exact HL3.out
  intro v8 w8 hown hgrow _ _
  have HB8 := Lib.hid (HB3.out.grown hgrow HL3.out (fun k hk => by simp [Value.ownBlock] at hk))
  obtain ⟨A8, c8, rfl⟩ := row_sliceA hown
  have HAC : Hid (Acts3 w8 A8 [acA]) := acts_of_own (B := g1) (cap := c8) (T := 47) (l := [acA]) hown
  clear hown hgrow
  go_wp2_with fail
  go_ret2
  exact ⟨A8, c8, rfl, HAC.out, by subst hg1; exact HB8.out⟩
set_option maxHeartbeats 8000000 in
theorem makeN_any (A : Option Addr) (w : World) (hT : Itms w A [itA]) : Calls Tryz.prog 12 #[.int .i64 1, .slice none 0 0, .slice A 1 1, .agg #[.slice none 0 0, .slice none 0 0]] w fun e w' => ∃ A' c', e = .returned (.tuple #[.slice A' 1 c', .int .i64 0]) ∧ Acts3 w' A' [acA] ∧ Below w.heap.size w w' := by
  have hif := info_filP
  have hb1 := below_alP w (.cells #[.slice none 0 0, .slice none 0 0] 45)
  have hx1 := heap_alloc_new w (.cells #[.slice none 0 0, .slice none 0 0] 45)
  have HB1 := Lib.hid hb1
  have HX1 := Lib.hid hx1
  have HT1 := Lib.hid (hT.below hb1)
  have HO := Lib.hid (actionsN_any A _ (hT.below hb1))
  clear hT hb1 hx1
  go_enter Tryz.func12, Tryz.ntmps12
  go_upto_region 1 with fail
  generalize hg1 : w.heap.size = g1 at *
  generalize w.alloc (.cells #[.slice none 0 0, .slice none 0 0] 45) = w1 at *
  go_wp2_with (refine wpList_load_row rfl 45 (.tmp 7) rfl g1 rfl 45 _ (0, 0) _ HX1.out Tryz.underlying45 rfl info_filP ?_)
  refine HO.out.mono ?_; rintro e w2 ⟨A2, c2, rfl, hac, hb2⟩
  have HT2 := Lib.hid (HT1.out.below hb2)
  have HL : Hid (g1 ≤ w1.heap.size) := Nat.le_of_lt (lt_of_heapP HX1.out)
  have HB2 : Hid (Below g1 w w2) := HB1.out.trans (hb2.mono HL.out)
  have HL2 : Hid (g1 ≤ w2.heap.size) := Nat.le_trans HL.out hb2.size
  have HAC := Lib.hid hac
  have HR := Lib.hid (result_any A2 none A c2 0 1 [acA] [] [itA] w2 (by decide) (by decide) (by decide) hac (Itms.nil _ _) HT2.out)
  have hres : resL [] [itA] [acA] = [itA] := rfl
  rw [hres] at HR
  have e1 : [acA].length = 1 := rfl
  have e2 : [itA].length = 1 := rfl
  have e3 : ([] : List Itm).length = 0 := rfl
  rw [e1, e2, e3] at HR
  clear hac hb2 HO HX1 HT1 HB1 hres e1 e2 e3
  go_wp2_with fail
  refine wp_loop_rounds 1 ?_
  rw [rounds_succ]
  go_wp2_with fail
  refine HR.out.mono ?_; rintro e w3 ⟨A3, c3, rfl, hit, hb3⟩
  have HAC3 := Lib.hid (HAC.out.below hb3)
  have HB3 : Hid (Below g1 w w3) := HB2.out.trans (hb3.mono HL2.out)
  have HL3 : Hid (g1 ≤ w3.heap.size) := Nat.le_trans HL2.out hb3.size
  have HOD := Lib.hid (odds1_any A3 c3 w3 hit)
  clear hit hb3 HR HAC HB2
  go_wp2_with fail
  refine HOD.out.mono ?_; rintro e w4 ⟨rfl, hb4⟩
  have HAC4 := Lib.hid (HAC3.out.below hb4)
  have HB4 : Hid (Below g1 w w4) := HB3.out.trans (hb4.mono HL3.out)
  clear hb4 HOD HAC3 HB3
  go_wp2_with fail
  go_ret2
  exact ⟨A2, c2, rfl, HAC4.out, by subst hg1; exact HB4.out⟩
set_option maxHeartbeats 8000000 in
theorem awake24_any (w : World) : Calls Tryz.prog 4 #[] w fun e w' => e = .returned (.bool true) ∧ Below w.heap.size w w' := by
  have hir := info_item
  have hia := info_act
  have hb1 := below_alP w (.cells itA.cells 42)
  have hx1 := heap_alloc_new w (.cells itA.cells 42)
  have HT : Hid (Itms (w.alloc (.cells itA.cells 42)) (some ⟨w.heap.size, 0, none⟩) [itA]) := fun _ => by
    refine ⟨w.heap.size, 0, rfl, lt_of_heapP hx1, fun k x hx => ?_⟩
    obtain rfl : k = 0 := by have := (List.getElem?_eq_some_iff.1 hx).1; simpa using this
    injection hx with hx
    subst hx
    exact ⟨(cell_of_row _ _ 0 _ _ _ hx1).trans rfl, (cell_of_row _ _ 1 _ _ _ hx1).trans rfl, (cell_of_row _ _ 2 _ _ _ hx1).trans rfl, (cell_of_row _ _ 3 _ _ _ hx1).trans rfl, (cell_of_row _ _ 4 _ _ _ hx1).trans rfl, (cell_of_row _ _ 5 _ _ _ hx1).trans rfl, (cell_of_row _ _ 6 _ _ _ hx1).trans rfl, (cell_of_row _ _ 7 _ _ _ hx1).trans rfl⟩
  have HM := Lib.hid (makeN_any _ _ HT.out)
  have HB1 := Lib.hid hb1
  simp only [Itm.cells, itA] at HM HB1
  clear hb1 hx1 HT
  go_enter Tryz.func4, Tryz.ntmps4
  go_wp2_with fail
  refine HM.out.mono ?_; rintro e w2 ⟨A2, c2, rfl, hac, hb2⟩
  have HB2 := Lib.hid (below_then HB1.out hb2)
  obtain ⟨b, off, rfl, _, hcc⟩ := hac (by decide)
  obtain ⟨k0, k1, k2⟩ := hcc 0 acA rfl
  simp only [acA] at k0 k1 k2
  rw [Nat.zero_mul, Nat.add_zero] at k0 k1 k2
  clear hac hb2 HM HB1 hcc
  go_wp2_with fail
  go_ret
  exact ⟨rfl, HB2.out⟩
end Go.Proofs.YtkcckhnmljckaaaGreatDoor
