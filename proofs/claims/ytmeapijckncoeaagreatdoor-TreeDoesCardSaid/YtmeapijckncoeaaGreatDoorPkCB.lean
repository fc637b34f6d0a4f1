/-
  Trees, awake: index of one item.
  Trees, awake: implied, of one item.
  Trees, awake: Fill of one item; the sort of the two.
  Trees, awake: Right of the two: the items are sound; their cells.
-/
import Derived.Test.YtmeapijckncoeaaGreatDoorPkBG
import Derived.StringKeys
import Derived.Test.YtmeapijckncoeaaGreatDoorPkBD
import Derived.Deep.RegionHeld3

namespace Go.Proofs.YtmeapijckncoeaaGreatDoor
set_option maxRecDepth 100000
set_option linter.unusedSimpArgs false
set_option linter.unusedVariables false
open Go.RowKit Go.Joins Go.Deep Go.WideMaps
open Go.Lib hiding intOf
theorem keyS : Maps.Keyed Tryz.prog 9 := Maps.string_keyed Tryz.underlying9
theorem zero_unitP (w : World) : (zeroValue 51).run Tryz.prog w = .ok (.agg #[]) w := by kernel_rfl
theorem zero_nodeP (w : World) : (zeroValue 25).run Tryz.prog w = .ok (.agg #[.int .i64 0, .int .u32 0, .int .u32 0, .int .u32 0, .int .i64 0, .int .i64 0, .string ⟨#[]⟩]) w := by kernel_rfl
/-- The example's item. -/
def itF : Itm := ⟨⟨#[97, 47, 98]⟩, 2, 0, 0, 0, 0, 0, ⟨#[]⟩⟩
/-- The example's directory. -/
def itD : Itm := ⟨⟨#[97]⟩, 1, 0, 0, 0, 0, 0, ⟨#[]⟩⟩
theorem keyAB : keyOf Tryz.prog 9 (.string ⟨#[97, 47, 98]⟩) = some (.string [97, 47, 98]) := keyOf_string_mk Tryz.underlying9 (by decide)
theorem keyA : keyOf Tryz.prog 9 (.string ⟨#[97]⟩) = some (.string [97]) := keyOf_string_mk Tryz.underlying9 (by decide)
theorem keyE : keyOf Tryz.prog 9 (.string ⟨#[]⟩) = some (.string []) := keyOf_string_mk Tryz.underlying9 (by decide)
/-- The zero node. -/
def nod0 : Value := .agg #[.int .i64 0, .int .u32 0, .int .u32 0, .int .u32 0, .int .i64 0, .int .i64 0, .string ⟨#[]⟩]
open Classical in
/-- A node as a map's datum: the zero one, or another. -/
noncomputable def nodeElem (v : Value) : Option (DataW Unit × List MemPlace) := if v = nod0 then some (.agg [], []) else some (.lit (.int .i64 1), [])
theorem nodeElem_zero {v : Value} {ps : List MemPlace} (h : nodeElem v = some (.agg [], ps)) : v = nod0 := by
  unfold nodeElem at h
  split at h
  · assumption
  · cases h
theorem nodeElem_nod0 : nodeElem nod0 = some (.agg [], []) := by unfold nodeElem; rw [if_pos rfl]
theorem nodeElem_some (v : Value) : ∃ d, nodeElem v = some (d, []) := by
  unfold nodeElem
  split
  · exact ⟨_, rfl⟩
  · exact ⟨_, rfl⟩
theorem one_cells {w : World} {A : Option Addr} {X : Itm} (h : Itms w A [X]) : ∃ b off, A = some ⟨b, off, none⟩ ∧ b < w.heap.size ∧ w.cell? ⟨b, off, none⟩ = some (.string X.s) ∧ w.cell? ⟨b, off + 1, none⟩ = some (.int .i64 X.k) ∧ w.cell? ⟨b, off + 2, none⟩ = some (.int .u32 X.m) ∧ w.cell? ⟨b, off + 3, none⟩ = some (.int .u32 X.u) ∧ w.cell? ⟨b, off + 4, none⟩ = some (.int .u32 X.g) ∧ w.cell? ⟨b, off + 5, none⟩ = some (.int .i64 X.t) ∧ w.cell? ⟨b, off + 6, none⟩ = some (.int .i64 X.a) ∧ w.cell? ⟨b, off + 7, none⟩ = some (.string X.d) := by
  obtain ⟨b, off, e, hb, hc⟩ := h (Nat.succ_pos _)
  have := hc 0 X rfl
  rw [Nat.zero_mul, Nat.add_zero] at this
  exact ⟨b, off, e, hb, this⟩
set_option maxHeartbeats 8000000 in
theorem index_one (A : Option Addr) (c : Nat) (w : World) (hT : Itms w A [itF]) : Calls Tryz.prog 29 #[.slice A 1 c] w fun e w' => ∃ gm D, e = .returned (.map (some gm)) ∧ w.heap.size ≤ gm ∧ w'.ownsMap Tryz.prog 9 nodeElem gm 1 D ∧ Maps.has D (.string [97]) = false ∧ Below w.heap.size w w' := by
  have hmm := @run_makeMap Tryz.prog
  have hir := info_item
  have hinod := info_nodeT
  have HM := Lib.hid (World.ownsMap_made (H := Unit) w Tryz.prog 9 nodeElem)
  have HB := Lib.hid (below_al w (.map #[] 0))
  have HT := Lib.hid (hT.below (below_al w (.map #[] 0)))
  clear hT
  go_enter Tryz.func29, Tryz.ntmps29
  go_upto_region 3 with fail
  have HGM : Hid (w.heap.size ≤ w.heap.size) := Nat.le_refl _
  generalize w.alloc (.map #[] 0) = w1 at *
  obtain ⟨b, off, rfl, hb, c0, c1, c2, c3, c4, c5, c6, c7⟩ := one_cells HT.out
  dsimp only [itF] at c0 c1 c2 c3 c4 c5 c6 c7
  have hx0 := heap_alloc_new w1 (.cells itF.cells 42)
  have HM2 := Lib.hid (HM.out.alloc (.cells itF.cells 42))
  have HB2 := Lib.hid (HB.out.alloc HB.out.size (.cells itF.cells 42))
  simp only [Itm.cells, itF] at hx0 HM2 HB2
  have y0 := (cell_of_row _ _ 0 _ _ _ hx0).trans (show _ = some (.string ⟨#[97, 47, 98]⟩) from rfl)
  have HX0 := Lib.hid hx0
  clear HM HB HT hx0
  go_wp2_with fail
  refine wp_loop_rounds 2 ?_
  rw [rounds_succ]
  go_upto_region 5 with fail
  generalize hgi : w1.heap.size = gi at *
  obtain ⟨w2, hw2⟩ : ∃ w2, w2 = w1.alloc (.cells #[.string ⟨#[97, 47, 98]⟩, .int .i64 2, .int .u32 0, .int .u32 0, .int .u32 0, .int .i64 0, .int .i64 0, .string ⟨#[]⟩] 42) := ⟨_, rfl⟩
  rw [← hw2] at HM2 HB2 HX0 y0 ⊢
  clear hw2
  have hha : Maps.has (DataW.map [] : DataW Unit) (.string [97, 47, 98]) = false := rfl
  have hat : DataW.atKey (DataW.map [] : DataW Unit) (.string [97, 47, 98]) (.agg []) = .agg [] := rfl
  obtain ⟨w3, hw3⟩ : ∃ w3, w3 = w2.alloc (.cells #[.int .i64 0, .int .u32 0, .int .u32 0, .int .u32 0, .int .i64 0, .int .i64 0, .string ⟨#[]⟩] 25) := ⟨_, rfl⟩
  have h23 : Below w2.heap.size w2 w3 := by rw [hw3]; exact below_al w2 _
  have HM3 : Hid (w3.ownsMap Tryz.prog 9 nodeElem w.heap.size 0 (DataW.map [])) := by show World.ownsMap _ _ _ _ _ _ _; rw [hw3]; exact HM2.out.alloc _
  have HB3 := Lib.hid (below_then HB2.out h23)
  have HX3 := Lib.hid ((h23.block _ (lt_of_block HX0.out)).trans HX0.out)
  have HW3 := Lib.hid hw3
  clear h23 hw3 HX0 HB2
  have hsome := nodeElem_some (.agg #[.int .i64 2, .int .u32 0, .int .u32 0, .int .u32 0, .int .i64 0, .int .i64 0, .string ⟨#[]⟩])
  obtain ⟨dn, hdn⟩ := hsome
  go_upto_region 6 with (first | (at_lookup; refine wpList_lookup_own_ok _ rfl _ _ 47 rfl 9 25 keyS Tryz.underlying47 nodeElem (zero_nodeP _) (.agg []) [] nodeElem_nod0 w.heap.size 0 _ rfl HM2.out _ _ rfl keyAB ?_; intro v ps hv; obtain rfl := nodeElem_zero (hat ▸ hv); rw [hha]; unfold nod0))
  rw [← HW3.out]
  have z0 := (cell_of_row _ _ 0 _ _ _ HX3.out).trans (show _ = some (.string ⟨#[97, 47, 98]⟩) from rfl)
  have z1 := (cell_of_row _ _ 1 _ _ _ HX3.out).trans (show _ = some (.int .i64 2) from rfl)
  have z2 := (cell_of_row _ _ 2 _ _ _ HX3.out).trans (show _ = some (.int .u32 0) from rfl)
  have z3 := (cell_of_row _ _ 3 _ _ _ HX3.out).trans (show _ = some (.int .u32 0) from rfl)
  have z4 := (cell_of_row _ _ 4 _ _ _ HX3.out).trans (show _ = some (.int .u32 0) from rfl)
  have z5 := (cell_of_row _ _ 5 _ _ _ HX3.out).trans (show _ = some (.int .i64 0) from rfl)
  have z6 := (cell_of_row _ _ 6 _ _ _ HX3.out).trans (show _ = some (.int .i64 0) from rfl)
  have z7 := (cell_of_row _ _ 7 _ _ _ HX3.out).trans (show _ = some (.string ⟨#[]⟩) from rfl)
  clear HW3 HM2 y0
  have hhb : Maps.has ((DataW.map [] : DataW Unit).put (.string [97, 47, 98]) dn) (.string [97]) = false := rfl
  go_wp2_with (at_mapUpdate; refine wpList_mapUpdate_own _ rfl _ _ _ 47 rfl 9 25 keyS Tryz.underlying47 nodeElem w.heap.size 0 _ rfl HM3.out (by unfold maxLen; omega) _ _ _ rfl rfl keyAB dn [] hdn ?_; intro w9 hown9 hgrow9)
  rw [rounds_succ]
  have HB9 : Hid (Below w.heap.size w w9) := HB3.out.grown hgrow9 HB3.out.size (fun k hk => by injection hk with hk; subst hk; exact Nat.le_refl _)
  have HO9 := Lib.hid hown9
  clear hown9 hgrow9
  go_wp2_with fail
  go_ret
  exact ⟨w.heap.size, _, rfl, Nat.le_refl _, HO9.out, hhb, HB9.out⟩
end Go.Proofs.YtmeapijckncoeaaGreatDoor

namespace Go.Proofs.YtmeapijckncoeaaGreatDoor
set_option maxRecDepth 100000
set_option linter.unusedSimpArgs false
set_option linter.unusedVariables false
open Go.RowKit Go.Joins Go.Deep Go.WideMaps
open Go.Lib hiding intOf
theorem par_ab : parB ⟨#[97, 47, 98]⟩ = ⟨#[97]⟩ := by
  have h : parN ⟨#[97, 47, 98]⟩ = 1 := by
    unfold parN spl Lib.lastIndexByte
    rfl
  unfold parB
  rw [h]
  rfl
theorem par_a : parB ⟨#[97]⟩ = ⟨#[]⟩ := by
  have h : parN ⟨#[97]⟩ = 0 := by
    unfold parN spl Lib.lastIndexByte
    rfl
  unfold parB
  rw [h]
  rfl
theorem atKey_no {DD : DataW Unit} {k : Lit} (z : DataW Unit) (h : Maps.has DD k = false) : DD.atKey k z = z := by
  unfold DataW.atKey
  split
  · rename_i es
    have h2 : es.find? (fun p => p.1.sameKey k) = none := List.find?_eq_none.2 fun x hx => by
      have := List.any_eq_false.1 (show es.any (fun p => p.1.sameKey k) = false from h) x hx
      exact this
    rw [h2]
  · rfl
set_option maxHeartbeats 16000000 in
theorem implied_one (A : Option Addr) (c : Nat) (w : World) (hT : Itms w A [itF]) : Calls Tryz.prog 24 #[.slice A 1 c] w fun e w' => ∃ v, e = .returned (.tuple #[v, .bool true]) ∧ w'.ownsRow w.heap.size 9 1 v 1 [.string ⟨#[97]⟩] ∧ Below w.heap.size w w' := by
  have hmm := @run_makeMap Tryz.prog
  have hir := info_item
  have hinod := info_nodeT
  have hzu := zero_unitP
  have HT := Lib.hid hT
  have HIX := Lib.hid (index_one A c w hT)
  have HP1 := Lib.hid (fun w => parent_any ⟨#[97, 47, 98]⟩ w (by decide))
  have HP2 := Lib.hid (fun w => parent_any ⟨#[97]⟩ w (by decide))
  rw [par_ab] at HP1
  rw [par_a] at HP2
  clear hT
  go_enter Tryz.func24, Tryz.ntmps24
  go_wp2_with fail
  refine HIX.out.mono ?_; rintro e w2 ⟨gn, D, rfl, hgn, hown, hhas, hb2⟩
  have HM := Lib.hid (World.ownsMap_made (H := Unit) w2 Tryz.prog 9 unitElem)
  have HN2 := Lib.hid hown
  have HHAS := Lib.hid hhas
  have HGN : Hid (gn < w2.heap.size) := hown.lt
  have h23 : Below w2.heap.size w2 (w2.alloc (.map #[] 0)) := below_al w2 _
  have HB3 := Lib.hid (below_then hb2 h23)
  have HN3 := Lib.hid (HN2.out.alloc (.map #[] 0))
  have HGK : Hid (w.heap.size ≤ w2.heap.size) := hb2.size
  clear hown hhas hb2 h23 HIX HN2
  generalize hgk : w2.heap.size = gk at *
  go_upto_region 3 with (first | (refine wpList_insert_own _ rfl _ _ _ 52 rfl 9 51 keyS Tryz.underlying52 unitElem gk 0 _ rfl HM.out (by unfold maxLen; omega) _ _ _ rfl rfl keyE (.agg []) [] unitElem_mk ?_; intro w4 hown4 hgrow4))
  have HM4 := Lib.hid hown4
  have HB4 := Lib.hid (HB3.out.grown hgrow4 HB3.out.size (fun k hk => by injection hk with hk; subst hk; exact HGK.out))
  have HN4 := Lib.hid (HN3.out.kept hgrow4 (by intro h; injection h with h; have := HGN.out; omega))
  clear hown4 hgrow4 HM HB3 HN3 hgk
  go_wp2_with fail
  refine wp_loop_rounds 2 ?_
  rw [rounds_succ]
  obtain ⟨b, off, rfl, hb, c0, c1, c2, c3, c4, c5, c6, c7⟩ := one_cells (HT.out.below HB4.out)
  dsimp only [itF] at c0 c1 c2 c3 c4 c5 c6 c7
  obtain ⟨w5, hw5⟩ : ∃ w5, w5 = w4.alloc (.cells #[.string ⟨#[97, 47, 98]⟩, .int .i64 2, .int .u32 0, .int .u32 0, .int .u32 0, .int .i64 0, .int .i64 0, .string ⟨#[]⟩] 42) := ⟨_, rfl⟩
  have h45 : Below w4.heap.size w4 w5 := by rw [hw5]; exact below_al w4 _
  have HM5 : Hid (w5.ownsMap Tryz.prog 9 (unitElem (H := Unit)) gk 1 ((DataW.map [] : DataW Unit).put (.string []) (.agg []))) := by have h := HM4.out.alloc (.cells #[.string ⟨#[97, 47, 98]⟩, .int .i64 2, .int .u32 0, .int .u32 0, .int .u32 0, .int .i64 0, .int .i64 0, .string ⟨#[]⟩] 42); rw [← hw5] at h; exact h
  have HN5 : Hid (w5.ownsMap Tryz.prog 9 nodeElem gn 1 D) := by have h := HN4.out.alloc (.cells #[.string ⟨#[97, 47, 98]⟩, .int .i64 2, .int .u32 0, .int .u32 0, .int .u32 0, .int .i64 0, .int .i64 0, .string ⟨#[]⟩] 42); rw [← hw5] at h; exact h
  have HB5 := Lib.hid (below_then HB4.out h45)
  have y0 : w5.cell? ⟨w4.heap.size, 0, none⟩ = some (.string ⟨#[97, 47, 98]⟩) := by rw [hw5]; exact (cell_of_row _ _ 0 _ _ _ (heap_alloc_new w4 _)).trans rfl
  have HW5 := Lib.hid hw5
  clear h45 hw5 HM4 HN4 HB4 HT
  go_upto_region 7 with fail
  rw [← HW5.out]
  go_wp2_with fail
  refine (HP1.out w5).mono ?_; rintro e wx ⟨rfl, hww⟩; rw [hww]; clear hww
  have hha : Maps.has ((DataW.map [] : DataW Unit).put (.string []) (.agg [])) (.string [97]) = false := rfl
  have hhe : Maps.has (((DataW.map [] : DataW Unit).put (.string []) (.agg [])).put (.string [97]) (.agg [])) (.string []) = true := rfl
  have hat : D.atKey (.string [97]) (.agg []) = .agg [] := atKey_no _ HHAS.out
  have HHN := HHAS.out
  obtain ⟨i0, hi, hz0, hz1, hz2⟩ : ∃ i0, Tryz.prog.info? 9 = some i0 ∧ i0.zero = some (.string ⟨#[]⟩) ∧ i0.size = 1 ∧ i0.bytes = 16 := by
    have h : (Tryz.prog.info? 9).map (fun i => (i.zero, i.size, i.bytes)) = some (some (.string ⟨#[]⟩), 1, 16) := by kernel_rfl
    cases hq : Tryz.prog.info? 9 with
    | none => rw [hq] at h; cases h
    | some i =>
      rw [hq] at h
      simp only [Option.map_some, Option.some.injEq, Prod.mk.injEq] at h
      exact ⟨i, rfl, h.1, h.2.1, h.2.2⟩
  go_wp2_with fail
  refine wp_loop_rounds 3 ?_
  rw [rounds_succ]
  obtain ⟨w6, hw6⟩ : ∃ w6, w6 = w5.alloc (.cells #[] 51) := ⟨_, rfl⟩
  have h56 : Below w5.heap.size w5 w6 := by rw [hw6]; exact below_al w5 _
  have HM6 := Lib.hid (HM5.out.alloc (.cells #[] 51))
  have HN6 := Lib.hid (HN5.out.alloc (.cells #[] 51))
  have HB6 := Lib.hid (below_then HB5.out h56)
  rw [← hw6] at HM6 HN6
  have HW6 := Lib.hid hw6
  clear h56 hw6 HW5 y0
  go_upto_region 10 with (at_lookup; refine wpList_lookup_own_unit _ rfl _ _ 52 rfl 9 51 keyS Tryz.underlying52 (zero_unitP _) gk 1 _ rfl HM5.out _ _ rfl keyA ?_; rw [hha])
  rw [← HW6.out]
  clear HM5 HN5 HB5 HW6
  go_upto_region 12 with (at_mapUpdate; refine wpList_mapUpdate_own _ rfl _ _ _ 52 rfl 9 51 keyS Tryz.underlying52 _ gk 1 _ rfl HM6.out (by unfold maxLen; omega) _ _ _ rfl rfl keyA (.agg []) [] unitElem_mk ?_; intro w7 hown7 hgrow7)
  have HM7 := Lib.hid hown7
  have HB7 := Lib.hid (HB6.out.grown hgrow7 HB6.out.size (fun k hk => by injection hk with hk; subst hk; exact HGK.out))
  have HN7 := Lib.hid (HN6.out.kept hgrow7 (by intro h; injection h with h; have := HGN.out; omega))
  clear hown7 hgrow7 HM6 HN6 HB6
  obtain ⟨w8, hw8⟩ : ∃ w8, w8 = w7.alloc (.cells #[.int .i64 0, .int .u32 0, .int .u32 0, .int .u32 0, .int .i64 0, .int .i64 0, .string ⟨#[]⟩] 25) := ⟨_, rfl⟩
  have h78 : Below w7.heap.size w7 w8 := by rw [hw8]; exact below_al w7 _
  have HM8 := Lib.hid (HM7.out.alloc (.cells #[.int .i64 0, .int .u32 0, .int .u32 0, .int .u32 0, .int .i64 0, .int .i64 0, .string ⟨#[]⟩] 25))
  rw [← hw8] at HM8
  have HB8 := Lib.hid (below_then HB7.out h78)
  have HW8 := Lib.hid hw8
  clear h78 hw8
  go_upto_region 13 with (at_lookup; refine wpList_lookup_own_ok _ rfl _ _ 47 rfl 9 25 keyS Tryz.underlying47 nodeElem (zero_nodeP _) (.agg []) [] nodeElem_nod0 gn 1 _ rfl HN7.out _ _ rfl keyA ?_; intro v ps hv; obtain rfl := nodeElem_zero (hat ▸ hv); rw [HHN]; unfold nod0)
  rw [← HW8.out]
  clear HM7 HN7 HB7 HW8 hat HHN hha
  obtain ⟨w9, hw9⟩ : ∃ w9, w9 = w8.alloc (.cells #[.string ⟨#[97]⟩] 9) := ⟨_, rfl⟩
  have h89 : Below w8.heap.size w8 w9 := by rw [hw9]; exact below_al w8 _
  have HM9 := Lib.hid (HM8.out.alloc (.cells #[.string ⟨#[97]⟩] 9))
  have hq2 : ∀ j u, [Value.string ⟨#[97]⟩][j]? = some u → (w8.alloc (.cells #[.string ⟨#[97]⟩] 9)).cell? ((⟨w8.heap.size, 0, none⟩ : Addr).add j) = some u := fun j u hj => by
    rw [Addr.add_lit, Nat.zero_add, cell_of_row _ _ j _ _ _ (heap_alloc_new w8 _)]
    simpa using hj
  have HB9 := Lib.hid (below_then HB8.out h89)
  have hsz9 : w.heap.size ≤ (w8.alloc (.cells #[.string ⟨#[97]⟩] 9)).heap.size := by rw [← hw9]; exact HB9.out.size
  have HQ2 := Lib.hid hq2
  have HSZ9 := Lib.hid hsz9
  rw [hw9] at HB9
  clear h89 hw9 HM8 HB8 hq2 hsz9 w9
  go_upto_region 8 with (at_builtin; refine wpList_append_own _ rfl _ _ 32 rfl w.heap.size 9 i0 (.string ⟨#[]⟩) 1 16 Tryz.underlying32 hi hz0 hz1 hz2 rfl (by decide) _ _ _ rfl (World.ownsRow_nil _ _ _ _) ⟨w8.heap.size, 0, none⟩ 1 1 [.string ⟨#[97]⟩] rfl ?qc1 ?qc2 ?qc3 ?qc4 ?qc5 ?qc6 ?_)
  case qc1 => rfl
  case qc2 => exact HQ2.out
  case qc3 => intro u hu; simp at hu; subst hu; rfl
  case qc4 => decide
  case qc5 => decide
  case qc6 => exact HSZ9.out
  intro v10 w10 hown10 hgrow10 _
  have HOW := Lib.hid hown10
  have HM10 := Lib.hid (HM9.out.kept hgrow10 (by simp [Value.ownBlock]))
  have HB10 := Lib.hid (HB9.out.grown hgrow10 HSZ9.out (fun k hk => by simp [Value.ownBlock] at hk))
  clear hown10 hgrow10 HM9 HB9 HQ2 HSZ9
  have HOW11 := Lib.hid (HOW.out.alloc (.cells #[] 51))
  have HB11 := Lib.hid (below_then HB10.out (below_al w10 (.cells #[] 51)))
  clear HOW HB10
  go_wp2_with fail
  refine (HP2.out w10).mono ?_; rintro e wx ⟨rfl, hww⟩; rw [hww]; clear hww
  go_wp2_with fail
  rw [rounds_succ]
  go_wp2_with (at_lookup; refine wpList_lookup_own_unit _ rfl _ _ 52 rfl 9 51 keyS Tryz.underlying52 (zero_unitP _) gk 2 _ rfl HM10.out _ _ rfl keyE ?_; rw [hhe])
  rw [rounds_succ]
  go_wp2_with fail
  go_ret2
  exact ⟨v10, rfl, HOW11.out, HB11.out⟩
end Go.Proofs.YtmeapijckncoeaaGreatDoor

namespace Go.Proofs.YtmeapijckncoeaaGreatDoor
set_option maxRecDepth 100000
set_option linter.unusedSimpArgs false
set_option linter.unusedVariables false
open Go.RowKit Go.Joins Go.Deep Go.WideMaps
open Go.Lib hiding intOf
theorem ord_df : ordT itD.s itF.s < 0 := by decide
theorem ord_fd : ¬ ordT itF.s itD.s < 0 := by decide
theorem sort_two : sortI [itF, itD] = [itD, itF] := by
  have h := Is.srt_unique [itF, itD] [1, 0] (List.Perm.swap 0 1 []) ?_
  · exact h.symm
  · intro p q h1 h2 h3
    have e0 : rnk [itF, itD] 1 = 0 := by decide
    have h4 : q < 2 := h3
    have h5 : p = 0 ∨ (p = 1 ∧ q = 1) := by omega
    rcases h5 with rfl | ⟨rfl, rfl⟩
    · show rnk [itF, itD] 1 ≤ _
      rw [e0]
      exact Nat.zero_le _
    · exact Nat.le_refl _
set_option maxHeartbeats 16000000 in
theorem fill_one (A : Option Addr) (c : Nat) (w : World) (hT : Itms w A [itF]) : Calls Tryz.prog 8 #[.slice A 1 c, .agg itD.node] w fun e w' => ∃ A' c', e = .returned (.tuple #[.slice A' 2 c', .bool true]) ∧ NewI w' w.heap.size A' [itD, itF] ∧ Below w.heap.size w w' := by
  obtain ⟨i0, hi, hz0, hz1, hz2⟩ := partsI
  have hir := info_item
  have hinod := info_nodeT
  obtain ⟨w1, hw1⟩ : ∃ w1, w1 = w.alloc (.cells #[.int .i64 1, .int .u32 0, .int .u32 0, .int .u32 0, .int .i64 0, .int .i64 0, .string ⟨#[]⟩] 25) := ⟨_, rfl⟩
  have h01 : Below w.heap.size w w1 := by rw [hw1]; exact below_al w _
  have HX1 : Hid (w1.heap[w.heap.size]? = some (.cells #[.int .i64 1, .int .u32 0, .int .u32 0, .int .u32 0, .int .i64 0, .int .i64 0, .string ⟨#[]⟩] 25 (0, 0))) := by show _ = _; rw [hw1]; exact heap_alloc_new w _
  have HB1 := Lib.hid h01
  have HT1 := Lib.hid (hT.below h01)
  have HIM := Lib.hid (implied_one A c w1 HT1.out)
  have HW1 := Lib.hid hw1
  have hnd : itD.node = #[.int .i64 1, .int .u32 0, .int .u32 0, .int .u32 0, .int .i64 0, .int .i64 0, .string ⟨#[]⟩] := rfl
  rw [hnd]
  clear hT h01 hw1 hnd
  go_enter Tryz.func8, Tryz.ntmps8
  go_upto_region 1 with fail
  rw [← HW1.out]
  go_wp2_with fail
  refine HIM.out.mono ?_; rintro e w2 ⟨v, rfl, hown, hb2⟩
  have HB2 := Lib.hid (below_then HB1.out hb2)
  have HX2 := Lib.hid ((hb2.block _ (lt_of_block HX1.out)).trans HX1.out)
  have HCL := Lib.hid (cloneB_any A c [itF] w2 (HT1.out.below hb2) (by decide))
  obtain ⟨gv, cv, rfl⟩ : ∃ gv cv, v = .slice (some ⟨gv, 0, none⟩) 1 cv := by
    rcases hown.2 with ⟨_, h0⟩ | ⟨g, cap, cur, h, _⟩
    · cases h0
    · exact ⟨g, cap, h⟩
  have hv0 : w2.cell? ⟨gv, 0, none⟩ = some (.string ⟨#[97]⟩) := hown.cellAt 0 (by decide)
  have HV : Hid (gv < w2.heap.size ∧ w2.cell? ⟨gv, 0, none⟩ = some (.string ⟨#[97]⟩)) := ⟨(hown.lt gv rfl).2, hv0⟩
  clear hb2 hown HIM HX1 HT1 hv0
  have hlen1 : [itF].length = 1 := rfl
  rw [hlen1] at HCL
  go_wp2_with fail
  refine HCL.out.mono ?_; rintro e w3 ⟨A3, c3, rfl, hc3, hN3, hb3⟩
  have HB3 := Lib.hid (below_then HB2.out hb3)
  have hx3 := (hb3.block _ (lt_of_block HX2.out)).trans HX2.out
  have HX3 := Lib.hid hx3
  have v0 : w3.cell? ⟨gv, 0, none⟩ = some (.string ⟨#[97]⟩) := (hb3.cell HV.out.1).trans HV.out.2
  have hown3 := own_of hN3 hc3
  have hB3 : w.heap.size ≤ w2.heap.size := HB2.out.size
  have hown3 : w3.ownsRow w.heap.size 42 8 (.slice A3 1 c3) 1 (cellsI [itF]) := by
    rcases hown3 with ⟨a, b⟩
    refine ⟨a, ?_⟩
    rcases b with b | ⟨g, cap, cur, q1, q2, q3⟩
    · exact .inl b
    · exact .inr ⟨g, cap, cur, q1, Nat.le_trans hB3 q2, q3⟩
  have HO3 := Lib.hid hown3
  clear hb3 hN3 hown3 hc3 HCL HV hx3 HX2 HB2 hB3 hlen1
  go_wp2_with fail
  refine wp_loop_rounds 2 ?_
  rw [rounds_succ]
  have HO4 := Lib.hid (HO3.out.alloc (.cells #[.string ⟨#[97]⟩, .int .i64 1, .int .u32 0, .int .u32 0, .int .u32 0, .int .i64 0, .int .i64 0, .string ⟨#[]⟩] 42))
  have HB4 := Lib.hid (below_then HB3.out (below_al w3 (.cells #[.string ⟨#[97]⟩, .int .i64 1, .int .u32 0, .int .u32 0, .int .u32 0, .int .i64 0, .int .i64 0, .string ⟨#[]⟩] 42)))
  have HQ2 : Hid (∀ j u, itD.cellsL[j]? = some u → (w3.alloc (.cells #[.string ⟨#[97]⟩, .int .i64 1, .int .u32 0, .int .u32 0, .int .u32 0, .int .i64 0, .int .i64 0, .string ⟨#[]⟩] 42)).cell? ((⟨w3.heap.size, 0, none⟩ : Addr).add j) = some u) := fun j u hj => by
    rw [Addr.add_lit, Nat.zero_add, cell_of_row _ _ j _ _ _ (heap_alloc_new w3 _)]
    simpa [itD, Itm.cellsL] using hj
  go_wp2_with (first
    | refine wpList_load_row rfl 25 (.tmp 3) rfl w.heap.size rfl 25 _ (0, 0) _ HX3.out Tryz.underlying25 rfl info_nodeT ?_
    | (at_builtin; refine wpList_append_own _ rfl _ _ 22 rfl w.heap.size 42 i0 (.agg #[.string ⟨#[]⟩, .int .i64 0, .int .u32 0, .int .u32 0, .int .u32 0, .int .i64 0, .int .i64 0, .string ⟨#[]⟩]) 8 72 Tryz.underlying22 hi hz0 hz1 hz2 rfl (by decide) _ _ _ rfl HO4.out ⟨w3.heap.size, 0, none⟩ 1 1 itD.cellsL rfl ?qc1 ?qc2 ?qc3 ?qc4 ?qc5 ?qc6 ?_))
  case qc1 => rfl
  case qc2 => exact HQ2.out
  case qc3 =>
    intro u hu
    exact cellsI_one [itD] u (by rw [cellsI, cellsI, List.append_nil]; exact hu)
  case qc4 => decide
  case qc5 => decide
  case qc6 => exact HB4.out.size
  intro v5 w5 hown5 hgrow5 _
  have HB5 := Lib.hid (HB4.out.grown hgrow5 HB4.out.size (fun k hk => (HO4.out.lt k hk).1))
  have e2 : cellsI [itF] ++ itD.cellsL = cellsI [itF, itD] := rfl
  have hown5 : w5.ownsRow w.heap.size 42 8 v5 [itF, itD].length (cellsI [itF, itD]) := hown5
  obtain ⟨A5, c5, rfl, hN5⟩ := nb_of_own v5 (by decide) hown5
  have HST := Lib.hid (tsort_any A5 c5 [itF, itD] w5 hN5.itms (by decide) (by decide))
  rw [sort_two] at HST
  have hlen2 : [itF, itD].length = 2 := rfl
  rw [hlen2] at HST ⊢
  clear hown5 hgrow5 hN5 HB4 HO4 HQ2 HO3 HB3 HX3 e2 hlen2
  go_wp2_with fail
  rw [rounds_succ]
  go_wp2_with fail
  refine HST.out.mono ?_; rintro e w6 ⟨A6, c6, rfl, hN6, hb6⟩
  have HN6 := Lib.hid hN6
  have HB6 := Lib.hid (below_then HB5.out hb6)
  have HSZ := Lib.hid HB5.out.size
  clear hN6 hb6 HST HB5
  go_wp2_with fail
  go_ret2
  refine ⟨A6, c6, rfl, ?_, HB6.out⟩
  rcases HN6.out with h | ⟨g, e, hg, hio⟩
  · exact .inl h
  · exact .inr ⟨g, e, Nat.le_trans HSZ.out hg, hio⟩
end Go.Proofs.YtmeapijckncoeaaGreatDoor

namespace Go.Proofs.YtmeapijckncoeaaGreatDoor
set_option maxRecDepth 100000
set_option linter.unusedSimpArgs false
set_option linter.unusedVariables false
open Go.RowKit Go.Joins Go.Deep Go.WideMaps
open Go.Lib hiding intOf
theorem chk_d : chkV ⟨#[97]⟩ = (⟨#[97]⟩, false, 0) := by kernel_rfl
theorem chk_f : chkV ⟨#[97, 47, 98]⟩ = (⟨#[97, 47, 98]⟩, false, 0) := by kernel_rfl
theorem sod_d : sodI itD = true := by unfold sodI; rw [show chkV itD.s = _ from chk_d, Lib.toList_data]; rfl
theorem sod_f : sodI itF = true := by unfold sodI; rw [show chkV itF.s = _ from chk_f]; decide
theorem two_cells {w : World} {A : Option Addr} {X Y : Itm} (h : Itms w A [X, Y]) : ∃ b off, A = some ⟨b, off, none⟩ ∧ b < w.heap.size ∧
    (w.cell? ⟨b, off, none⟩ = some (.string X.s) ∧ w.cell? ⟨b, off + 1, none⟩ = some (.int .i64 X.k) ∧ w.cell? ⟨b, off + 2, none⟩ = some (.int .u32 X.m) ∧ w.cell? ⟨b, off + 3, none⟩ = some (.int .u32 X.u) ∧ w.cell? ⟨b, off + 4, none⟩ = some (.int .u32 X.g) ∧ w.cell? ⟨b, off + 5, none⟩ = some (.int .i64 X.t) ∧ w.cell? ⟨b, off + 6, none⟩ = some (.int .i64 X.a) ∧ w.cell? ⟨b, off + 7, none⟩ = some (.string X.d)) ∧
    (w.cell? ⟨b, off + 8, none⟩ = some (.string Y.s) ∧ w.cell? ⟨b, off + 8 + 1, none⟩ = some (.int .i64 Y.k) ∧ w.cell? ⟨b, off + 8 + 2, none⟩ = some (.int .u32 Y.m) ∧ w.cell? ⟨b, off + 8 + 3, none⟩ = some (.int .u32 Y.u) ∧ w.cell? ⟨b, off + 8 + 4, none⟩ = some (.int .u32 Y.g) ∧ w.cell? ⟨b, off + 8 + 5, none⟩ = some (.int .i64 Y.t) ∧ w.cell? ⟨b, off + 8 + 6, none⟩ = some (.int .i64 Y.a) ∧ w.cell? ⟨b, off + 8 + 7, none⟩ = some (.string Y.d)) := by
  obtain ⟨b, off, e, hb, hc⟩ := h (Nat.succ_pos _)
  have h0 := hc 0 X rfl
  have h1 := hc 1 Y rfl
  rw [Nat.zero_mul, Nat.add_zero] at h0
  rw [Nat.one_mul] at h1
  exact ⟨b, off, e, hb, h0, h1⟩
end Go.Proofs.YtmeapijckncoeaaGreatDoor
