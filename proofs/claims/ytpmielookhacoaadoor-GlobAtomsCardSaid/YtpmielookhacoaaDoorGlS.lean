/-
  Glob: the law's translation of atoms (to).
-/
import Derived.Test.YtpmielookhacoaaDoorGlQ
namespace Go.Proofs.YtpmielookhacoaaDoor
set_option maxRecDepth 100000
set_option linter.unusedSimpArgs false
open Go.RowKit Go.Joins Go.Deep

def I32 (z : Int) : Prop := -2147483648 ≤ z ∧ z ≤ 2147483647
/-- An atom whose runes are runes. -/
def Rng (x : Atm) : Prop := I32 x.r ∧ ∀ p ∈ x.rs, I32 p.1 ∧ I32 p.2
/-- What to's inner loop keeps. -/
structure RTo (ws wr : World) (x : Atm) (V : Value) (rs : List (Int × Int)) : Prop where
  a : wr.heap[ws.heap.size]? = some (.cells #[.int .i64 x.k, .int .i64 x.r, .bool x.n, V] 44 (0, 0))
  o : wr.ownsRow (ws.heap.size + 1) 48 2 V rs.length (cellsP .i64 rs)
  b : Below ws.heap.size ws wr
  s : ws.heap.size + 1 ≤ wr.heap.size
theorem RTo.next {ws wr wx : World} {x : Atm} {V : Value} {rs : List (Int × Int)} (h : RTo ws wr x V rs) (hb : Below wr.heap.size wr wx) : RTo ws wx x V rs :=
  ⟨(hb.block _ (lt_of_block h.a)).trans h.a, own_below' h.o hb, below_then h.b hb, Nat.le_trans h.s hb.size⟩
set_option maxHeartbeats 16000000 in
theorem to_any (ats : List Atm) (A : Option Addr) (c : Nat) (hl : ats.length ≤ 100000) (hrs : ∀ x ∈ ats, x.rs.length ≤ 1000000 ∧ Rng x) (w : World) (hA : Ats w A ats) :
    Calls Tryd.prog 6 #[.agg #[.slice A ats.length c]] w fun e w' => ∃ A' c', e = .returned (.slice A' ats.length c') ∧ RAts w' A' ats ∧ Below w.heap.size w w' := by
  have hira := info_ratom
  have hia := info_atom
  have hirg := info_range
  have hig := info_rgs
  have hits := info_ats
  have hip := info_pat
  have hza := zero_ratom
  have hzp := zero_pair
  have hipr := info_pair
  have hirs := info_prs
  obtain ⟨i0, hi, hz0, hz1, hz2⟩ := parts_of parts_ratom
  obtain ⟨j0, hj, hy0, hy1, hy2⟩ := parts_of parts_pair
  have HRS := Lib.hid hrs
  have hb0 := below_al w (.cells #[.slice A ats.length c] 24)
  have HA := Lib.hid (hA.below hb0)
  have HB0 := Lib.hid hb0
  clear hrs hA hb0
  go_enter Tryd.func6, Tryd.ntmps6
  go_wp2_with fail
  generalize w.alloc (.cells #[.slice A ats.length c] 24) = w1 at *
  go_loopw [3, 12] (fun V i wr => ∃ (j : Nat) (qs : List (Atm × Value)), i = .int .i64 (j : Nat) ∧ j ≤ ats.length ∧ Hid (qs.map (·.1) = ats.take j) ∧ Hid (RSt w1 wr V qs)) (fun _ i _ => ats.length - (intOf i).toNat)
  case atStart => exact ⟨0, [], rfl, Nat.zero_le _, rfl, World.ownsRow_nil _ _ _ _, (fun q hq => by cases hq), Below.refl _ _⟩
  case round =>
    obtain ⟨j, qs, rfl, hjl, HQ, HS⟩ := hrel
    obtain ⟨A2, c2, rfl⟩ := row_slice2 HS.out.o
    by_cases hlt : j < ats.length
    · obtain ⟨b, off, rfl, hb, hcc⟩ := (HA.out.below HS.out.b) (by omega)
      obtain ⟨c0, c1, c2', Ai, ci, c3, hR⟩ := hcc j ats[j] (List.getElem?_eq_getElem hlt)
      have hxr := HRS.out ats[j] (List.getElem_mem hlt)
      have hTK : ats.take (j + 1) = ats.take j ++ [ats[j]] := List.take_succ_eq_append_getElem hlt
      generalize ats[j] = x at *
      have HTK := Lib.hid hTK
      obtain ⟨hxl, ⟨hxa, hxb⟩, hxp⟩ := hxr
      have HXP := Lib.hid hxp
      have hql : qs.length = j := by
        have := congrArg List.length HQ.out
        rw [List.length_map, List.length_take] at this
        omega
      have hqb : qs.length ≤ 100000 := by omega
      clear hql
      have hwx : IntKind.i64.wrap x.r = x.r := IntWalk.i64_in _ (by omega)
      clear hcc hTK hxp
      -- the copy of the atom
      have hb4 := below_al wr (.cells #[.int .i64 x.k, .int .i32 x.r, .bool x.n, .slice Ai x.rs.length ci] 28)
      have hx4 := heap_alloc_new wr (.cells #[.int .i64 x.k, .int .i32 x.r, .bool x.n, .slice Ai x.rs.length ci] 28)
      go_upto_region 5 with fail
      have HS4 := Lib.hid (HS.out.next hb4)
      have HR4 := Lib.hid (hR.below (Nat.le_refl _) hb4)
      have HX4 := Lib.hid hx4
      clear hb4 hx4 hR c0 c1 c2' c3
      generalize wr.heap.size = ga at *
      generalize wr.alloc (.cells #[.int .i64 x.k, .int .i32 x.r, .bool x.n, .slice Ai x.rs.length ci] 28) = wo at *
      have d0 := (cell_of_row _ _ 0 _ _ _ HX4.out).trans (show _ = some (Value.int .i64 x.k) from rfl)
      have d1 := (cell_of_row _ _ 1 _ _ _ HX4.out).trans (show _ = some (Value.int .i32 x.r) from rfl)
      have d2 := (cell_of_row _ _ 2 _ _ _ HX4.out).trans (show _ = some (Value.bool x.n) from rfl)
      have d3 := (cell_of_row _ _ 3 _ _ _ HX4.out).trans (show _ = some (Value.slice Ai x.rs.length ci) from rfl)
      have HT0 : Hid (RTo wo (wo.alloc (.cells #[.int .i64 x.k, .int .i64 x.r, .bool x.n, .slice none 0 0] 44)) x (.slice none 0 0) []) :=
        ⟨heap_alloc_new wo _, World.ownsRow_nil _ _ _ _, below_al wo _, by simp⟩
      have HX5 := Lib.hid ((heap_alloc_old wo (.cells #[.int .i64 x.k, .int .i64 x.r, .bool x.n, .slice none 0 0] 44) (lt_of_block HX4.out)).trans HX4.out)
      go_upto_region 6 with fail
      clear d0 d1 d2 d3
      generalize wo.alloc (.cells #[.int .i64 x.k, .int .i64 x.r, .bool x.n, .slice none 0 0] 44) = w5 at *
      have d3 := (cell_of_row _ _ 3 _ _ _ HX5.out).trans (show _ = some (Value.slice Ai x.rs.length ci) from rfl)
      go_wp2_with fail
      go_loopw [8, 27] (fun _ v wq => ∃ (i : Nat) (V : Value), i ≤ x.rs.length ∧ v = .int .i64 (i : Nat) ∧ Hid (RTo wo wq x V (x.rs.take i))) (fun _ v _ => x.rs.length - (intOf v).toNat)
      case atStart => exact ⟨0, _, Nat.zero_le _, rfl, HT0⟩
      case round =>
        obtain ⟨i, V, hil, rfl, HT⟩ := hrel
        have htl : (x.rs.take i).length = i := by rw [List.length_take]; omega
        have HO := Lib.hid HT.out.o
        obtain ⟨A3, c3, rfl⟩ := row_slice2 HT.out.o
        rw [htl] at HT
        have HTo := HT.out.o
        rw [htl] at HO HTo
        have a3 := (cell_of_row _ _ 3 _ _ _ HT.out.a).trans (show _ = some (Value.slice A3 i c3) from rfl)
        by_cases hlt2 : i < x.rs.length
        · obtain ⟨br, ofr, rfl, hbr, hcr⟩ := (HR4.out.below (Nat.le_refl _) HT.out.b) (by omega)
          obtain ⟨r0, r1⟩ := hcr i hlt2
          have hgd : x.rs.getD i (0, 0) = x.rs[i] := by rw [List.getD_eq_getElem?_getD, List.getElem?_eq_getElem hlt2]; rfl
          have hTK2 : x.rs.take (i + 1) = x.rs.take i ++ [x.rs[i]] := List.take_succ_eq_append_getElem hlt2
          have hpp := HXP.out x.rs[i] (List.getElem_mem hlt2)
          rw [hgd] at r0 r1
          generalize x.rs[i] = pr at *
          obtain ⟨u, v⟩ := pr
          obtain ⟨⟨u1, u2⟩, ⟨v1, v2⟩⟩ := hpp
          dsimp only at r0 r1 u1 u2 v1 v2
          have hwu : IntKind.i64.wrap u = u := IntWalk.i64_in _ (by omega)
          have hwv : IntKind.i64.wrap v = v := IntWalk.i64_in _ (by omega)
          have HTK2 := Lib.hid hTK2
          have HX6 := Lib.hid (heap_alloc_new wr (.cells #[.int .i32 u, .int .i32 v] 47))
          have HT6 := Lib.hid (HT.out.next (below_al wr (.cells #[.int .i32 u, .int .i32 v] 47)))
          have HOT : Hid ((wr.alloc (.cells #[.int .i32 u, .int .i32 v] 47)).ownsRow (wo.heap.size + 1) 48 2 (.slice A3 i c3) i (cellsP .i64 (x.rs.take i))) := own_below' HTo (below_al wr _)
          clear hgd hTK2 hcr HTo HO
          go_upto_region 9 with fail
          clear a3 r0 r1
          generalize wr.heap.size = gr at *
          generalize wr.alloc (.cells #[.int .i32 u, .int .i32 v] 47) = w6 at *
          have a3 := (cell_of_row _ _ 3 _ _ _ HT6.out.a).trans (show _ = some (Value.slice A3 i c3) from rfl)
          have r0 := (cell_of_row _ _ 0 _ _ _ HX6.out).trans (show _ = some (Value.int .i32 u) from rfl)
          have r1 := (cell_of_row _ _ 1 _ _ _ HX6.out).trans (show _ = some (Value.int .i32 v) from rfl)
          have HX7 := Lib.hid (heap_alloc_new w6 (.cells #[.int .i64 u, .int .i64 v] 48))
          have HB67 := below_al w6 (.cells #[.int .i64 u, .int .i64 v] 48)
          have HA7 := Lib.hid ((HB67.block _ (lt_of_block HT6.out.a)).trans HT6.out.a)
          have HO7 := Lib.hid (own_below' HOT.out HB67)
          have HB7 := Lib.hid (below_then HT6.out.b HB67)
          have HSS : Hid (wo.heap.size + 1 ≤ (w6.alloc (.cells #[.int .i64 u, .int .i64 v] 48)).heap.size) := Nat.le_trans HT6.out.s HB67.size
          have HLT := Lib.hid HOT.out.lt
          clear HB67
          go_wp2_with (at_builtin; go_must (refine wpList_append_own_at _ rfl (.tmp 32) (.tmp 40) _ rfl (wo.heap.size + 1) 48 j0 (.agg #[.int .i64 0, .int .i64 0]) 2 16 Tryd.underlying42 hj hy0 hy1 hy2 rfl (by decide) (.slice A3 i c3) i _ rfl HO7.out ⟨w6.heap.size, 0, none⟩ 1 1 [.int .i64 u, .int .i64 v] rfl rfl (by exact cells_news2 HX7.out) (by intro u hu; simp at hu; rcases hu with rfl | rfl <;> rfl) (by unfold maxLen; omega) (by omega) (by exact HSS.out) ?_; intro v' w8 hown' hgrow hnil' hloc; obtain ⟨A8, c8, rfl⟩ := row_slice2 hown'; have HO8 := Lib.hid hown'; have HB8 := Lib.hid (HB7.out.grown hgrow (by have := HSS.out; omega) (fun q hq => by have := (HLT.out q hq).1; omega)); have HA8 := Lib.hid ((hgrow.block wo.heap.size (by have := HSS.out; omega) (fun e => by have := (HLT.out _ e.symm).1; omega)).trans HA7.out); have HG8 := Lib.hid hgrow.size; have a8 := (cell_of_row _ _ 3 _ _ _ HA8.out).trans (show _ = some (Value.slice A3 i c3) from rfl); have f8 := frozen_of_row _ _ 3 _ _ HA8.out; clear hown' hgrow hnil' hloc))
          have HO9 := Lib.hid (ownsRow_setCell_below HO8.out (a := ⟨wo.heap.size, 3, none⟩) (by simp) (.slice A8 (i + 1) c8))
          have HA9 := Lib.hid (heap_setCell_same w8 wo.heap.size 3 _ _ (.slice A8 (i + 1) c8) HA8.out)
          have HB9 := Lib.hid (HB8.out.setCell (p := ⟨wo.heap.size, 3, none⟩) (Nat.le_refl _) (.slice A8 (i + 1) c8))
          have HG9 : Hid (wo.heap.size + 1 ≤ (w8.setCell ⟨wo.heap.size, 3, none⟩ (.slice A8 (i + 1) c8)).heap.size) := by
            have h1 := HG8.out
            have h2 := HSS.out
            show _ ≤ _
            simp [World.setCell]
            omega
          go_roundw
          case rel =>
            refine ⟨i + 1, _, by omega, by go_num, ⟨HA9.out, ?_, HB9.out, HG9.out⟩⟩
            have e : cellsP .i64 (x.rs.take (i + 1)) = cellsP .i64 (x.rs.take i) ++ [.int .i64 u, .int .i64 v] := by
              rw [HTK2.out, cellsP_app]
              rfl
            rw [e, show (x.rs.take (i + 1)).length = i + 1 by rw [List.length_take]; omega]
            exact HO9.out
          case measure => simp [intOf]; omega
        · obtain rfl : i = x.rs.length := by omega
          rw [List.take_length] at HTo
          have HRI : Hid (RgI wr A3 x.rs) := rgi_of_own (c := c3) HTo
          have HSq := Lib.hid (HS4.out.next HT.out.b)
          have d0 := (cell_of_row _ _ 0 _ _ _ HT.out.a).trans (show _ = some (Value.int .i64 x.k) from rfl)
          have d1 := (cell_of_row _ _ 1 _ _ _ HT.out.a).trans (show _ = some (Value.int .i64 x.r) from rfl)
          have d2 := (cell_of_row _ _ 2 _ _ _ HT.out.a).trans (show _ = some (Value.bool x.n) from rfl)
          clear HTo HO htl
          have HX7 := Lib.hid (heap_alloc_new wr (.cells #[.int .i64 x.k, .int .i64 x.r, .bool x.n, .slice A3 x.rs.length c3] 44))
          have HB7 := below_al wr (.cells #[.int .i64 x.k, .int .i64 x.r, .bool x.n, .slice A3 x.rs.length c3] 44)
          have HS7 := Lib.hid (HSq.out.next HB7)
          have HLT := Lib.hid HS7.out.o.lt
          have HSS := Lib.hid HS7.out.b.size
          have HW7 : Hid (AtmW (wr.alloc (.cells #[.int .i64 x.k, .int .i64 x.r, .bool x.n, .slice A3 x.rs.length c3] 44)) x (.slice A3 x.rs.length c3)) := ⟨A3, c3, rfl, HRI.out.below (below_al wr _)⟩
          clear HB7
          go_wp2_with (at_builtin; go_must (refine wpList_append_own_at _ rfl (.tmp 44) (.tmp 46) _ rfl w1.heap.size 44 i0 (.agg #[.int .i64 0, .int .i64 0, .bool false, .slice none 0 0]) 4 48 Tryd.underlying30 hi hz0 hz1 hz2 rfl (by decide) (.slice A2 qs.length c2) qs.length _ rfl HS7.out.o ⟨wr.heap.size, 0, none⟩ 1 1 [.int .i64 x.k, .int .i64 x.r, .bool x.n, .slice A3 x.rs.length c3] rfl rfl (by exact World.news_of_block HX7.out) (by intro u hu; simp at hu; rcases hu with rfl | rfl | rfl | rfl <;> rfl) (by unfold maxLen; omega) (by omega) (by exact HSS.out) ?_; intro v' w8 hown' hgrow hnil' hloc; have HS8 := Lib.hid (HS7.out.push (x := x) hown' hgrow HW7.out); clear hown' hgrow hnil' hloc))
          go_roundw
          case rel => exact ⟨j + 1, qs ++ [(x, .slice A3 x.rs.length c3)], by go_num, by omega, by show _ = _; rw [List.map_append, HQ.out, HTK.out]; rfl, HS8⟩
          case measure => simp [intOf]; omega
    · obtain rfl : j = ats.length := by omega
      have HQQ : Hid (qs.map (·.1) = ats) := by show _ = _; rw [HQ.out, List.take_length]
      have hql : qs.length = ats.length := by rw [← HQQ.out, List.length_map]
      go_wp2_with fail
      go_ret
      have h := rats_of_own HS.out.o HS.out.r
      rw [HQQ.out] at h
      exact ⟨A2, c2, by show Ending.returned (.slice A2 qs.length c2) = _; rw [hql], h, below_then HB0.out HS.out.b⟩
end Go.Proofs.YtpmielookhacoaaDoor
