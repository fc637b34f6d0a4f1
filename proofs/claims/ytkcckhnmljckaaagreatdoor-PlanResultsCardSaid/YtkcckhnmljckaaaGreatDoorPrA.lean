/-
  Plan: Result, of the program and of the document.
-/
import Derived.Test.YtkcckhnmljckaaaGreatDoorAcA
import Derived.BigQuiet
import Derived.Deep.Cut
import Derived.Deep.CutBlock
import Derived.Deep.CutRange
namespace Go.Proofs.YtkcckhnmljckaaaGreatDoor
set_option maxRecDepth 100000
set_option linter.unusedSimpArgs false
set_option linter.unusedVariables false
open Go.RowKit Go.Joins Go.Deep
theorem lt_of_heapP {w : World} {g : Nat} {o : Obj} (h : w.heap[g]? = some o) : g < w.heap.size := (Array.getElem?_eq_some_iff.1 h).1
theorem info_act : (Tryz.prog.info? 47).map (·.size) = some 3 := by kernel_rfl
theorem info_ract : (Tryz.prog.info? 48).map (·.size) = some 3 := by kernel_rfl
theorem below_alP (w : World) (o : Obj) : Below w.heap.size w (w.alloc o) := (Below.refl _ _).alloc (Nat.le_refl _) o
/-- A row of items of one's own, while it grows. -/
def RowI (w wr : World) (v : Value) (o : List Itm) : Prop := wr.ownsRow w.heap.size 42 8 v o.length (cellsI o) ∧ Below w.heap.size w wr
theorem RowI.below {w wr w' : World} {v : Value} {o : List Itm} (h : RowI w wr v o) (hb : Below wr.heap.size wr w') : RowI w w' v o := by
  refine ⟨h.1.kept (row := none) ⟨hb.os, hb.tape, hb.output, hb.size, fun i hi _ => hb.block i hi⟩ ?_, below_then h.2 hb⟩
  cases v.ownBlock with
  | none => exact .inl rfl
  | some g => exact .inr (by simp)
theorem RowI.drewN {w wr : World} {v : Value} {o : List Itm} (h : RowI w wr v o) (n : Nat) : RowI w (wr.drewN n) v o := ⟨h.1, below_drewN h.2 n⟩
theorem rowI_push {w w1 w2 : World} {v v' : Value} {o : List Itm} {y : Itm} (h : RowI w w1 v o) (ho : w2.ownsRow w.heap.size 42 8 v' (o.length + 1) (cellsI o ++ y.cellsL)) (hg : w1.grownBy w2 v.ownBlock) : RowI w w2 v' (o ++ [y]) := by
  refine ⟨?_, h.2.grown hg h.2.size (fun k hk => (h.1.lt k hk).1)⟩
  rw [List.length_append, cellsI_app]
  show w2.ownsRow _ _ _ _ (o.length + 1) (cellsI o ++ (y.cellsL ++ []))
  rw [List.append_nil]
  exact ho
theorem item_news (w : World) (y : Itm) : ∀ j u, y.cellsL[j]? = some u → (w.alloc (.cells y.cells 42)).cell? ((⟨w.heap.size, 0, none⟩ : Addr).add j) = some u := by
  intro j u hj
  rw [Addr.add_mid, Nat.zero_add]
  have hx := heap_alloc_new w (.cells y.cells 42)
  rw [cell_of_row _ _ _ _ _ _ hx, ← Array.getElem?_toList]
  exact hj
theorem item_ones (y : Itm) : ∀ u ∈ y.cellsL, u.oneCell' = true := fun u hu => by
  refine cellsI_one [y] u ?_
  show u ∈ y.cellsL ++ []
  rw [List.append_nil]
  exact hu
theorem row_sliceI {w : World} {B n : Nat} {v : Value} {T : TypeId} {xs : List Value} (h : w.ownsRow B T 8 v n xs) : ∃ A c, v = .slice A n c := by
  rcases h.2 with ⟨he, h0⟩ | ⟨g2, cap2, cur, he, _⟩
  · exact ⟨none, 0, by rw [he, h0]⟩
  · exact ⟨_, cap2, he⟩

set_option maxHeartbeats 16000000 in
theorem result_any (A AE AT : Option Addr) (c cE cT : Nat) (l : List Act3) (E T : List Itm) (w : World) (hl : l.length ≤ 1000) (hE : E.length ≤ 1000000) (hT : T.length ≤ 1000000) (hA : Acts3 w A l) (hRE : Itms w AE E) (hRT : Itms w AT T) :
    Calls Tryz.prog 7 #[.slice A l.length c, .slice AE E.length cE, .slice AT T.length cT] w fun e w' => ∃ A' c', e = .returned (.slice A' (resL E T l).length c') ∧ Itms w' A' (resL E T l) ∧ Below w.heap.size w w' := by
  have hia := info_act
  have hir := info_item
  obtain ⟨i0, hi, hz0, hz1, hz2⟩ := partsI
  have HA := Lib.hid hA
  have HRE := Lib.hid hRE
  have HRT := Lib.hid hRT
  clear hA hRE hRT
  go_enter Tryz.func7, Tryz.ntmps7
  go_wp2_with fail
  go_loopw [7, 9, 10, 11, 14] (fun v7 _ _ _ v14 wr => ∃ (k m : Nat) (A7 : Option Addr) (c7 : Nat), k ≤ l.length ∧ m ≤ k ∧ v14 = .int .i64 (k : Nat) ∧ v7 = .slice A7 m c7 ∧ Hid ((resL E T (l.take k)).length = m) ∧ Hid (RowI w wr (.slice A7 m c7) (resL E T (l.take k)))) (fun _ _ _ _ v _ => l.length - (intOf v).toNat)
  case atStart => exact ⟨0, 0, none, 0, Nat.zero_le _, Nat.le_refl _, rfl, rfl, rfl, World.ownsRow_nil _ _ _ _, Below.refl _ _⟩
  case round =>
    obtain ⟨k, m, A7, c7, hk, hmk, rfl, rfl, HOL, HRO⟩ := hrel
    by_cases hlt : k < l.length
    · have hd : decide ((k : Int) < (l.length : Int)) = true := decide_eq_true (by omega)
      obtain ⟨b, off, rfl, hbl, hcc⟩ := (HA.out.below HRO.out.2) (by omega)
      obtain ⟨c0, c1, c2⟩ := hcc k l[k] (List.getElem?_eq_getElem hlt)
      have HSN := Lib.hid (resL_snoc E T l k hlt)
      have hbx := below_alP wr (.cells l[k].cells 47)
      have hx0 := heap_alloc_new wr (.cells l[k].cells 47)
      have HR1 := Lib.hid (HRO.out.below hbx)
      have HB1 := Lib.hid (HR1.out.2)
      have HNE : Hid (∀ j, (Value.slice A7 m c7).ownBlock = some j → j < wr.heap.size) := fun j hj => (HRO.out.1.lt j hj).2
      clear hcc hbx
      obtain ⟨ac, hac⟩ : ∃ ac, ac = l[k] := ⟨_, rfl⟩
      rw [← hac] at c0 c1 c2 HSN hx0 HR1 HB1
      clear hac
      obtain ⟨x0, x1, x2⟩ := ac
      simp only [Act3.cells] at hx0 HR1 HB1
      dsimp only at c0 c1 c2
      have z0 := (cell_of_row _ _ 0 _ _ _ hx0).trans (show _ = some (Value.int .i64 x0) from rfl)
      have z1 := (cell_of_row _ _ 1 _ _ _ hx0).trans (show _ = some (Value.int .i64 x1) from rfl)
      have z2 := (cell_of_row _ _ 2 _ _ _ hx0).trans (show _ = some (Value.int .i64 x2) from rfl)
      obtain ⟨o, ho⟩ : ∃ o, o = resL E T (l.take k) := ⟨_, rfl⟩
      rw [← ho] at HSN HR1 HOL
      have hk62 : (k : Int) + 1 < 9223372036854775807 := by omega
      have hm62 : m ≤ 1000 := by omega
      have HX := Lib.hid hx0
      clear ho hx0 HRO
      go_upto_region 5 with fail
      generalize hg : wr.heap.size = g at *
      clear hg
      generalize wr.alloc (.cells #[.int .i64 x0, .int .i64 x1, .int .i64 x2] 47) = w1 at *
      go_quiet (fail)
      have HR1 := Lib.hid (HR1.out.drewN nq)
      have HB1 := Lib.hid HR1.out.2
      have HX : Hid ((w1.drewN nq).heap[g]? = _) := HX.out
      have z0 : (w1.drewN nq).cell? _ = _ := z0
      have z1 : (w1.drewN nq).cell? _ = _ := z1
      have z2 : (w1.drewN nq).cell? _ = _ := z2
      generalize w1.drewN nq = w1 at *
      by_cases h1 : x0 = 1
      · subst h1
        go_wp2_with fail
        go_quiet (fail)
        have HR1 := Lib.hid (HR1.out.drewN nq)
        have HB1 := Lib.hid HR1.out.2
        have HX : Hid ((w1.drewN nq).heap[g]? = _) := HX.out
        have z0 : (w1.drewN nq).cell? _ = _ := z0
        have z1 : (w1.drewN nq).cell? _ = _ := z1
        have z2 : (w1.drewN nq).cell? _ = _ := z2
        generalize w1.drewN nq = w1 at *
        have HAC : Hid (actR E T ⟨1, x1, x2⟩ = atI E x1) := if_pos rfl
        by_cases hin : 0 ≤ x1 ∧ x1 < (E.length : Int)
        · obtain ⟨n, hn, hxn, hat⟩ := atI_in hin.1 hin.2
          have HAT := Lib.hid (HAC.out.trans hat)
          clear hin hat HAC
          subst hxn
          obtain ⟨b2, off2, rfl, hbl2, hcc2⟩ := (HRE.out.below HB1.out) (by omega)
          obtain ⟨d0, d1, d2, d3, d4, d5, d6, d7⟩ := hcc2 n E[n] (List.getElem?_eq_getElem hn)
          clear hcc2
          generalize E[n] = y at *
          obtain ⟨y0, y1, y2, y3, y4, y5, y6, y7⟩ := y
          dsimp only at d0 d1 d2 d3 d4 d5 d6 d7
          have hnI : (n : Int) < (E.length : Int) := by omega
          obtain ⟨y, hy⟩ : ∃ y : Itm, y = ⟨y0, y1, y2, y3, y4, y5, y6, y7⟩ := ⟨_, rfl⟩
          have HRW := Lib.hid (HR1.out.below (below_alP w1 (.cells y.cells 42)))
          have HNW := Lib.hid (item_news w1 y)
          have HON := Lib.hid (item_ones y)
          have HYL : Hid (y.cellsL = [.string y0, .int .i64 y1, .int .u32 y2, .int .u32 y3, .int .u32 y4, .int .i64 y5, .int .i64 y6, .string y7]) := by subst hy; rfl
          have HYC : Hid (y.cells = #[.string y0, .int .i64 y1, .int .u32 y2, .int .u32 y3, .int .u32 y4, .int .i64 y5, .int .i64 y6, .string y7]) := by subst hy; rfl
          rw [HYC.out] at HRW HNW
          rw [HYL.out] at HNW HON
          have HY := Lib.hid hy
          clear hy HYC
          go_wp2_with (at_builtin; refine wpList_append_own_at _ rfl (.tmp 39) (.tmp 44) _ rfl w.heap.size 42 i0 (.agg #[.string ⟨#[]⟩, .int .i64 0, .int .u32 0, .int .u32 0, .int .u32 0, .int .i64 0, .int .i64 0, .string ⟨#[]⟩]) 8 72 Tryz.underlying23 hi hz0 hz1 hz2 rfl (by decide) (.slice A7 m c7) m (cellsI o) rfl (by have h := HRW.out.1; rw [HOL.out] at h; exact h) ⟨w1.heap.size, 0, none⟩ 1 1 [.string y0, .int .i64 y1, .int .u32 y2, .int .u32 y3, .int .u32 y4, .int .i64 y5, .int .i64 y6, .string y7] rfl rfl ?c1 ?c2 ?c3 ?c4 ?c5 ?_)
          case c1 => exact HNW.out
          case c2 => exact HON.out
          case c3 => unfold maxLen; omega
          case c4 => omega
          case c5 => exact HRW.out.2.size
          intro v8 w8 hown hgrow _ _
          have HR8 : Hid (RowI w w8 v8 (o ++ [y])) := rowI_push HRW.out (by rw [HOL.out, HYL.out]; exact hown) hgrow
          obtain ⟨A8, c8, rfl⟩ := row_sliceI hown
          have HR9 : Hid (RowI w w8 (.slice A8 (m + 1) c8) (o ++ [y])) := HR8.out
          have HX8 := Lib.hid ((hgrow.block g (Nat.lt_of_lt_of_le (lt_of_heapP HX.out) (below_alP w1 _).size) (fun e => by have := HNE.out _ e.symm; have := lt_of_heapP HX.out; omega)).trans (((below_alP w1 _).block g (lt_of_heapP HX.out)).trans HX.out))
          have z0 := (cell_of_row _ _ 0 _ _ _ HX8.out).trans (show _ = some (Value.int .i64 1) from rfl)
          have z1 := (cell_of_row _ _ 1 _ _ _ HX8.out).trans (show _ = some (Value.int .i64 n) from rfl)
          have z2 := (cell_of_row _ _ 2 _ _ _ HX8.out).trans (show _ = some (Value.int .i64 x2) from rfl)
          clear hown hgrow HRW HNW HON HR8
          have HE : Hid ((resL E T (l.take (k + 1))).length = m + 1 ∧ RowI w w8 (.slice A8 (m + 1) c8) (resL E T (l.take (k + 1)))) := by
            show _ ∧ _
            rw [HSN.out, HAT.out, List.length_append, HOL.out]
            rw [HY.out] at HR9
            exact ⟨rfl, HR9.out⟩
          go_wp2_with fail
          go_roundw
          case rel => exact ⟨k + 1, m + 1, A8, c8, by omega, by omega, by go_num, rfl, HE.out.1, HE.out.2⟩
          case measure => simp [intOf]; omega
        · have HAT := Lib.hid (HAC.out.trans (atI_out hin))
          clear HAC
          by_cases h0 : 0 ≤ x1
          · have q0 : decide ((0 : Int) ≤ x1) = true := decide_eq_true h0
            have q1 : decide (x1 < (E.length : Int)) = false := decide_eq_false (fun h => hin ⟨h0, h⟩)
            clear hin
            have HE : Hid ((resL E T (l.take (k + 1))).length = m ∧ RowI w w1 (.slice A7 m c7) (resL E T (l.take (k + 1)))) := by
              show _ ∧ _
              rw [HSN.out, HAT.out, List.append_nil]
              exact ⟨HOL.out, HR1.out⟩
            go_wp2_with fail
            go_roundw
            case rel => exact ⟨k + 1, m, A7, c7, by omega, by omega, by go_num, rfl, HE.out.1, HE.out.2⟩
            case measure => simp [intOf]; omega
          · have q0 : decide ((0 : Int) ≤ x1) = false := decide_eq_false h0
            clear hin
            have HE : Hid ((resL E T (l.take (k + 1))).length = m ∧ RowI w w1 (.slice A7 m c7) (resL E T (l.take (k + 1)))) := by
              show _ ∧ _
              rw [HSN.out, HAT.out, List.append_nil]
              exact ⟨HOL.out, HR1.out⟩
            go_wp2_with fail
            go_roundw
            case rel => exact ⟨k + 1, m, A7, c7, by omega, by omega, by go_num, rfl, HE.out.1, HE.out.2⟩
            case measure => simp [intOf]; omega
      have n1 : (x0 == 1) = false := beq_eq_false_iff_ne.2 h1
      by_cases h2 : x0 = 2
      · subst h2
        have HAC : Hid (actR E T ⟨2, x1, x2⟩ = atI T x2) := by show (if (2 : Int) = 1 then _ else if (2 : Int) = 2 ∨ (2 : Int) = 4 then _ else _) = _; rw [if_neg (by decide), if_pos (by decide)]
        by_cases hin : 0 ≤ x2 ∧ x2 < (T.length : Int)
        · obtain ⟨n, hn, hxn, hat⟩ := atI_in hin.1 hin.2
          have HAT := Lib.hid (HAC.out.trans hat)
          clear hin hat HAC
          subst hxn
          obtain ⟨b2, off2, rfl, hbl2, hcc2⟩ := (HRT.out.below HB1.out) (by omega)
          obtain ⟨d0, d1, d2, d3, d4, d5, d6, d7⟩ := hcc2 n T[n] (List.getElem?_eq_getElem hn)
          clear hcc2
          generalize T[n] = y at *
          obtain ⟨y0, y1, y2, y3, y4, y5, y6, y7⟩ := y
          dsimp only at d0 d1 d2 d3 d4 d5 d6 d7
          have hnI : (n : Int) < (T.length : Int) := by omega
          obtain ⟨y, hy⟩ : ∃ y : Itm, y = ⟨y0, y1, y2, y3, y4, y5, y6, y7⟩ := ⟨_, rfl⟩
          have HRW := Lib.hid (HR1.out.below (below_alP w1 (.cells y.cells 42)))
          have HNW := Lib.hid (item_news w1 y)
          have HON := Lib.hid (item_ones y)
          have HYL : Hid (y.cellsL = [.string y0, .int .i64 y1, .int .u32 y2, .int .u32 y3, .int .u32 y4, .int .i64 y5, .int .i64 y6, .string y7]) := by subst hy; rfl
          have HYC : Hid (y.cells = #[.string y0, .int .i64 y1, .int .u32 y2, .int .u32 y3, .int .u32 y4, .int .i64 y5, .int .i64 y6, .string y7]) := by subst hy; rfl
          rw [HYC.out] at HRW HNW
          rw [HYL.out] at HNW HON
          have HY := Lib.hid hy
          clear hy HYC
          go_wp2_with (at_builtin; refine wpList_append_own_at _ rfl (.tmp 39) (.tmp 44) _ rfl w.heap.size 42 i0 (.agg #[.string ⟨#[]⟩, .int .i64 0, .int .u32 0, .int .u32 0, .int .u32 0, .int .i64 0, .int .i64 0, .string ⟨#[]⟩]) 8 72 Tryz.underlying23 hi hz0 hz1 hz2 rfl (by decide) (.slice A7 m c7) m (cellsI o) rfl (by have h := HRW.out.1; rw [HOL.out] at h; exact h) ⟨w1.heap.size, 0, none⟩ 1 1 [.string y0, .int .i64 y1, .int .u32 y2, .int .u32 y3, .int .u32 y4, .int .i64 y5, .int .i64 y6, .string y7] rfl rfl ?c1 ?c2 ?c3 ?c4 ?c5 ?_)
          case c1 => exact HNW.out
          case c2 => exact HON.out
          case c3 => unfold maxLen; omega
          case c4 => omega
          case c5 => exact HRW.out.2.size
          intro v8 w8 hown hgrow _ _
          have HR8 : Hid (RowI w w8 v8 (o ++ [y])) := rowI_push HRW.out (by rw [HOL.out, HYL.out]; exact hown) hgrow
          obtain ⟨A8, c8, rfl⟩ := row_sliceI hown
          have HR9 : Hid (RowI w w8 (.slice A8 (m + 1) c8) (o ++ [y])) := HR8.out
          have HX8 := Lib.hid ((hgrow.block g (Nat.lt_of_lt_of_le (lt_of_heapP HX.out) (below_alP w1 _).size) (fun e => by have := HNE.out _ e.symm; have := lt_of_heapP HX.out; omega)).trans (((below_alP w1 _).block g (lt_of_heapP HX.out)).trans HX.out))
          have z0 := (cell_of_row _ _ 0 _ _ _ HX8.out).trans (show _ = some (Value.int .i64 2) from rfl)
          have z1 := (cell_of_row _ _ 1 _ _ _ HX8.out).trans (show _ = some (Value.int .i64 x1) from rfl)
          have z2 := (cell_of_row _ _ 2 _ _ _ HX8.out).trans (show _ = some (Value.int .i64 n) from rfl)
          clear hown hgrow HRW HNW HON HR8
          have HE : Hid ((resL E T (l.take (k + 1))).length = m + 1 ∧ RowI w w8 (.slice A8 (m + 1) c8) (resL E T (l.take (k + 1)))) := by
            show _ ∧ _
            rw [HSN.out, HAT.out, List.length_append, HOL.out]
            rw [HY.out] at HR9
            exact ⟨rfl, HR9.out⟩
          go_wp2_with fail
          go_roundw
          case rel => exact ⟨k + 1, m + 1, A8, c8, by omega, by omega, by go_num, rfl, HE.out.1, HE.out.2⟩
          case measure => simp [intOf]; omega
        · have HAT := Lib.hid (HAC.out.trans (atI_out hin))
          clear HAC
          by_cases h0 : 0 ≤ x2
          · have q0 : decide ((0 : Int) ≤ x2) = true := decide_eq_true h0
            have q1 : decide (x2 < (T.length : Int)) = false := decide_eq_false (fun h => hin ⟨h0, h⟩)
            clear hin
            have HE : Hid ((resL E T (l.take (k + 1))).length = m ∧ RowI w w1 (.slice A7 m c7) (resL E T (l.take (k + 1)))) := by
              show _ ∧ _
              rw [HSN.out, HAT.out, List.append_nil]
              exact ⟨HOL.out, HR1.out⟩
            go_wp2_with fail
            go_roundw
            case rel => exact ⟨k + 1, m, A7, c7, by omega, by omega, by go_num, rfl, HE.out.1, HE.out.2⟩
            case measure => simp [intOf]; omega
          · have q0 : decide ((0 : Int) ≤ x2) = false := decide_eq_false h0
            clear hin
            have HE : Hid ((resL E T (l.take (k + 1))).length = m ∧ RowI w w1 (.slice A7 m c7) (resL E T (l.take (k + 1)))) := by
              show _ ∧ _
              rw [HSN.out, HAT.out, List.append_nil]
              exact ⟨HOL.out, HR1.out⟩
            go_wp2_with fail
            go_roundw
            case rel => exact ⟨k + 1, m, A7, c7, by omega, by omega, by go_num, rfl, HE.out.1, HE.out.2⟩
            case measure => simp [intOf]; omega
      have n2 : (x0 == 2) = false := beq_eq_false_iff_ne.2 h2
      by_cases h4 : x0 = 4
      · subst h4
        have HAC : Hid (actR E T ⟨4, x1, x2⟩ = atI T x2) := by show (if (4 : Int) = 1 then _ else if (4 : Int) = 2 ∨ (4 : Int) = 4 then _ else _) = _; rw [if_neg (by decide), if_pos (by decide)]
        by_cases hin : 0 ≤ x2 ∧ x2 < (T.length : Int)
        · obtain ⟨n, hn, hxn, hat⟩ := atI_in hin.1 hin.2
          have HAT := Lib.hid (HAC.out.trans hat)
          clear hin hat HAC
          subst hxn
          obtain ⟨b2, off2, rfl, hbl2, hcc2⟩ := (HRT.out.below HB1.out) (by omega)
          obtain ⟨d0, d1, d2, d3, d4, d5, d6, d7⟩ := hcc2 n T[n] (List.getElem?_eq_getElem hn)
          clear hcc2
          generalize T[n] = y at *
          obtain ⟨y0, y1, y2, y3, y4, y5, y6, y7⟩ := y
          dsimp only at d0 d1 d2 d3 d4 d5 d6 d7
          have hnI : (n : Int) < (T.length : Int) := by omega
          obtain ⟨y, hy⟩ : ∃ y : Itm, y = ⟨y0, y1, y2, y3, y4, y5, y6, y7⟩ := ⟨_, rfl⟩
          have HRW := Lib.hid (HR1.out.below (below_alP w1 (.cells y.cells 42)))
          have HNW := Lib.hid (item_news w1 y)
          have HON := Lib.hid (item_ones y)
          have HYL : Hid (y.cellsL = [.string y0, .int .i64 y1, .int .u32 y2, .int .u32 y3, .int .u32 y4, .int .i64 y5, .int .i64 y6, .string y7]) := by subst hy; rfl
          have HYC : Hid (y.cells = #[.string y0, .int .i64 y1, .int .u32 y2, .int .u32 y3, .int .u32 y4, .int .i64 y5, .int .i64 y6, .string y7]) := by subst hy; rfl
          rw [HYC.out] at HRW HNW
          rw [HYL.out] at HNW HON
          have HY := Lib.hid hy
          clear hy HYC
          go_wp2_with (at_builtin; refine wpList_append_own_at _ rfl (.tmp 39) (.tmp 44) _ rfl w.heap.size 42 i0 (.agg #[.string ⟨#[]⟩, .int .i64 0, .int .u32 0, .int .u32 0, .int .u32 0, .int .i64 0, .int .i64 0, .string ⟨#[]⟩]) 8 72 Tryz.underlying23 hi hz0 hz1 hz2 rfl (by decide) (.slice A7 m c7) m (cellsI o) rfl (by have h := HRW.out.1; rw [HOL.out] at h; exact h) ⟨w1.heap.size, 0, none⟩ 1 1 [.string y0, .int .i64 y1, .int .u32 y2, .int .u32 y3, .int .u32 y4, .int .i64 y5, .int .i64 y6, .string y7] rfl rfl ?c1 ?c2 ?c3 ?c4 ?c5 ?_)
          case c1 => exact HNW.out
          case c2 => exact HON.out
          case c3 => unfold maxLen; omega
          case c4 => omega
          case c5 => exact HRW.out.2.size
          intro v8 w8 hown hgrow _ _
          have HR8 : Hid (RowI w w8 v8 (o ++ [y])) := rowI_push HRW.out (by rw [HOL.out, HYL.out]; exact hown) hgrow
          obtain ⟨A8, c8, rfl⟩ := row_sliceI hown
          have HR9 : Hid (RowI w w8 (.slice A8 (m + 1) c8) (o ++ [y])) := HR8.out
          have HX8 := Lib.hid ((hgrow.block g (Nat.lt_of_lt_of_le (lt_of_heapP HX.out) (below_alP w1 _).size) (fun e => by have := HNE.out _ e.symm; have := lt_of_heapP HX.out; omega)).trans (((below_alP w1 _).block g (lt_of_heapP HX.out)).trans HX.out))
          have z0 := (cell_of_row _ _ 0 _ _ _ HX8.out).trans (show _ = some (Value.int .i64 4) from rfl)
          have z1 := (cell_of_row _ _ 1 _ _ _ HX8.out).trans (show _ = some (Value.int .i64 x1) from rfl)
          have z2 := (cell_of_row _ _ 2 _ _ _ HX8.out).trans (show _ = some (Value.int .i64 n) from rfl)
          clear hown hgrow HRW HNW HON HR8
          have HE : Hid ((resL E T (l.take (k + 1))).length = m + 1 ∧ RowI w w8 (.slice A8 (m + 1) c8) (resL E T (l.take (k + 1)))) := by
            show _ ∧ _
            rw [HSN.out, HAT.out, List.length_append, HOL.out]
            rw [HY.out] at HR9
            exact ⟨rfl, HR9.out⟩
          go_wp2_with fail
          go_roundw
          case rel => exact ⟨k + 1, m + 1, A8, c8, by omega, by omega, by go_num, rfl, HE.out.1, HE.out.2⟩
          case measure => simp [intOf]; omega
        · have HAT := Lib.hid (HAC.out.trans (atI_out hin))
          clear HAC
          by_cases h0 : 0 ≤ x2
          · have q0 : decide ((0 : Int) ≤ x2) = true := decide_eq_true h0
            have q1 : decide (x2 < (T.length : Int)) = false := decide_eq_false (fun h => hin ⟨h0, h⟩)
            clear hin
            have HE : Hid ((resL E T (l.take (k + 1))).length = m ∧ RowI w w1 (.slice A7 m c7) (resL E T (l.take (k + 1)))) := by
              show _ ∧ _
              rw [HSN.out, HAT.out, List.append_nil]
              exact ⟨HOL.out, HR1.out⟩
            go_wp2_with fail
            go_roundw
            case rel => exact ⟨k + 1, m, A7, c7, by omega, by omega, by go_num, rfl, HE.out.1, HE.out.2⟩
            case measure => simp [intOf]; omega
          · have q0 : decide ((0 : Int) ≤ x2) = false := decide_eq_false h0
            clear hin
            have HE : Hid ((resL E T (l.take (k + 1))).length = m ∧ RowI w w1 (.slice A7 m c7) (resL E T (l.take (k + 1)))) := by
              show _ ∧ _
              rw [HSN.out, HAT.out, List.append_nil]
              exact ⟨HOL.out, HR1.out⟩
            go_wp2_with fail
            go_roundw
            case rel => exact ⟨k + 1, m, A7, c7, by omega, by omega, by go_num, rfl, HE.out.1, HE.out.2⟩
            case measure => simp [intOf]; omega
      have n4 : (x0 == 4) = false := beq_eq_false_iff_ne.2 h4
      have HAT : Hid (actR E T ⟨x0, x1, x2⟩ = []) := by show (if x0 = 1 then _ else if x0 = 2 ∨ x0 = 4 then _ else _) = _; rw [if_neg h1, if_neg (by omega)]
      have HE : Hid ((resL E T (l.take (k + 1))).length = m ∧ RowI w w1 (.slice A7 m c7) (resL E T (l.take (k + 1)))) := by
        show _ ∧ _
        rw [HSN.out, HAT.out, List.append_nil]
        exact ⟨HOL.out, HR1.out⟩
      go_wp2_with fail
      go_roundw
      case rel => exact ⟨k + 1, m, A7, c7, by omega, by omega, by go_num, rfl, HE.out.1, HE.out.2⟩
      case measure => simp [intOf]; omega
    · obtain rfl : k = l.length := by omega
      have hd : decide ((l.length : Int) < (l.length : Int)) = false := decide_eq_false (by omega)
      rw [List.take_length] at HOL HRO
      have HIT : Hid (Itms wr A7 (resL E T l)) := itms_of_own (cap := c7) (by have h := HRO.out.1; rw [HOL.out]; rw [HOL.out] at h; exact h)
      have HB := Lib.hid HRO.out.2
      clear HRO
      go_wp2_with fail
      go_ret
      exact ⟨A7, c7, by rw [HOL.out]; rfl, HIT.out, HB.out⟩
set_option maxHeartbeats 16000000 in
theorem rresult_any (A AE AT : Option Addr) (c cE cT : Nat) (l : List Act3) (E T : List Itm) (w : World) (hl : l.length ≤ 1000) (hE : E.length ≤ 1000000) (hT : T.length ≤ 1000000) (hA : Acts3 w A l) (hRE : Itms w AE E) (hRT : Itms w AT T) :
    Calls Tryz.prog 8 #[.slice A l.length c, .slice AE E.length cE, .slice AT T.length cT] w fun e w' => ∃ A' c', e = .returned (.slice A' (resL E T l).length c') ∧ Itms w' A' (resL E T l) ∧ Below w.heap.size w w' := by
  have hia := info_ract
  have hir := info_item
  obtain ⟨i0, hi, hz0, hz1, hz2⟩ := partsI
  have HA := Lib.hid hA
  have HRE := Lib.hid hRE
  have HRT := Lib.hid hRT
  clear hA hRE hRT
  go_enter Tryz.func8, Tryz.ntmps8
  go_wp2_with fail
  go_loopw [7, 9, 12] (fun v7 _ v14 wr => ∃ (k m : Nat) (A7 : Option Addr) (c7 : Nat), k ≤ l.length ∧ m ≤ k ∧ v14 = .int .i64 (k : Nat) ∧ v7 = .slice A7 m c7 ∧ Hid ((resL E T (l.take k)).length = m) ∧ Hid (RowI w wr (.slice A7 m c7) (resL E T (l.take k)))) (fun _ _ v _ => l.length - (intOf v).toNat)
  case atStart => exact ⟨0, 0, none, 0, Nat.zero_le _, Nat.le_refl _, rfl, rfl, rfl, World.ownsRow_nil _ _ _ _, Below.refl _ _⟩
  case round =>
    obtain ⟨k, m, A7, c7, hk, hmk, rfl, rfl, HOL, HRO⟩ := hrel
    by_cases hlt : k < l.length
    · have hd : decide ((k : Int) < (l.length : Int)) = true := decide_eq_true (by omega)
      obtain ⟨b, off, rfl, hbl, hcc⟩ := (HA.out.below HRO.out.2) (by omega)
      obtain ⟨c0, c1, c2⟩ := hcc k l[k] (List.getElem?_eq_getElem hlt)
      have HSN := Lib.hid (resL_snoc E T l k hlt)
      have hbx := below_alP wr (.cells l[k].cells 48)
      have hx0 := heap_alloc_new wr (.cells l[k].cells 48)
      have HR1 := Lib.hid (HRO.out.below hbx)
      have HB1 := Lib.hid (HR1.out.2)
      have HNE : Hid (∀ j, (Value.slice A7 m c7).ownBlock = some j → j < wr.heap.size) := fun j hj => (HRO.out.1.lt j hj).2
      clear hcc hbx
      obtain ⟨ac, hac⟩ : ∃ ac, ac = l[k] := ⟨_, rfl⟩
      rw [← hac] at c0 c1 c2 HSN hx0 HR1 HB1
      clear hac
      obtain ⟨x0, x1, x2⟩ := ac
      simp only [Act3.cells] at hx0 HR1 HB1
      dsimp only at c0 c1 c2
      have z0 := (cell_of_row _ _ 0 _ _ _ hx0).trans (show _ = some (Value.int .i64 x0) from rfl)
      have z1 := (cell_of_row _ _ 1 _ _ _ hx0).trans (show _ = some (Value.int .i64 x1) from rfl)
      have z2 := (cell_of_row _ _ 2 _ _ _ hx0).trans (show _ = some (Value.int .i64 x2) from rfl)
      obtain ⟨o, ho⟩ : ∃ o, o = resL E T (l.take k) := ⟨_, rfl⟩
      rw [← ho] at HSN HR1 HOL
      have hk62 : (k : Int) + 1 < 9223372036854775807 := by omega
      have hm62 : m ≤ 1000 := by omega
      have HX := Lib.hid hx0
      clear ho hx0 HRO
      go_upto_region 5 with fail
      generalize hg : wr.heap.size = g at *
      clear hg
      generalize wr.alloc (.cells #[.int .i64 x0, .int .i64 x1, .int .i64 x2] 48) = w1 at *
      by_cases h1 : x0 = 1
      · subst h1
        have HAC : Hid (actR E T ⟨1, x1, x2⟩ = atI E x1) := if_pos rfl
        by_cases hin : 0 ≤ x1 ∧ x1 < (E.length : Int)
        · obtain ⟨n, hn, hxn, hat⟩ := atI_in hin.1 hin.2
          have HAT := Lib.hid (HAC.out.trans hat)
          clear hin hat HAC
          subst hxn
          obtain ⟨b2, off2, rfl, hbl2, hcc2⟩ := (HRE.out.below HB1.out) (by omega)
          obtain ⟨d0, d1, d2, d3, d4, d5, d6, d7⟩ := hcc2 n E[n] (List.getElem?_eq_getElem hn)
          clear hcc2
          generalize E[n] = y at *
          obtain ⟨y0, y1, y2, y3, y4, y5, y6, y7⟩ := y
          dsimp only at d0 d1 d2 d3 d4 d5 d6 d7
          have hnI : (n : Int) < (E.length : Int) := by omega
          obtain ⟨y, hy⟩ : ∃ y : Itm, y = ⟨y0, y1, y2, y3, y4, y5, y6, y7⟩ := ⟨_, rfl⟩
          have HRW := Lib.hid (HR1.out.below (below_alP w1 (.cells y.cells 42)))
          have HNW := Lib.hid (item_news w1 y)
          have HON := Lib.hid (item_ones y)
          have HYL : Hid (y.cellsL = [.string y0, .int .i64 y1, .int .u32 y2, .int .u32 y3, .int .u32 y4, .int .i64 y5, .int .i64 y6, .string y7]) := by subst hy; rfl
          have HYC : Hid (y.cells = #[.string y0, .int .i64 y1, .int .u32 y2, .int .u32 y3, .int .u32 y4, .int .i64 y5, .int .i64 y6, .string y7]) := by subst hy; rfl
          rw [HYC.out] at HRW HNW
          rw [HYL.out] at HNW HON
          have HY := Lib.hid hy
          clear hy HYC
          go_wp2_with (at_builtin; refine wpList_append_own_at _ rfl (.tmp 31) (.tmp 37) _ rfl w.heap.size 42 i0 (.agg #[.string ⟨#[]⟩, .int .i64 0, .int .u32 0, .int .u32 0, .int .u32 0, .int .i64 0, .int .i64 0, .string ⟨#[]⟩]) 8 72 Tryz.underlying23 hi hz0 hz1 hz2 rfl (by decide) (.slice A7 m c7) m (cellsI o) rfl (by have h := HRW.out.1; rw [HOL.out] at h; exact h) ⟨w1.heap.size, 0, none⟩ 1 1 [.string y0, .int .i64 y1, .int .u32 y2, .int .u32 y3, .int .u32 y4, .int .i64 y5, .int .i64 y6, .string y7] rfl rfl ?c1 ?c2 ?c3 ?c4 ?c5 ?_)
          case c1 => exact HNW.out
          case c2 => exact HON.out
          case c3 => unfold maxLen; omega
          case c4 => omega
          case c5 => exact HRW.out.2.size
          intro v8 w8 hown hgrow _ _
          have HR8 : Hid (RowI w w8 v8 (o ++ [y])) := rowI_push HRW.out (by rw [HOL.out, HYL.out]; exact hown) hgrow
          obtain ⟨A8, c8, rfl⟩ := row_sliceI hown
          have HR9 : Hid (RowI w w8 (.slice A8 (m + 1) c8) (o ++ [y])) := HR8.out
          have HX8 := Lib.hid ((hgrow.block g (Nat.lt_of_lt_of_le (lt_of_heapP HX.out) (below_alP w1 _).size) (fun e => by have := HNE.out _ e.symm; have := lt_of_heapP HX.out; omega)).trans (((below_alP w1 _).block g (lt_of_heapP HX.out)).trans HX.out))
          have z0 := (cell_of_row _ _ 0 _ _ _ HX8.out).trans (show _ = some (Value.int .i64 1) from rfl)
          have z1 := (cell_of_row _ _ 1 _ _ _ HX8.out).trans (show _ = some (Value.int .i64 n) from rfl)
          have z2 := (cell_of_row _ _ 2 _ _ _ HX8.out).trans (show _ = some (Value.int .i64 x2) from rfl)
          clear hown hgrow HRW HNW HON HR8
          have HE : Hid ((resL E T (l.take (k + 1))).length = m + 1 ∧ RowI w w8 (.slice A8 (m + 1) c8) (resL E T (l.take (k + 1)))) := by
            show _ ∧ _
            rw [HSN.out, HAT.out, List.length_append, HOL.out]
            rw [HY.out] at HR9
            exact ⟨rfl, HR9.out⟩
          go_wp2_with fail
          go_roundw
          case rel => exact ⟨k + 1, m + 1, A8, c8, by omega, by omega, by go_num, rfl, HE.out.1, HE.out.2⟩
          case measure => simp [intOf]; omega
        · have HAT := Lib.hid (HAC.out.trans (atI_out hin))
          clear HAC
          by_cases h0 : 0 ≤ x1
          · have q0 : decide ((0 : Int) ≤ x1) = true := decide_eq_true h0
            have q1 : decide (x1 < (E.length : Int)) = false := decide_eq_false (fun h => hin ⟨h0, h⟩)
            clear hin
            have HE : Hid ((resL E T (l.take (k + 1))).length = m ∧ RowI w w1 (.slice A7 m c7) (resL E T (l.take (k + 1)))) := by
              show _ ∧ _
              rw [HSN.out, HAT.out, List.append_nil]
              exact ⟨HOL.out, HR1.out⟩
            go_wp2_with fail
            go_roundw
            case rel => exact ⟨k + 1, m, A7, c7, by omega, by omega, by go_num, rfl, HE.out.1, HE.out.2⟩
            case measure => simp [intOf]; omega
          · have q0 : decide ((0 : Int) ≤ x1) = false := decide_eq_false h0
            clear hin
            have HE : Hid ((resL E T (l.take (k + 1))).length = m ∧ RowI w w1 (.slice A7 m c7) (resL E T (l.take (k + 1)))) := by
              show _ ∧ _
              rw [HSN.out, HAT.out, List.append_nil]
              exact ⟨HOL.out, HR1.out⟩
            go_wp2_with fail
            go_roundw
            case rel => exact ⟨k + 1, m, A7, c7, by omega, by omega, by go_num, rfl, HE.out.1, HE.out.2⟩
            case measure => simp [intOf]; omega
      have n1 : (x0 == 1) = false := beq_eq_false_iff_ne.2 h1
      by_cases h2 : x0 = 2
      · subst h2
        have HAC : Hid (actR E T ⟨2, x1, x2⟩ = atI T x2) := by show (if (2 : Int) = 1 then _ else if (2 : Int) = 2 ∨ (2 : Int) = 4 then _ else _) = _; rw [if_neg (by decide), if_pos (by decide)]
        by_cases hin : 0 ≤ x2 ∧ x2 < (T.length : Int)
        · obtain ⟨n, hn, hxn, hat⟩ := atI_in hin.1 hin.2
          have HAT := Lib.hid (HAC.out.trans hat)
          clear hin hat HAC
          subst hxn
          obtain ⟨b2, off2, rfl, hbl2, hcc2⟩ := (HRT.out.below HB1.out) (by omega)
          obtain ⟨d0, d1, d2, d3, d4, d5, d6, d7⟩ := hcc2 n T[n] (List.getElem?_eq_getElem hn)
          clear hcc2
          generalize T[n] = y at *
          obtain ⟨y0, y1, y2, y3, y4, y5, y6, y7⟩ := y
          dsimp only at d0 d1 d2 d3 d4 d5 d6 d7
          have hnI : (n : Int) < (T.length : Int) := by omega
          obtain ⟨y, hy⟩ : ∃ y : Itm, y = ⟨y0, y1, y2, y3, y4, y5, y6, y7⟩ := ⟨_, rfl⟩
          have HRW := Lib.hid (HR1.out.below (below_alP w1 (.cells y.cells 42)))
          have HNW := Lib.hid (item_news w1 y)
          have HON := Lib.hid (item_ones y)
          have HYL : Hid (y.cellsL = [.string y0, .int .i64 y1, .int .u32 y2, .int .u32 y3, .int .u32 y4, .int .i64 y5, .int .i64 y6, .string y7]) := by subst hy; rfl
          have HYC : Hid (y.cells = #[.string y0, .int .i64 y1, .int .u32 y2, .int .u32 y3, .int .u32 y4, .int .i64 y5, .int .i64 y6, .string y7]) := by subst hy; rfl
          rw [HYC.out] at HRW HNW
          rw [HYL.out] at HNW HON
          have HY := Lib.hid hy
          clear hy HYC
          go_wp2_with (at_builtin; refine wpList_append_own_at _ rfl (.tmp 59) (.tmp 65) _ rfl w.heap.size 42 i0 (.agg #[.string ⟨#[]⟩, .int .i64 0, .int .u32 0, .int .u32 0, .int .u32 0, .int .i64 0, .int .i64 0, .string ⟨#[]⟩]) 8 72 Tryz.underlying23 hi hz0 hz1 hz2 rfl (by decide) (.slice A7 m c7) m (cellsI o) rfl (by have h := HRW.out.1; rw [HOL.out] at h; exact h) ⟨w1.heap.size, 0, none⟩ 1 1 [.string y0, .int .i64 y1, .int .u32 y2, .int .u32 y3, .int .u32 y4, .int .i64 y5, .int .i64 y6, .string y7] rfl rfl ?c1 ?c2 ?c3 ?c4 ?c5 ?_)
          case c1 => exact HNW.out
          case c2 => exact HON.out
          case c3 => unfold maxLen; omega
          case c4 => omega
          case c5 => exact HRW.out.2.size
          intro v8 w8 hown hgrow _ _
          have HR8 : Hid (RowI w w8 v8 (o ++ [y])) := rowI_push HRW.out (by rw [HOL.out, HYL.out]; exact hown) hgrow
          obtain ⟨A8, c8, rfl⟩ := row_sliceI hown
          have HR9 : Hid (RowI w w8 (.slice A8 (m + 1) c8) (o ++ [y])) := HR8.out
          have HX8 := Lib.hid ((hgrow.block g (Nat.lt_of_lt_of_le (lt_of_heapP HX.out) (below_alP w1 _).size) (fun e => by have := HNE.out _ e.symm; have := lt_of_heapP HX.out; omega)).trans (((below_alP w1 _).block g (lt_of_heapP HX.out)).trans HX.out))
          have z0 := (cell_of_row _ _ 0 _ _ _ HX8.out).trans (show _ = some (Value.int .i64 2) from rfl)
          have z1 := (cell_of_row _ _ 1 _ _ _ HX8.out).trans (show _ = some (Value.int .i64 x1) from rfl)
          have z2 := (cell_of_row _ _ 2 _ _ _ HX8.out).trans (show _ = some (Value.int .i64 n) from rfl)
          clear hown hgrow HRW HNW HON HR8
          have HE : Hid ((resL E T (l.take (k + 1))).length = m + 1 ∧ RowI w w8 (.slice A8 (m + 1) c8) (resL E T (l.take (k + 1)))) := by
            show _ ∧ _
            rw [HSN.out, HAT.out, List.length_append, HOL.out]
            rw [HY.out] at HR9
            exact ⟨rfl, HR9.out⟩
          go_wp2_with fail
          go_roundw
          case rel => exact ⟨k + 1, m + 1, A8, c8, by omega, by omega, by go_num, rfl, HE.out.1, HE.out.2⟩
          case measure => simp [intOf]; omega
        · have HAT := Lib.hid (HAC.out.trans (atI_out hin))
          clear HAC
          by_cases h0 : 0 ≤ x2
          · have q0 : decide ((0 : Int) ≤ x2) = true := decide_eq_true h0
            have q1 : decide (x2 < (T.length : Int)) = false := decide_eq_false (fun h => hin ⟨h0, h⟩)
            clear hin
            have HE : Hid ((resL E T (l.take (k + 1))).length = m ∧ RowI w w1 (.slice A7 m c7) (resL E T (l.take (k + 1)))) := by
              show _ ∧ _
              rw [HSN.out, HAT.out, List.append_nil]
              exact ⟨HOL.out, HR1.out⟩
            go_wp2_with fail
            go_roundw
            case rel => exact ⟨k + 1, m, A7, c7, by omega, by omega, by go_num, rfl, HE.out.1, HE.out.2⟩
            case measure => simp [intOf]; omega
          · have q0 : decide ((0 : Int) ≤ x2) = false := decide_eq_false h0
            clear hin
            have HE : Hid ((resL E T (l.take (k + 1))).length = m ∧ RowI w w1 (.slice A7 m c7) (resL E T (l.take (k + 1)))) := by
              show _ ∧ _
              rw [HSN.out, HAT.out, List.append_nil]
              exact ⟨HOL.out, HR1.out⟩
            go_wp2_with fail
            go_roundw
            case rel => exact ⟨k + 1, m, A7, c7, by omega, by omega, by go_num, rfl, HE.out.1, HE.out.2⟩
            case measure => simp [intOf]; omega
      have n2 : (x0 == 2) = false := beq_eq_false_iff_ne.2 h2
      by_cases h4 : x0 = 4
      · subst h4
        have HAC : Hid (actR E T ⟨4, x1, x2⟩ = atI T x2) := by show (if (4 : Int) = 1 then _ else if (4 : Int) = 2 ∨ (4 : Int) = 4 then _ else _) = _; rw [if_neg (by decide), if_pos (by decide)]
        by_cases hin : 0 ≤ x2 ∧ x2 < (T.length : Int)
        · obtain ⟨n, hn, hxn, hat⟩ := atI_in hin.1 hin.2
          have HAT := Lib.hid (HAC.out.trans hat)
          clear hin hat HAC
          subst hxn
          obtain ⟨b2, off2, rfl, hbl2, hcc2⟩ := (HRT.out.below HB1.out) (by omega)
          obtain ⟨d0, d1, d2, d3, d4, d5, d6, d7⟩ := hcc2 n T[n] (List.getElem?_eq_getElem hn)
          clear hcc2
          generalize T[n] = y at *
          obtain ⟨y0, y1, y2, y3, y4, y5, y6, y7⟩ := y
          dsimp only at d0 d1 d2 d3 d4 d5 d6 d7
          have hnI : (n : Int) < (T.length : Int) := by omega
          obtain ⟨y, hy⟩ : ∃ y : Itm, y = ⟨y0, y1, y2, y3, y4, y5, y6, y7⟩ := ⟨_, rfl⟩
          have HRW := Lib.hid (HR1.out.below (below_alP w1 (.cells y.cells 42)))
          have HNW := Lib.hid (item_news w1 y)
          have HON := Lib.hid (item_ones y)
          have HYL : Hid (y.cellsL = [.string y0, .int .i64 y1, .int .u32 y2, .int .u32 y3, .int .u32 y4, .int .i64 y5, .int .i64 y6, .string y7]) := by subst hy; rfl
          have HYC : Hid (y.cells = #[.string y0, .int .i64 y1, .int .u32 y2, .int .u32 y3, .int .u32 y4, .int .i64 y5, .int .i64 y6, .string y7]) := by subst hy; rfl
          rw [HYC.out] at HRW HNW
          rw [HYL.out] at HNW HON
          have HY := Lib.hid hy
          clear hy HYC
          go_wp2_with (at_builtin; refine wpList_append_own_at _ rfl (.tmp 59) (.tmp 65) _ rfl w.heap.size 42 i0 (.agg #[.string ⟨#[]⟩, .int .i64 0, .int .u32 0, .int .u32 0, .int .u32 0, .int .i64 0, .int .i64 0, .string ⟨#[]⟩]) 8 72 Tryz.underlying23 hi hz0 hz1 hz2 rfl (by decide) (.slice A7 m c7) m (cellsI o) rfl (by have h := HRW.out.1; rw [HOL.out] at h; exact h) ⟨w1.heap.size, 0, none⟩ 1 1 [.string y0, .int .i64 y1, .int .u32 y2, .int .u32 y3, .int .u32 y4, .int .i64 y5, .int .i64 y6, .string y7] rfl rfl ?c1 ?c2 ?c3 ?c4 ?c5 ?_)
          case c1 => exact HNW.out
          case c2 => exact HON.out
          case c3 => unfold maxLen; omega
          case c4 => omega
          case c5 => exact HRW.out.2.size
          intro v8 w8 hown hgrow _ _
          have HR8 : Hid (RowI w w8 v8 (o ++ [y])) := rowI_push HRW.out (by rw [HOL.out, HYL.out]; exact hown) hgrow
          obtain ⟨A8, c8, rfl⟩ := row_sliceI hown
          have HR9 : Hid (RowI w w8 (.slice A8 (m + 1) c8) (o ++ [y])) := HR8.out
          have HX8 := Lib.hid ((hgrow.block g (Nat.lt_of_lt_of_le (lt_of_heapP HX.out) (below_alP w1 _).size) (fun e => by have := HNE.out _ e.symm; have := lt_of_heapP HX.out; omega)).trans (((below_alP w1 _).block g (lt_of_heapP HX.out)).trans HX.out))
          have z0 := (cell_of_row _ _ 0 _ _ _ HX8.out).trans (show _ = some (Value.int .i64 4) from rfl)
          have z1 := (cell_of_row _ _ 1 _ _ _ HX8.out).trans (show _ = some (Value.int .i64 x1) from rfl)
          have z2 := (cell_of_row _ _ 2 _ _ _ HX8.out).trans (show _ = some (Value.int .i64 n) from rfl)
          clear hown hgrow HRW HNW HON HR8
          have HE : Hid ((resL E T (l.take (k + 1))).length = m + 1 ∧ RowI w w8 (.slice A8 (m + 1) c8) (resL E T (l.take (k + 1)))) := by
            show _ ∧ _
            rw [HSN.out, HAT.out, List.length_append, HOL.out]
            rw [HY.out] at HR9
            exact ⟨rfl, HR9.out⟩
          go_wp2_with fail
          go_roundw
          case rel => exact ⟨k + 1, m + 1, A8, c8, by omega, by omega, by go_num, rfl, HE.out.1, HE.out.2⟩
          case measure => simp [intOf]; omega
        · have HAT := Lib.hid (HAC.out.trans (atI_out hin))
          clear HAC
          by_cases h0 : 0 ≤ x2
          · have q0 : decide ((0 : Int) ≤ x2) = true := decide_eq_true h0
            have q1 : decide (x2 < (T.length : Int)) = false := decide_eq_false (fun h => hin ⟨h0, h⟩)
            clear hin
            have HE : Hid ((resL E T (l.take (k + 1))).length = m ∧ RowI w w1 (.slice A7 m c7) (resL E T (l.take (k + 1)))) := by
              show _ ∧ _
              rw [HSN.out, HAT.out, List.append_nil]
              exact ⟨HOL.out, HR1.out⟩
            go_wp2_with fail
            go_roundw
            case rel => exact ⟨k + 1, m, A7, c7, by omega, by omega, by go_num, rfl, HE.out.1, HE.out.2⟩
            case measure => simp [intOf]; omega
          · have q0 : decide ((0 : Int) ≤ x2) = false := decide_eq_false h0
            clear hin
            have HE : Hid ((resL E T (l.take (k + 1))).length = m ∧ RowI w w1 (.slice A7 m c7) (resL E T (l.take (k + 1)))) := by
              show _ ∧ _
              rw [HSN.out, HAT.out, List.append_nil]
              exact ⟨HOL.out, HR1.out⟩
            go_wp2_with fail
            go_roundw
            case rel => exact ⟨k + 1, m, A7, c7, by omega, by omega, by go_num, rfl, HE.out.1, HE.out.2⟩
            case measure => simp [intOf]; omega
      have n4 : (x0 == 4) = false := beq_eq_false_iff_ne.2 h4
      have HAT : Hid (actR E T ⟨x0, x1, x2⟩ = []) := by show (if x0 = 1 then _ else if x0 = 2 ∨ x0 = 4 then _ else _) = _; rw [if_neg h1, if_neg (by omega)]
      have HE : Hid ((resL E T (l.take (k + 1))).length = m ∧ RowI w w1 (.slice A7 m c7) (resL E T (l.take (k + 1)))) := by
        show _ ∧ _
        rw [HSN.out, HAT.out, List.append_nil]
        exact ⟨HOL.out, HR1.out⟩
      go_wp2_with fail
      go_roundw
      case rel => exact ⟨k + 1, m, A7, c7, by omega, by omega, by go_num, rfl, HE.out.1, HE.out.2⟩
      case measure => simp [intOf]; omega
    · obtain rfl : k = l.length := by omega
      have hd : decide ((l.length : Int) < (l.length : Int)) = false := decide_eq_false (by omega)
      rw [List.take_length] at HOL HRO
      have HIT : Hid (Itms wr A7 (resL E T l)) := itms_of_own (cap := c7) (by have h := HRO.out.1; rw [HOL.out]; rw [HOL.out] at h; exact h)
      have HB := Lib.hid HRO.out.2
      clear HRO
      go_wp2_with fail
      go_ret
      exact ⟨A7, c7, by rw [HOL.out]; rfl, HIT.out, HB.out⟩
end Go.Proofs.YtkcckhnmljckaaaGreatDoor
