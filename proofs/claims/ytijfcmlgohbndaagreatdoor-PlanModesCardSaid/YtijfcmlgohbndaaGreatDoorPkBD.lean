/-
  Plan: Result, of the program and of the document.
  Plan: actions as the document's; how many there are of each kind, on both sides.
  Plan: the chapter's example, first half: no entries, one item, no patterns.
-/
import Derived.Test.YtijfcmlgohbndaaGreatDoorPkBC
import Derived.BigQuiet
import Derived.Deep.Cut
import Derived.Deep.CutBlock
import Derived.Deep.CutRange
import Derived.Lib.LazyBuf
import Derived.Maps.OwnSet
import Derived.StringKeys

namespace Go.Proofs.YtijfcmlgohbndaaGreatDoor
set_option maxRecDepth 100000
set_option linter.unusedSimpArgs false
set_option linter.unusedVariables false
open Go.RowKit Go.Joins Go.Deep
theorem lt_of_heapP {w : World} {g : Nat} {o : Obj} (h : w.heap[g]? = some o) : g < w.heap.size := (Array.getElem?_eq_some_iff.1 h).1
theorem info_act : (Tryz.prog.info? 41).map (·.size) = some 3 := by kernel_rfl
theorem below_alP (w : World) (o : Obj) : Below w.heap.size w (w.alloc o) := (Below.refl _ _).alloc (Nat.le_refl _) o
/-- A row of items of one's own, while it grows. -/
def RowI (w wr : World) (v : Value) (o : List Itm) : Prop := wr.ownsRow w.heap.size 47 8 v o.length (cellsI o) ∧ Below w.heap.size w wr
theorem RowI.below {w wr w' : World} {v : Value} {o : List Itm} (h : RowI w wr v o) (hb : Below wr.heap.size wr w') : RowI w w' v o := by
  refine ⟨h.1.kept (row := none) ⟨hb.os, hb.tape, hb.output, hb.size, fun i hi _ => hb.block i hi⟩ ?_, below_then h.2 hb⟩
  cases v.ownBlock with
  | none => exact .inl rfl
  | some g => exact .inr (by simp)
theorem RowI.drewN {w wr : World} {v : Value} {o : List Itm} (h : RowI w wr v o) (n : Nat) : RowI w (wr.drewN n) v o := ⟨h.1, below_drewN h.2 n⟩
theorem rowI_push {w w1 w2 : World} {v v' : Value} {o : List Itm} {y : Itm} (h : RowI w w1 v o) (ho : w2.ownsRow w.heap.size 47 8 v' (o.length + 1) (cellsI o ++ y.cellsL)) (hg : w1.grownBy w2 v.ownBlock) : RowI w w2 v' (o ++ [y]) := by
  refine ⟨?_, h.2.grown hg h.2.size (fun k hk => (h.1.lt k hk).1)⟩
  rw [List.length_append, cellsI_app]
  show w2.ownsRow _ _ _ _ (o.length + 1) (cellsI o ++ (y.cellsL ++ []))
  rw [List.append_nil]
  exact ho
theorem item_news (w : World) (y : Itm) : ∀ j u, y.cellsL[j]? = some u → (w.alloc (.cells y.cells 47)).cell? ((⟨w.heap.size, 0, none⟩ : Addr).add j) = some u := by
  intro j u hj
  rw [Addr.add_mid, Nat.zero_add]
  have hx := heap_alloc_new w (.cells y.cells 47)
  rw [cell_of_row _ _ _ _ _ _ hx, ← Array.getElem?_toList]
  exact hj
theorem item_ones (y : Itm) : ∀ u ∈ y.cellsL, u.oneCell' = true := fun u hu => by
  refine cellsI_one [y] u ?_
  show u ∈ y.cellsL ++ []
  rw [List.append_nil]
  exact hu
theorem row_sliceI {w : World} {B n : Nat} {v : Value} {T : TypeId} {xs : List Value} (h : w.ownsRow B T 8 v n xs) : ∃ A c, v = .slice A n c := by
  rcases h.2 with ⟨he, h0⟩ | ⟨g2, cap2, cur, he, _⟩
  · exact ⟨none, 0, by rw [he, h0]⟩
  · exact ⟨_, cap2, he⟩

set_option maxHeartbeats 16000000 in
theorem result_any (A AE AT : Option Addr) (c cE cT : Nat) (l : List Act3) (E T : List Itm) (w : World) (hl : l.length ≤ 1000) (hE : E.length ≤ 1000000) (hT : T.length ≤ 1000000) (hA : Acts3 w A l) (hRE : Itms w AE E) (hRT : Itms w AT T) :
    Calls Tryz.prog 16 #[.slice A l.length c, .slice AE E.length cE, .slice AT T.length cT] w fun e w' => ∃ A' c', e = .returned (.slice A' (resL E T l).length c') ∧ Itms w' A' (resL E T l) ∧ Below w.heap.size w w' := by
  have hia := info_act
  have hir := info_item
  obtain ⟨i0, hi, hz0, hz1, hz2⟩ := partsI
  have HA := Lib.hid hA
  have HRE := Lib.hid hRE
  have HRT := Lib.hid hRT
  clear hA hRE hRT
  go_enter Tryz.func16, Tryz.ntmps16
  go_wp2_with fail
  go_loopw [7, 9, 10, 11, 14] (fun v7 _ _ _ v14 wr => ∃ (k m : Nat) (A7 : Option Addr) (c7 : Nat), k ≤ l.length ∧ m ≤ k ∧ v14 = .int .i64 (k : Nat) ∧ v7 = .slice A7 m c7 ∧ Hid ((resL E T (l.take k)).length = m) ∧ Hid (RowI w wr (.slice A7 m c7) (resL E T (l.take k)))) (fun _ _ _ _ v _ => l.length - (intOf v).toNat)
  case atStart => exact ⟨0, 0, none, 0, Nat.zero_le _, Nat.le_refl _, rfl, rfl, rfl, World.ownsRow_nil _ _ _ _, Below.refl _ _⟩
  case round =>
    obtain ⟨k, m, A7, c7, hk, hmk, rfl, rfl, HOL, HRO⟩ := hrel
    by_cases hlt : k < l.length
    · have hd : decide ((k : Int) < (l.length : Int)) = true := decide_eq_true (by omega)
      obtain ⟨b, off, rfl, hbl, hcc⟩ := (HA.out.below HRO.out.2) (by omega)
      obtain ⟨c0, c1, c2⟩ := hcc k l[k] (List.getElem?_eq_getElem hlt)
      have HSN := Lib.hid (resL_snoc E T l k hlt)
      have hbx := below_alP wr (.cells l[k].cells 41)
      have hx0 := heap_alloc_new wr (.cells l[k].cells 41)
      have HR1 := Lib.hid (HRO.out.below hbx)
      have HB1 := Lib.hid (HR1.out.2)
      have HNE : Hid (∀ j, (Value.slice A7 m c7).ownBlock = some j → j < wr.heap.size) := fun j hj => (HRO.out.1.lt j hj).2
      clear hcc hbx
      obtain ⟨ac, hac⟩ : ∃ ac, ac = l[k] := ⟨_, rfl⟩
      rw [← hac] at c0 c1 c2 HSN hx0 HR1 HB1
      clear hac
      obtain ⟨x0, x1, x2⟩ := ac
      simp only [Act3.cells] at hx0 HR1 HB1
      dsimp only at c0 c1 c2
      have z0 := (cell_of_row _ _ 0 _ _ _ hx0).trans (show _ = some (Value.int .i64 x0) from rfl)
      have z1 := (cell_of_row _ _ 1 _ _ _ hx0).trans (show _ = some (Value.int .i64 x1) from rfl)
      have z2 := (cell_of_row _ _ 2 _ _ _ hx0).trans (show _ = some (Value.int .i64 x2) from rfl)
      obtain ⟨o, ho⟩ : ∃ o, o = resL E T (l.take k) := ⟨_, rfl⟩
      rw [← ho] at HSN HR1 HOL
      have hk62 : (k : Int) + 1 < 9223372036854775807 := by omega
      have hm62 : m ≤ 1000 := by omega
      have HX := Lib.hid hx0
      clear ho hx0 HRO
      go_upto_region 5 with fail
      generalize hg : wr.heap.size = g at *
      clear hg
      generalize wr.alloc (.cells #[.int .i64 x0, .int .i64 x1, .int .i64 x2] 41) = w1 at *
      go_quiet (fail)
      have HR1 := Lib.hid (HR1.out.drewN nq)
      have HB1 := Lib.hid HR1.out.2
      have HX : Hid ((w1.drewN nq).heap[g]? = _) := HX.out
      have z0 : (w1.drewN nq).cell? _ = _ := z0
      have z1 : (w1.drewN nq).cell? _ = _ := z1
      have z2 : (w1.drewN nq).cell? _ = _ := z2
      generalize w1.drewN nq = w1 at *
      by_cases h1 : x0 = 1
      · subst h1
        go_wp2_with fail
        go_quiet (fail)
        have HR1 := Lib.hid (HR1.out.drewN nq)
        have HB1 := Lib.hid HR1.out.2
        have HX : Hid ((w1.drewN nq).heap[g]? = _) := HX.out
        have z0 : (w1.drewN nq).cell? _ = _ := z0
        have z1 : (w1.drewN nq).cell? _ = _ := z1
        have z2 : (w1.drewN nq).cell? _ = _ := z2
        generalize w1.drewN nq = w1 at *
        have HAC : Hid (actR E T ⟨1, x1, x2⟩ = atQ E x1) := if_pos rfl
        by_cases hin : 0 ≤ x1 ∧ x1 < (E.length : Int)
        · obtain ⟨n, hn, hxn, hat⟩ := atQ_in hin.1 hin.2
          have HAT := Lib.hid (HAC.out.trans hat)
          clear hin hat HAC
          subst hxn
          obtain ⟨b2, off2, rfl, hbl2, hcc2⟩ := (HRE.out.below HB1.out) (by omega)
          obtain ⟨d0, d1, d2, d3, d4, d5, d6, d7⟩ := hcc2 n E[n] (List.getElem?_eq_getElem hn)
          clear hcc2
          generalize E[n] = y at *
          obtain ⟨y0, y1, y2, y3, y4, y5, y6, y7⟩ := y
          dsimp only at d0 d1 d2 d3 d4 d5 d6 d7
          have hnI : (n : Int) < (E.length : Int) := by omega
          obtain ⟨y, hy⟩ : ∃ y : Itm, y = ⟨y0, y1, y2, y3, y4, y5, y6, y7⟩ := ⟨_, rfl⟩
          have HRW := Lib.hid (HR1.out.below (below_alP w1 (.cells y.cells 47)))
          have HNW := Lib.hid (item_news w1 y)
          have HON := Lib.hid (item_ones y)
          have HYL : Hid (y.cellsL = [.string y0, .int .i64 y1, .int .u32 y2, .int .u32 y3, .int .u32 y4, .int .i64 y5, .int .i64 y6, .string y7]) := by subst hy; rfl
          have HYC : Hid (y.cells = #[.string y0, .int .i64 y1, .int .u32 y2, .int .u32 y3, .int .u32 y4, .int .i64 y5, .int .i64 y6, .string y7]) := by subst hy; rfl
          rw [HYC.out] at HRW HNW
          rw [HYL.out] at HNW HON
          have HY := Lib.hid hy
          clear hy HYC
          go_wp2_with (at_builtin; refine wpList_append_own_at _ rfl (.tmp 39) (.tmp 44) _ rfl w.heap.size 47 i0 (.agg #[.string ⟨#[]⟩, .int .i64 0, .int .u32 0, .int .u32 0, .int .u32 0, .int .i64 0, .int .i64 0, .string ⟨#[]⟩]) 8 72 Tryz.underlying23 hi hz0 hz1 hz2 rfl (by decide) (.slice A7 m c7) m (cellsI o) rfl (by have h := HRW.out.1; rw [HOL.out] at h; exact h) ⟨w1.heap.size, 0, none⟩ 1 1 [.string y0, .int .i64 y1, .int .u32 y2, .int .u32 y3, .int .u32 y4, .int .i64 y5, .int .i64 y6, .string y7] rfl rfl ?c1 ?c2 ?c3 ?c4 ?c5 ?_)
          case c1 => exact HNW.out
          case c2 => exact HON.out
          case c3 => unfold maxLen; omega
          case c4 => omega
          case c5 => exact HRW.out.2.size
          intro v8 w8 hown hgrow _ _
          have HR8 : Hid (RowI w w8 v8 (o ++ [y])) := rowI_push HRW.out (by rw [HOL.out, HYL.out]; exact hown) hgrow
          obtain ⟨A8, c8, rfl⟩ := row_sliceI hown
          have HR9 : Hid (RowI w w8 (.slice A8 (m + 1) c8) (o ++ [y])) := HR8.out
          have HX8 := Lib.hid ((hgrow.block g (Nat.lt_of_lt_of_le (lt_of_heapP HX.out) (below_alP w1 _).size) (fun e => by have := HNE.out _ e.symm; have := lt_of_heapP HX.out; omega)).trans (((below_alP w1 _).block g (lt_of_heapP HX.out)).trans HX.out))
          have z0 := (cell_of_row _ _ 0 _ _ _ HX8.out).trans (show _ = some (Value.int .i64 1) from rfl)
          have z1 := (cell_of_row _ _ 1 _ _ _ HX8.out).trans (show _ = some (Value.int .i64 n) from rfl)
          have z2 := (cell_of_row _ _ 2 _ _ _ HX8.out).trans (show _ = some (Value.int .i64 x2) from rfl)
          clear hown hgrow HRW HNW HON HR8
          have HE : Hid ((resL E T (l.take (k + 1))).length = m + 1 ∧ RowI w w8 (.slice A8 (m + 1) c8) (resL E T (l.take (k + 1)))) := by
            show _ ∧ _
            rw [HSN.out, HAT.out, List.length_append, HOL.out]
            rw [HY.out] at HR9
            exact ⟨rfl, HR9.out⟩
          go_wp2_with fail
          go_roundw
          case rel => exact ⟨k + 1, m + 1, A8, c8, by omega, by omega, by go_num, rfl, HE.out.1, HE.out.2⟩
          case measure => simp [intOf]; omega
        · have HAT := Lib.hid (HAC.out.trans (atQ_out hin))
          clear HAC
          by_cases h0 : 0 ≤ x1
          · have q0 : decide ((0 : Int) ≤ x1) = true := decide_eq_true h0
            have q1 : decide (x1 < (E.length : Int)) = false := decide_eq_false (fun h => hin ⟨h0, h⟩)
            clear hin
            have HE : Hid ((resL E T (l.take (k + 1))).length = m ∧ RowI w w1 (.slice A7 m c7) (resL E T (l.take (k + 1)))) := by
              show _ ∧ _
              rw [HSN.out, HAT.out, List.append_nil]
              exact ⟨HOL.out, HR1.out⟩
            go_wp2_with fail
            go_roundw
            case rel => exact ⟨k + 1, m, A7, c7, by omega, by omega, by go_num, rfl, HE.out.1, HE.out.2⟩
            case measure => simp [intOf]; omega
          · have q0 : decide ((0 : Int) ≤ x1) = false := decide_eq_false h0
            clear hin
            have HE : Hid ((resL E T (l.take (k + 1))).length = m ∧ RowI w w1 (.slice A7 m c7) (resL E T (l.take (k + 1)))) := by
              show _ ∧ _
              rw [HSN.out, HAT.out, List.append_nil]
              exact ⟨HOL.out, HR1.out⟩
            go_wp2_with fail
            go_roundw
            case rel => exact ⟨k + 1, m, A7, c7, by omega, by omega, by go_num, rfl, HE.out.1, HE.out.2⟩
            case measure => simp [intOf]; omega
      have n1 : (x0 == 1) = false := beq_eq_false_iff_ne.2 h1
      by_cases h2 : x0 = 2
      · subst h2
        have HAC : Hid (actR E T ⟨2, x1, x2⟩ = atQ T x2) := by show (if (2 : Int) = 1 then _ else if (2 : Int) = 2 ∨ (2 : Int) = 4 then _ else _) = _; rw [if_neg (by decide), if_pos (by decide)]
        by_cases hin : 0 ≤ x2 ∧ x2 < (T.length : Int)
        · obtain ⟨n, hn, hxn, hat⟩ := atQ_in hin.1 hin.2
          have HAT := Lib.hid (HAC.out.trans hat)
          clear hin hat HAC
          subst hxn
          obtain ⟨b2, off2, rfl, hbl2, hcc2⟩ := (HRT.out.below HB1.out) (by omega)
          obtain ⟨d0, d1, d2, d3, d4, d5, d6, d7⟩ := hcc2 n T[n] (List.getElem?_eq_getElem hn)
          clear hcc2
          generalize T[n] = y at *
          obtain ⟨y0, y1, y2, y3, y4, y5, y6, y7⟩ := y
          dsimp only at d0 d1 d2 d3 d4 d5 d6 d7
          have hnI : (n : Int) < (T.length : Int) := by omega
          obtain ⟨y, hy⟩ : ∃ y : Itm, y = ⟨y0, y1, y2, y3, y4, y5, y6, y7⟩ := ⟨_, rfl⟩
          have HRW := Lib.hid (HR1.out.below (below_alP w1 (.cells y.cells 47)))
          have HNW := Lib.hid (item_news w1 y)
          have HON := Lib.hid (item_ones y)
          have HYL : Hid (y.cellsL = [.string y0, .int .i64 y1, .int .u32 y2, .int .u32 y3, .int .u32 y4, .int .i64 y5, .int .i64 y6, .string y7]) := by subst hy; rfl
          have HYC : Hid (y.cells = #[.string y0, .int .i64 y1, .int .u32 y2, .int .u32 y3, .int .u32 y4, .int .i64 y5, .int .i64 y6, .string y7]) := by subst hy; rfl
          rw [HYC.out] at HRW HNW
          rw [HYL.out] at HNW HON
          have HY := Lib.hid hy
          clear hy HYC
          go_wp2_with (at_builtin; refine wpList_append_own_at _ rfl (.tmp 39) (.tmp 44) _ rfl w.heap.size 47 i0 (.agg #[.string ⟨#[]⟩, .int .i64 0, .int .u32 0, .int .u32 0, .int .u32 0, .int .i64 0, .int .i64 0, .string ⟨#[]⟩]) 8 72 Tryz.underlying23 hi hz0 hz1 hz2 rfl (by decide) (.slice A7 m c7) m (cellsI o) rfl (by have h := HRW.out.1; rw [HOL.out] at h; exact h) ⟨w1.heap.size, 0, none⟩ 1 1 [.string y0, .int .i64 y1, .int .u32 y2, .int .u32 y3, .int .u32 y4, .int .i64 y5, .int .i64 y6, .string y7] rfl rfl ?c1 ?c2 ?c3 ?c4 ?c5 ?_)
          case c1 => exact HNW.out
          case c2 => exact HON.out
          case c3 => unfold maxLen; omega
          case c4 => omega
          case c5 => exact HRW.out.2.size
          intro v8 w8 hown hgrow _ _
          have HR8 : Hid (RowI w w8 v8 (o ++ [y])) := rowI_push HRW.out (by rw [HOL.out, HYL.out]; exact hown) hgrow
          obtain ⟨A8, c8, rfl⟩ := row_sliceI hown
          have HR9 : Hid (RowI w w8 (.slice A8 (m + 1) c8) (o ++ [y])) := HR8.out
          have HX8 := Lib.hid ((hgrow.block g (Nat.lt_of_lt_of_le (lt_of_heapP HX.out) (below_alP w1 _).size) (fun e => by have := HNE.out _ e.symm; have := lt_of_heapP HX.out; omega)).trans (((below_alP w1 _).block g (lt_of_heapP HX.out)).trans HX.out))
          have z0 := (cell_of_row _ _ 0 _ _ _ HX8.out).trans (show _ = some (Value.int .i64 2) from rfl)
          have z1 := (cell_of_row _ _ 1 _ _ _ HX8.out).trans (show _ = some (Value.int .i64 x1) from rfl)
          have z2 := (cell_of_row _ _ 2 _ _ _ HX8.out).trans (show _ = some (Value.int .i64 n) from rfl)
          clear hown hgrow HRW HNW HON HR8
          have HE : Hid ((resL E T (l.take (k + 1))).length = m + 1 ∧ RowI w w8 (.slice A8 (m + 1) c8) (resL E T (l.take (k + 1)))) := by
            show _ ∧ _
            rw [HSN.out, HAT.out, List.length_append, HOL.out]
            rw [HY.out] at HR9
            exact ⟨rfl, HR9.out⟩
          go_wp2_with fail
          go_roundw
          case rel => exact ⟨k + 1, m + 1, A8, c8, by omega, by omega, by go_num, rfl, HE.out.1, HE.out.2⟩
          case measure => simp [intOf]; omega
        · have HAT := Lib.hid (HAC.out.trans (atQ_out hin))
          clear HAC
          by_cases h0 : 0 ≤ x2
          · have q0 : decide ((0 : Int) ≤ x2) = true := decide_eq_true h0
            have q1 : decide (x2 < (T.length : Int)) = false := decide_eq_false (fun h => hin ⟨h0, h⟩)
            clear hin
            have HE : Hid ((resL E T (l.take (k + 1))).length = m ∧ RowI w w1 (.slice A7 m c7) (resL E T (l.take (k + 1)))) := by
              show _ ∧ _
              rw [HSN.out, HAT.out, List.append_nil]
              exact ⟨HOL.out, HR1.out⟩
            go_wp2_with fail
            go_roundw
            case rel => exact ⟨k + 1, m, A7, c7, by omega, by omega, by go_num, rfl, HE.out.1, HE.out.2⟩
            case measure => simp [intOf]; omega
          · have q0 : decide ((0 : Int) ≤ x2) = false := decide_eq_false h0
            clear hin
            have HE : Hid ((resL E T (l.take (k + 1))).length = m ∧ RowI w w1 (.slice A7 m c7) (resL E T (l.take (k + 1)))) := by
              show _ ∧ _
              rw [HSN.out, HAT.out, List.append_nil]
              exact ⟨HOL.out, HR1.out⟩
            go_wp2_with fail
            go_roundw
            case rel => exact ⟨k + 1, m, A7, c7, by omega, by omega, by go_num, rfl, HE.out.1, HE.out.2⟩
            case measure => simp [intOf]; omega
      have n2 : (x0 == 2) = false := beq_eq_false_iff_ne.2 h2
      by_cases h4 : x0 = 4
      · subst h4
        have HAC : Hid (actR E T ⟨4, x1, x2⟩ = atQ T x2) := by show (if (4 : Int) = 1 then _ else if (4 : Int) = 2 ∨ (4 : Int) = 4 then _ else _) = _; rw [if_neg (by decide), if_pos (by decide)]
        by_cases hin : 0 ≤ x2 ∧ x2 < (T.length : Int)
        · obtain ⟨n, hn, hxn, hat⟩ := atQ_in hin.1 hin.2
          have HAT := Lib.hid (HAC.out.trans hat)
          clear hin hat HAC
          subst hxn
          obtain ⟨b2, off2, rfl, hbl2, hcc2⟩ := (HRT.out.below HB1.out) (by omega)
          obtain ⟨d0, d1, d2, d3, d4, d5, d6, d7⟩ := hcc2 n T[n] (List.getElem?_eq_getElem hn)
          clear hcc2
          generalize T[n] = y at *
          obtain ⟨y0, y1, y2, y3, y4, y5, y6, y7⟩ := y
          dsimp only at d0 d1 d2 d3 d4 d5 d6 d7
          have hnI : (n : Int) < (T.length : Int) := by omega
          obtain ⟨y, hy⟩ : ∃ y : Itm, y = ⟨y0, y1, y2, y3, y4, y5, y6, y7⟩ := ⟨_, rfl⟩
          have HRW := Lib.hid (HR1.out.below (below_alP w1 (.cells y.cells 47)))
          have HNW := Lib.hid (item_news w1 y)
          have HON := Lib.hid (item_ones y)
          have HYL : Hid (y.cellsL = [.string y0, .int .i64 y1, .int .u32 y2, .int .u32 y3, .int .u32 y4, .int .i64 y5, .int .i64 y6, .string y7]) := by subst hy; rfl
          have HYC : Hid (y.cells = #[.string y0, .int .i64 y1, .int .u32 y2, .int .u32 y3, .int .u32 y4, .int .i64 y5, .int .i64 y6, .string y7]) := by subst hy; rfl
          rw [HYC.out] at HRW HNW
          rw [HYL.out] at HNW HON
          have HY := Lib.hid hy
          clear hy HYC
          go_wp2_with (at_builtin; refine wpList_append_own_at _ rfl (.tmp 39) (.tmp 44) _ rfl w.heap.size 47 i0 (.agg #[.string ⟨#[]⟩, .int .i64 0, .int .u32 0, .int .u32 0, .int .u32 0, .int .i64 0, .int .i64 0, .string ⟨#[]⟩]) 8 72 Tryz.underlying23 hi hz0 hz1 hz2 rfl (by decide) (.slice A7 m c7) m (cellsI o) rfl (by have h := HRW.out.1; rw [HOL.out] at h; exact h) ⟨w1.heap.size, 0, none⟩ 1 1 [.string y0, .int .i64 y1, .int .u32 y2, .int .u32 y3, .int .u32 y4, .int .i64 y5, .int .i64 y6, .string y7] rfl rfl ?c1 ?c2 ?c3 ?c4 ?c5 ?_)
          case c1 => exact HNW.out
          case c2 => exact HON.out
          case c3 => unfold maxLen; omega
          case c4 => omega
          case c5 => exact HRW.out.2.size
          intro v8 w8 hown hgrow _ _
          have HR8 : Hid (RowI w w8 v8 (o ++ [y])) := rowI_push HRW.out (by rw [HOL.out, HYL.out]; exact hown) hgrow
          obtain ⟨A8, c8, rfl⟩ := row_sliceI hown
          have HR9 : Hid (RowI w w8 (.slice A8 (m + 1) c8) (o ++ [y])) := HR8.out
          have HX8 := Lib.hid ((hgrow.block g (Nat.lt_of_lt_of_le (lt_of_heapP HX.out) (below_alP w1 _).size) (fun e => by have := HNE.out _ e.symm; have := lt_of_heapP HX.out; omega)).trans (((below_alP w1 _).block g (lt_of_heapP HX.out)).trans HX.out))
          have z0 := (cell_of_row _ _ 0 _ _ _ HX8.out).trans (show _ = some (Value.int .i64 4) from rfl)
          have z1 := (cell_of_row _ _ 1 _ _ _ HX8.out).trans (show _ = some (Value.int .i64 x1) from rfl)
          have z2 := (cell_of_row _ _ 2 _ _ _ HX8.out).trans (show _ = some (Value.int .i64 n) from rfl)
          clear hown hgrow HRW HNW HON HR8
          have HE : Hid ((resL E T (l.take (k + 1))).length = m + 1 ∧ RowI w w8 (.slice A8 (m + 1) c8) (resL E T (l.take (k + 1)))) := by
            show _ ∧ _
            rw [HSN.out, HAT.out, List.length_append, HOL.out]
            rw [HY.out] at HR9
            exact ⟨rfl, HR9.out⟩
          go_wp2_with fail
          go_roundw
          case rel => exact ⟨k + 1, m + 1, A8, c8, by omega, by omega, by go_num, rfl, HE.out.1, HE.out.2⟩
          case measure => simp [intOf]; omega
        · have HAT := Lib.hid (HAC.out.trans (atQ_out hin))
          clear HAC
          by_cases h0 : 0 ≤ x2
          · have q0 : decide ((0 : Int) ≤ x2) = true := decide_eq_true h0
            have q1 : decide (x2 < (T.length : Int)) = false := decide_eq_false (fun h => hin ⟨h0, h⟩)
            clear hin
            have HE : Hid ((resL E T (l.take (k + 1))).length = m ∧ RowI w w1 (.slice A7 m c7) (resL E T (l.take (k + 1)))) := by
              show _ ∧ _
              rw [HSN.out, HAT.out, List.append_nil]
              exact ⟨HOL.out, HR1.out⟩
            go_wp2_with fail
            go_roundw
            case rel => exact ⟨k + 1, m, A7, c7, by omega, by omega, by go_num, rfl, HE.out.1, HE.out.2⟩
            case measure => simp [intOf]; omega
          · have q0 : decide ((0 : Int) ≤ x2) = false := decide_eq_false h0
            clear hin
            have HE : Hid ((resL E T (l.take (k + 1))).length = m ∧ RowI w w1 (.slice A7 m c7) (resL E T (l.take (k + 1)))) := by
              show _ ∧ _
              rw [HSN.out, HAT.out, List.append_nil]
              exact ⟨HOL.out, HR1.out⟩
            go_wp2_with fail
            go_roundw
            case rel => exact ⟨k + 1, m, A7, c7, by omega, by omega, by go_num, rfl, HE.out.1, HE.out.2⟩
            case measure => simp [intOf]; omega
      have n4 : (x0 == 4) = false := beq_eq_false_iff_ne.2 h4
      have HAT : Hid (actR E T ⟨x0, x1, x2⟩ = []) := by show (if x0 = 1 then _ else if x0 = 2 ∨ x0 = 4 then _ else _) = _; rw [if_neg h1, if_neg (by omega)]
      have HE : Hid ((resL E T (l.take (k + 1))).length = m ∧ RowI w w1 (.slice A7 m c7) (resL E T (l.take (k + 1)))) := by
        show _ ∧ _
        rw [HSN.out, HAT.out, List.append_nil]
        exact ⟨HOL.out, HR1.out⟩
      go_wp2_with fail
      go_roundw
      case rel => exact ⟨k + 1, m, A7, c7, by omega, by omega, by go_num, rfl, HE.out.1, HE.out.2⟩
      case measure => simp [intOf]; omega
    · obtain rfl : k = l.length := by omega
      have hd : decide ((l.length : Int) < (l.length : Int)) = false := decide_eq_false (by omega)
      rw [List.take_length] at HOL HRO
      have HIT : Hid (Itms wr A7 (resL E T l)) := itms_of_own (cap := c7) (by have h := HRO.out.1; rw [HOL.out]; rw [HOL.out] at h; exact h)
      have HB := Lib.hid HRO.out.2
      clear HRO
      go_wp2_with fail
      go_ret
      exact ⟨A7, c7, by rw [HOL.out]; rfl, HIT.out, HB.out⟩
end Go.Proofs.YtijfcmlgohbndaaGreatDoor

namespace Go.Proofs.YtijfcmlgohbndaaGreatDoor
set_option maxRecDepth 100000
set_option linter.unusedSimpArgs false
set_option linter.unusedVariables false
open Go.RowKit Go.Joins Go.Deep
theorem row_sliceA {w : World} {B n : Nat} {v : Value} {T : TypeId} {xs : List Value} (h : w.ownsRow B T 3 v n xs) : ∃ A c, v = .slice A n c := by
  rcases h.2 with ⟨he, h0⟩ | ⟨g2, cap2, cur, he, _⟩
  · exact ⟨none, 0, by rw [he, h0]⟩
  · exact ⟨_, cap2, he⟩
theorem act_news (w : World) (x : Act3) (T : TypeId) : ∀ j u, x.cellsL[j]? = some u → (w.alloc (.cells x.cells T)).cell? ((⟨w.heap.size, 0, none⟩ : Addr).add j) = some u := by
  intro j u hj
  rw [Addr.add_mid, Nat.zero_add]
  have hx := heap_alloc_new w (.cells x.cells T)
  rw [cell_of_row _ _ _ _ _ _ hx, ← Array.getElem?_toList]
  exact hj
theorem act_ones (x : Act3) : ∀ u ∈ x.cellsL, u.oneCell' = true := fun u hu => by
  simp only [Act3.cellsL, List.mem_cons, List.not_mem_nil, or_false] at hu
  rcases hu with rfl | rfl | rfl <;> rfl
/-- Five numbers, the first 0. -/
def cv5 (a b c d : Nat) : Array Value := #[.int .i64 0, .int .i64 (a : Nat), .int .i64 (b : Nat), .int .i64 (c : Nat), .int .i64 (d : Nat)]
theorem cv5_one (a b c d : Nat) : (cv5 a b c d).all (·.oneCell') = true := by simp [cv5, Value.oneCell']
theorem info_five : (Tryz.prog.info? 38).map (·.size) = some 5 := by kernel_rfl
theorem zero_five : ∀ w : World, (zeroValue 38).run Tryz.prog w = .ok (.agg (cv5 0 0 0 0)) w := fun w => by kernel_rfl
/-- The counts of the first k actions. -/
def CntIs (l : List Act3) (k a b c d : Nat) : Prop := cntK (l.take k) 1 = a ∧ cntK (l.take k) 2 = b ∧ cntK (l.take k) 3 = c ∧ cntK (l.take k) 4 = d ∧ a ≤ k ∧ b ≤ k ∧ c ≤ k ∧ d ≤ k
theorem cntIs_step {l : List Act3} {k a b c d : Nat} (h : CntIs l k a b c d) (hk : k < l.length) : CntIs l (k + 1) (a + (if l[k].k = 1 then 1 else 0)) (b + (if l[k].k = 2 then 1 else 0)) (c + (if l[k].k = 3 then 1 else 0)) (d + (if l[k].k = 4 then 1 else 0)) := by
  obtain ⟨h1, h2, h3, h4, h5, h6, h7, h8⟩ := h
  refine ⟨by rw [cntK_snoc l k hk, h1], by rw [cntK_snoc l k hk, h2], by rw [cntK_snoc l k hk, h3], by rw [cntK_snoc l k hk, h4], ?_, ?_, ?_, ?_⟩ <;> split <;> omega
theorem cntIs_end {l : List Act3} {a b c d : Nat} (h : CntIs l l.length a b c d) : cv5 a b c d = cntV l := by
  obtain ⟨h1, h2, h3, h4, _⟩ := h
  rw [List.take_length] at h1 h2 h3 h4
  unfold cntV cv5
  rw [h1, h2, h3, h4]
theorem cv5_set {w : World} {g a b c d : Nat} (h : w.heap[g]? = some (.cells (cv5 a b c d) 38 (0, 0))) :
    (w.setCell ⟨g, 1, none⟩ (.int .i64 ((a + 1 : Nat) : Int))).heap[g]? = some (.cells (cv5 (a + 1) b c d) 38 (0, 0)) ∧ (w.setCell ⟨g, 2, none⟩ (.int .i64 ((b + 1 : Nat) : Int))).heap[g]? = some (.cells (cv5 a (b + 1) c d) 38 (0, 0)) ∧
    (w.setCell ⟨g, 3, none⟩ (.int .i64 ((c + 1 : Nat) : Int))).heap[g]? = some (.cells (cv5 a b (c + 1) d) 38 (0, 0)) ∧ (w.setCell ⟨g, 4, none⟩ (.int .i64 ((d + 1 : Nat) : Int))).heap[g]? = some (.cells (cv5 a b c (d + 1)) 38 (0, 0)) :=
  ⟨(heap_setCell_same w g 1 _ _ _ h).trans rfl, (heap_setCell_same w g 2 _ _ _ h).trans rfl, (heap_setCell_same w g 3 _ _ _ h).trans rfl, (heap_setCell_same w g 4 _ _ _ h).trans rfl⟩
set_option maxHeartbeats 16000000 in
theorem count24_any (A : Option Addr) (c0 : Nat) (l : List Act3) (w : World) (hl : l.length ≤ 1000) (hA : Acts3 w A l) :
    Calls Tryz.prog 10 #[.slice A l.length c0] w fun e w' => e = .returned (.agg (cntV l)) ∧ Below w.heap.size w w' := by
  have hia := info_act
  have hz5 := zero_five
  have HA := Lib.hid hA
  clear hA
  have hx0 := heap_alloc_new w (.cells (cv5 0 0 0 0) 38)
  have hb0 := below_alP w (.cells (cv5 0 0 0 0) 38)
  have hx1 := heap_alloc_new (w.alloc (.cells (cv5 0 0 0 0) 38)) (.cells (cv5 0 0 0 0) 38)
  have hb1 := below_alP (w.alloc (.cells (cv5 0 0 0 0) 38)) (.cells (cv5 0 0 0 0) 38)
  rw [show (w.alloc (.cells (cv5 0 0 0 0) 38)).heap.size = w.heap.size + 1 from by simp only [World.alloc, Array.size_push]] at hx1
  have HX0 := Lib.hid ((hb1.block _ (lt_of_heapP hx0)).trans hx0)
  have HX1 := Lib.hid hx1
  have HB0 := Lib.hid (below_then hb0 hb1)
  clear hx0 hx1 hb0 hb1
  go_enter Tryz.func10, Tryz.ntmps10
  go_upto_region 2 with fail
  generalize hw1 : (w.alloc (.cells (cv5 0 0 0 0) 38)).alloc (.cells (cv5 0 0 0 0) 38) = w1 at *
  have HG : Hid (w.heap.size = w.heap.size) := rfl
  go_wp2_with fail
  go_loopw [5, 8] (fun _ v wr => ∃ (k a b c d : Nat), k ≤ l.length ∧ v = .int .i64 (k : Nat) ∧ Hid (CntIs l k a b c d) ∧ Hid (wr.heap[w.heap.size]? = some (.cells (cv5 0 0 0 0) 38 (0, 0))) ∧ Hid (wr.heap[w.heap.size + 1]? = some (.cells (cv5 a b c d) 38 (0, 0))) ∧ Hid (Below w.heap.size w wr)) (fun _ v _ => l.length - (intOf v).toNat)
  case atStart => exact ⟨0, 0, 0, 0, 0, Nat.zero_le _, rfl, ⟨rfl, rfl, rfl, rfl, Nat.le_refl _, Nat.le_refl _, Nat.le_refl _, Nat.le_refl _⟩, HX0.out, HX1.out, HB0.out⟩
  case round =>
    obtain ⟨k, a, b, c, d, hk, rfl, HC, HY0, HY1, HB⟩ := hrel
    clear HX0 HX1 HB0 hz5
    by_cases hlt : k < l.length
    · have hd : decide ((k : Int) < (l.length : Int)) = true := decide_eq_true (by omega)
      obtain ⟨bl, off, rfl, hbl, hcc⟩ := (HA.out.below HB.out) (by omega)
      obtain ⟨c0, c1, c2⟩ := hcc k l[k] (List.getElem?_eq_getElem hlt)
      have HST := Lib.hid (cntIs_step HC.out hlt)
      have HCB : Hid (a ≤ 1000 ∧ b ≤ 1000 ∧ c ≤ 1000 ∧ d ≤ 1000) := by
        obtain ⟨_, _, _, _, h5, h6, h7, h8⟩ := HC.out
        exact ⟨by omega, by omega, by omega, by omega⟩
      have hbx := below_alP wr (.cells l[k].cells 41)
      have hx0 := heap_alloc_new wr (.cells l[k].cells 41)
      have HB2 := Lib.hid (below_then HB.out hbx)
      have HZ0 := Lib.hid ((hbx.block _ (lt_of_heapP HY0.out)).trans HY0.out)
      have HZ1 := Lib.hid ((hbx.block _ (lt_of_heapP HY1.out)).trans HY1.out)
      clear hcc hbx HY0 HY1 HB HC
      obtain ⟨ac, hac⟩ : ∃ ac, ac = l[k] := ⟨_, rfl⟩
      rw [← hac] at c0 c1 c2 hx0 HST HB2 HZ0 HZ1
      clear hac
      obtain ⟨x0, x1, x2⟩ := ac
      simp only [Act3.cells] at hx0 HB2 HZ0 HZ1
      dsimp only at c0 c1 c2 HST
      have z0 := (cell_of_row _ _ 0 _ _ _ hx0).trans (show _ = some (Value.int .i64 x0) from rfl)
      have hk62 : (k : Int) + 1 < 9223372036854775807 := by omega
      clear hx0
      go_upto_region 5 with fail
      generalize hg : wr.heap.size = g at *
      clear hg
      generalize wr.alloc (.cells #[.int .i64 x0, .int .i64 x1, .int .i64 x2] 41) = w2 at *
      have q1 := (cell_of_row _ _ 1 _ _ _ HZ1.out).trans (show _ = some (Value.int .i64 (a : Nat)) from rfl)
      have q2 := (cell_of_row _ _ 2 _ _ _ HZ1.out).trans (show _ = some (Value.int .i64 (b : Nat)) from rfl)
      have q3 := (cell_of_row _ _ 3 _ _ _ HZ1.out).trans (show _ = some (Value.int .i64 (c : Nat)) from rfl)
      have q4 := (cell_of_row _ _ 4 _ _ _ HZ1.out).trans (show _ = some (Value.int .i64 (d : Nat)) from rfl)
      have f1 := frozen_of_row _ _ 1 _ _ HZ1.out
      have f2 := frozen_of_row _ _ 2 _ _ HZ1.out
      have f3 := frozen_of_row _ _ 3 _ _ HZ1.out
      have f4 := frozen_of_row _ _ 4 _ _ HZ1.out
      have HSET := Lib.hid (cv5_set HZ1.out)
      have a62 : (a : Int) + 1 < 9223372036854775807 := by have := HCB.out.1; omega
      have b62 : (b : Int) + 1 < 9223372036854775807 := by have := HCB.out.2.1; omega
      have c62 : (c : Int) + 1 < 9223372036854775807 := by have := HCB.out.2.2.1; omega
      have d62 : (d : Int) + 1 < 9223372036854775807 := by have := HCB.out.2.2.2; omega
      clear HCB
      by_cases h1 : x0 = 1
      · subst h1
        have HS2 : Hid (CntIs l (k + 1) (a + 1) b c d) := HST.out
        have HW : Hid ((w2.setCell ⟨w.heap.size + 1, 1, none⟩ (.int .i64 ((a + 1 : Nat) : Int))).heap[w.heap.size + 1]? = some (.cells (cv5 (a + 1) b c d) 38 (0, 0))) := HSET.out.1
        have HW0 : Hid ((w2.setCell ⟨w.heap.size + 1, 1, none⟩ (.int .i64 ((a + 1 : Nat) : Int))).heap[w.heap.size]? = some (.cells (cv5 0 0 0 0) 38 (0, 0))) := (Below.heap_setCell _ _ _ _ (by show w.heap.size ≠ w.heap.size + 1; omega)).trans HZ0.out
        have HWB := Lib.hid (HB2.out.setCell (p := ⟨w.heap.size + 1, 1, none⟩) (Nat.le_succ _) (.int .i64 ((a + 1 : Nat) : Int)))
        have hv : IntKind.i64.wrap ((a : Int) + 1) = ((a + 1 : Nat) : Int) := by rw [IntKind.wrap_i64]; omega
        clear HST HSET HZ0 HZ1 HB2
        go_wp2_with fail
        go_roundw
        case rel => exact ⟨k + 1, a + 1, b, c, d, by omega, by go_num, HS2, HW0, HW, HWB⟩
        case measure => simp [intOf]; omega
      have n1 : (x0 == 1) = false := beq_eq_false_iff_ne.2 h1
      by_cases h2 : x0 = 2
      · subst h2
        have HS2 : Hid (CntIs l (k + 1) a (b + 1) c d) := HST.out
        have HW : Hid ((w2.setCell ⟨w.heap.size + 1, 2, none⟩ (.int .i64 ((b + 1 : Nat) : Int))).heap[w.heap.size + 1]? = some (.cells (cv5 a (b + 1) c d) 38 (0, 0))) := HSET.out.2.1
        have HW0 : Hid ((w2.setCell ⟨w.heap.size + 1, 2, none⟩ (.int .i64 ((b + 1 : Nat) : Int))).heap[w.heap.size]? = some (.cells (cv5 0 0 0 0) 38 (0, 0))) := (Below.heap_setCell _ _ _ _ (by show w.heap.size ≠ w.heap.size + 1; omega)).trans HZ0.out
        have HWB := Lib.hid (HB2.out.setCell (p := ⟨w.heap.size + 1, 2, none⟩) (Nat.le_succ _) (.int .i64 ((b + 1 : Nat) : Int)))
        have hv : IntKind.i64.wrap ((b : Int) + 1) = ((b + 1 : Nat) : Int) := by rw [IntKind.wrap_i64]; omega
        clear HST HSET HZ0 HZ1 HB2
        go_wp2_with fail
        go_roundw
        case rel => exact ⟨k + 1, a, b + 1, c, d, by omega, by go_num, HS2, HW0, HW, HWB⟩
        case measure => simp [intOf]; omega
      have n2 : (x0 == 2) = false := beq_eq_false_iff_ne.2 h2
      by_cases h3 : x0 = 3
      · subst h3
        have HS2 : Hid (CntIs l (k + 1) a b (c + 1) d) := HST.out
        have HW : Hid ((w2.setCell ⟨w.heap.size + 1, 3, none⟩ (.int .i64 ((c + 1 : Nat) : Int))).heap[w.heap.size + 1]? = some (.cells (cv5 a b (c + 1) d) 38 (0, 0))) := HSET.out.2.2.1
        have HW0 : Hid ((w2.setCell ⟨w.heap.size + 1, 3, none⟩ (.int .i64 ((c + 1 : Nat) : Int))).heap[w.heap.size]? = some (.cells (cv5 0 0 0 0) 38 (0, 0))) := (Below.heap_setCell _ _ _ _ (by show w.heap.size ≠ w.heap.size + 1; omega)).trans HZ0.out
        have HWB := Lib.hid (HB2.out.setCell (p := ⟨w.heap.size + 1, 3, none⟩) (Nat.le_succ _) (.int .i64 ((c + 1 : Nat) : Int)))
        have hv : IntKind.i64.wrap ((c : Int) + 1) = ((c + 1 : Nat) : Int) := by rw [IntKind.wrap_i64]; omega
        clear HST HSET HZ0 HZ1 HB2
        go_wp2_with fail
        go_roundw
        case rel => exact ⟨k + 1, a, b, c + 1, d, by omega, by go_num, HS2, HW0, HW, HWB⟩
        case measure => simp [intOf]; omega
      have n3 : (x0 == 3) = false := beq_eq_false_iff_ne.2 h3
      by_cases h4 : x0 = 4
      · subst h4
        have HS2 : Hid (CntIs l (k + 1) a b c (d + 1)) := HST.out
        have HW : Hid ((w2.setCell ⟨w.heap.size + 1, 4, none⟩ (.int .i64 ((d + 1 : Nat) : Int))).heap[w.heap.size + 1]? = some (.cells (cv5 a b c (d + 1)) 38 (0, 0))) := HSET.out.2.2.2
        have HW0 : Hid ((w2.setCell ⟨w.heap.size + 1, 4, none⟩ (.int .i64 ((d + 1 : Nat) : Int))).heap[w.heap.size]? = some (.cells (cv5 0 0 0 0) 38 (0, 0))) := (Below.heap_setCell _ _ _ _ (by show w.heap.size ≠ w.heap.size + 1; omega)).trans HZ0.out
        have HWB := Lib.hid (HB2.out.setCell (p := ⟨w.heap.size + 1, 4, none⟩) (Nat.le_succ _) (.int .i64 ((d + 1 : Nat) : Int)))
        have hv : IntKind.i64.wrap ((d : Int) + 1) = ((d + 1 : Nat) : Int) := by rw [IntKind.wrap_i64]; omega
        clear HST HSET HZ0 HZ1 HB2
        go_wp2_with fail
        go_roundw
        case rel => exact ⟨k + 1, a, b, c, d + 1, by omega, by go_num, HS2, HW0, HW, HWB⟩
        case measure => simp [intOf]; omega
      have n4 : (x0 == 4) = false := beq_eq_false_iff_ne.2 h4
      have HS2 : Hid (CntIs l (k + 1) a b c d) := by have h := HST.out; rw [if_neg h1, if_neg h2, if_neg h3, if_neg h4] at h; exact h
      clear HST HSET
      by_cases hlo : (1 : Int) ≤ x0
      · have g1 : decide ((1 : Int) ≤ x0) = true := decide_eq_true hlo
        have g2 : decide (x0 ≤ (4 : Int)) = false := decide_eq_false (by omega)
        clear hlo
        go_wp2_with fail
        go_roundw
        case rel => exact ⟨k + 1, a, b, c, d, by omega, by go_num, HS2, HZ0, HZ1, HB2⟩
        case measure => simp [intOf]; omega
      · have g1 : decide ((1 : Int) ≤ x0) = false := decide_eq_false hlo
        clear hlo
        go_wp2_with fail
        go_roundw
        case rel => exact ⟨k + 1, a, b, c, d, by omega, by go_num, HS2, HZ0, HZ1, HB2⟩
        case measure => simp [intOf]; omega
    · obtain rfl : k = l.length := by omega
      have hd : decide ((l.length : Int) < (l.length : Int)) = false := decide_eq_false (by omega)
      have HE := Lib.hid (cntIs_end HC.out)
      clear HC HA
      rw [HE.out] at HY1
      go_wp2_with (first | (refine wpList_load_row rfl 38 (.tmp 3) rfl (w.heap.size + 1) rfl 38 _ (0, 0) _ HY1.out Tryz.underlying38 rfl info_five ?_) | (refine wpList_store_row rfl 38 (.tmp 2) (.tmp 27) rfl w.heap.size (cntV l) rfl rfl 38 (cv5 0 0 0 0) HY0.out info_five rfl (cv5_one _ _ _ _) ?_))
      exact bodyPost_ret (results_cell_row rfl _ _ w.heap.size 38 (cntV l) (0, 0) _ rfl (setRow_heap wr w.heap.size _ (cntV l) _ _ HY0.out) Tryz.underlying38 rfl info_five) rfl ⟨rfl, below_setRow HB.out (Nat.le_refl _) _⟩
end Go.Proofs.YtijfcmlgohbndaaGreatDoor

namespace Go.Proofs.YtijfcmlgohbndaaGreatDoor
set_option maxRecDepth 100000
set_option linter.unusedSimpArgs false
set_option linter.unusedVariables false
open Go.RowKit Go.Joins Go.Deep Go.WideMaps
theorem keyS : Maps.Keyed Tryz.prog 9 := Maps.string_keyed Tryz.underlying9
theorem zero_unitP (w : World) : (zeroValue 102).run Tryz.prog w = .ok (.agg #[]) w := by kernel_rfl
theorem info_filP : (Tryz.prog.info? 31).map (·.size) = some 2 := by kernel_rfl
/-- The example's item. -/
def itA : Itm := ⟨⟨#[97]⟩, 2, 0, 0, 0, 0, 0, ⟨#[]⟩⟩
theorem one_cells {w : World} {A : Option Addr} (h : Itms w A [itA]) : ∃ b off, A = some ⟨b, off, none⟩ ∧ w.cell? ⟨b, off, none⟩ = some (.string ⟨#[97]⟩) ∧ w.cell? ⟨b, off + 1, none⟩ = some (.int .i64 2) ∧ w.cell? ⟨b, off + 2, none⟩ = some (.int .u32 0) ∧ w.cell? ⟨b, off + 3, none⟩ = some (.int .u32 0) ∧ w.cell? ⟨b, off + 4, none⟩ = some (.int .u32 0) ∧ w.cell? ⟨b, off + 5, none⟩ = some (.int .i64 0) ∧ w.cell? ⟨b, off + 6, none⟩ = some (.int .i64 0) ∧ w.cell? ⟨b, off + 7, none⟩ = some (.string ⟨#[]⟩) := by
  obtain ⟨b, off, e, _, hc⟩ := h (by decide)
  have := hc 0 itA rfl
  rw [Nat.zero_mul, Nat.add_zero] at this
  exact ⟨b, off, e, this⟩
theorem keyA : keyOf Tryz.prog 9 (.string ⟨#[97]⟩) = some (.string [97]) := keyOf_string_mk Tryz.underlying9 (by decide)
set_option maxHeartbeats 4000000 in
theorem pathsN_any (w : World) : Calls Tryz.prog 29 #[.slice none 0 0] w fun e w' => e = .returned (.tuple #[.slice none 0 0, .int .i64 0]) ∧ Below w.heap.size w w' := by
  have hmm := @run_makeMap Tryz.prog
  have HM := Lib.hid (World.ownsMap_made (H := Unit) w Tryz.prog 9 unitElem)
  have HB := Lib.hid (below_alP w (.map #[] 0))
  go_enter Tryz.func29, Tryz.ntmps29
  go_upto_region 3 with fail
  generalize w.alloc (.map #[] 0) = w1 at *
  go_wp2_with fail
  refine wp_loop_rounds 1 ?_
  rw [rounds_succ]
  have hsz : (Maps.size (DataW.map [] : DataW Unit)) = 0 := rfl
  go_upto_region 12 with fail
  go_wp2_with (refine wpList_len_own _ rfl (.tmp 35) 101 rfl 9 102 Tryz.underlying101 unitElem w.heap.size 0 _ rfl HM.out ?_; rw [hsz])
  go_ret2
  exact ⟨rfl, HB.out⟩
set_option maxHeartbeats 4000000 in
theorem matchN_any (A : Option Addr) (w : World) (hT : Itms w A [itA]) : Calls Tryz.prog 31 #[.slice none 0 0, .slice A 1 1] w fun e w' => e = .returned (.tuple #[.slice none 0 0, .int .i64 0]) ∧ Below w.heap.size w w' := by
  have hmm := @run_makeMap Tryz.prog
  have hir := info_item
  have HP := Lib.hid (pathsN_any w)
  have HT := Lib.hid hT
  clear hT
  go_enter Tryz.func31, Tryz.ntmps31
  go_wp2_with fail
  refine HP.out.mono ?_; rintro e w1 ⟨rfl, hb1⟩
  have HM := Lib.hid (World.ownsMap_made (H := Unit) w1 Tryz.prog 9 (plainElem Tryz.prog 3))
  have HB1 := Lib.hid (below_then hb1 (below_alP w1 (.map #[] 0)))
  have HT1 := Lib.hid ((HT.out.below hb1).below (below_alP w1 (.map #[] 0)))
  clear HP HT
  go_upto_region 5 with fail
  have HGM : Hid (w.heap.size ≤ w1.heap.size) := hb1.size
  clear hb1
  generalize hgm : w1.heap.size = gm at *
  clear hgm
  generalize w1.alloc (.map #[] 0) = w2 at *
  obtain ⟨b, off, rfl, c0, c1, c2, c3, c4, c5, c6, c7⟩ := one_cells HT1.out
  have hx0 := heap_alloc_new w2 (.cells itA.cells 47)
  have HM2 := Lib.hid (HM.out.alloc (.cells itA.cells 47))
  have HB2 := Lib.hid (HB1.out.alloc HB1.out.size (.cells itA.cells 47))
  simp only [Itm.cells, itA] at hx0 HM2 HB2
  have y0 := (cell_of_row _ _ 0 _ _ _ hx0).trans (show _ = some (.string ⟨#[97]⟩) from rfl)
  clear HM HB1 HT1
  go_wp2_with fail
  refine wp_loop_rounds 2 ?_
  rw [rounds_succ]
  go_upto_region 8 with fail
  generalize w2.alloc (.cells #[.string ⟨#[97]⟩, .int .i64 2, .int .u32 0, .int .u32 0, .int .u32 0, .int .i64 0, .int .i64 0, .string ⟨#[]⟩] 47) = w3 at *
  have HM3 : Hid (w3.ownsMap Tryz.prog 9 (plainElem Tryz.prog 3) gm 0 (.map [] : DataW Unit)) := HM2.out
  have hzi : (zeroValue 3).run Tryz.prog w3 = .ok (.int .i64 0) w3 := by kernel_rfl
  have HPE := Lib.hid (plainElem_int (H := Unit) Tryz.underlying3 (show (Lit.int .i64 0).wf = true by decide))
  have hha : Maps.has (DataW.map [] : DataW Unit) (.string [97]) = false := rfl
  clear HM2
  go_wp2_with (first | (at_lookup; refine wpList_lookup_own_ok_int _ rfl _ _ 125 rfl 9 3 .i64 keyS Tryz.underlying125 Tryz.underlying3 hzi gm 0 _ rfl HM3.out _ _ rfl keyA ?_; intro cz _ _; rw [hha]) | (at_mapUpdate; refine wpList_mapUpdate_own _ rfl _ _ _ 125 rfl 9 3 keyS Tryz.underlying125 _ gm 0 _ rfl HM3.out (by unfold maxLen; omega) _ _ _ rfl rfl keyA (.lit (.int .i64 0)) [] HPE.out ?_; intro w6 hown6 hgrow6))
  rw [rounds_succ]
  have HB6 : Hid (Below w.heap.size w w6) := HB2.out.grown hgrow6 HB2.out.size (fun k hk => by injection hk with hk; subst hk; exact HGM.out)
  clear hown6 hgrow6 HM3
  go_wp2_with fail
  refine wp_loop_rounds 1 ?_
  rw [rounds_succ]
  go_wp2_with fail
  go_ret2
  exact ⟨rfl, HB6.out⟩
set_option maxHeartbeats 4000000 in
theorem ofEntN_any (A : Option Addr) (w : World) (hT : Itms w A [itA]) : Calls Tryz.prog 19 #[.int .i64 1, .slice none 0 0, .slice A 1 1, .agg #[.slice none 0 0, .slice none 0 0]] w fun e w' => e = .returned (.tuple #[.slice none 0 0, .int .i64 0]) ∧ Below w.heap.size w w' := by
  have hif := info_filP
  have hb1 := below_alP w (.cells #[.slice none 0 0, .slice none 0 0] 31)
  have HB1 := Lib.hid hb1
  have HP := Lib.hid (matchN_any A _ (hT.below hb1))
  clear hT hb1
  go_enter Tryz.func19, Tryz.ntmps19
  go_upto_region 1 with fail
  generalize w.alloc (.cells #[.slice none 0 0, .slice none 0 0] 31) = w1 at *
  go_wp2_with fail
  refine HP.out.mono ?_; rintro e w2 ⟨rfl, hb2⟩
  have HB2 := Lib.hid (below_then HB1.out hb2)
  clear hb2 HP HB1
  go_wp2_with fail
  refine wp_loop_rounds 1 ?_
  rw [rounds_succ]
  go_wp2_with fail
  go_ret2
  exact ⟨rfl, HB2.out⟩
/-! ### No patterns -/
set_option maxHeartbeats 4000000 in
theorem indexP_nil (F : Value) (w : World) (hF : ∃ a b c, F = .func a b c) : Calls Tryz.prog 131 #[.slice none 0 0, F] w fun e w' => e = .returned (.int .i64 (-1)) ∧ w' = w := by
  obtain ⟨fa, fb, fc, rfl⟩ := hF
  go_enter Tryz.func131, Tryz.ntmps131
  go_wp2_with fail
  refine wp_loop_rounds 1 ?_
  rw [rounds_succ]
  go_wp2_with fail
  go_ret
  exact ⟨rfl, rfl⟩
theorem containsP_nil (F : Value) (w : World) (hF : ∃ a b c, F = .func a b c) : Calls Tryz.prog 118 #[.slice none 0 0, F] w fun e w' => e = .returned (.bool false) ∧ w' = w := by
  have H := Lib.hid (indexP_nil F w hF)
  obtain ⟨fa, fb, fc, rfl⟩ := hF
  go_enter Tryz.func118, Tryz.ntmps118
  go_wp2_with fail
  refine H.out.mono ?_; rintro e w1 ⟨rfl, rfl⟩
  go_wp2_with fail
  go_ret
  exact ⟨rfl, rfl⟩
theorem anyP_nil (s : ByteArray) (w : World) : Calls Tryz.prog 104 #[.slice none 0 0, .string s] w fun e w' => e = .returned (.bool false) ∧ Below w.heap.size w w' := by
  have HB := Lib.hid (below_alP w (.cells #[.string s] 9))
  have H := Lib.hid (fun F h => containsP_nil F (w.alloc (.cells #[.string s] 9)) h)
  go_enter Tryz.func104, Tryz.ntmps104
  go_upto_region 1 with fail
  generalize w.alloc (.cells #[.string s] 9) = w1 at *
  go_wp2_with fail
  refine (H.out _ ⟨_, _, _, rfl⟩).mono ?_; rintro e w2 ⟨rfl, rfl⟩
  go_wp2_with fail
  go_ret
  exact ⟨rfl, HB.out⟩
theorem matchedN_any (s : ByteArray) (w : World) : Calls Tryz.prog 77 #[.slice none 0 0, .string s, .bool false] w fun e w' => e = .returned (.bool false) ∧ Below w.heap.size w w' := by
  have H := Lib.hid (anyP_nil s w)
  go_enter Tryz.func77, Tryz.ntmps77
  go_wp2_with fail
  refine H.out.mono ?_; rintro e w1 ⟨rfl, hb1⟩
  have HB := Lib.hid hb1
  clear hb1
  go_wp2_with fail
  go_ret
  exact ⟨rfl, HB.out⟩
set_option maxHeartbeats 4000000 in
theorem takesF_nil (s : ByteArray) (w : World) : Calls Tryz.prog 51 #[.agg #[.slice none 0 0, .slice none 0 0], .string s, .bool false] w fun e w' => e = .returned (.bool true) ∧ Below w.heap.size w w' := by
  have hif := info_filP
  have hx0 := heap_alloc_new w (.cells #[.slice none 0 0, .slice none 0 0] 31)
  have HB := Lib.hid (below_alP w (.cells #[.slice none 0 0, .slice none 0 0] 31))
  have H := Lib.hid (matchedN_any s (w.alloc (.cells #[.slice none 0 0, .slice none 0 0] 31)))
  have z0 := (cell_of_row _ _ 0 _ _ _ hx0).trans (show _ = some (Value.slice none 0 0) from rfl)
  have z1 := (cell_of_row _ _ 1 _ _ _ hx0).trans (show _ = some (Value.slice none 0 0) from rfl)
  clear hx0
  go_enter Tryz.func51, Tryz.ntmps51
  go_upto_region 1 with fail
  generalize w.alloc (.cells #[.slice none 0 0, .slice none 0 0] 31) = w1 at *
  go_wp2_with fail
  refine H.out.mono ?_; rintro e w2 ⟨rfl, hb2⟩
  have HB2 := Lib.hid (below_then HB.out hb2)
  clear hb2
  go_wp2_with fail
  go_ret
  exact ⟨rfl, HB2.out⟩
set_option maxHeartbeats 4000000 in
theorem takesP_nil (w : World) : Calls Tryz.prog 32 #[.agg #[.slice none 0 0, .slice none 0 0], .agg itA.cells] w fun e w' => e = .returned (.bool true) ∧ Below w.heap.size w w' := by
  have hif := info_filP
  have hir := info_item
  have hx0 := heap_alloc_new w (.cells #[.slice none 0 0, .slice none 0 0] 31)
  have hb0 := below_alP w (.cells #[.slice none 0 0, .slice none 0 0] 31)
  have hx1 := heap_alloc_new (w.alloc (.cells #[.slice none 0 0, .slice none 0 0] 31)) (.cells itA.cells 47)
  have hb1 := below_alP (w.alloc (.cells #[.slice none 0 0, .slice none 0 0] 31)) (.cells itA.cells 47)
  have hy0 := (hb1.block _ (lt_of_heapP hx0)).trans hx0
  rw [show (w.alloc (.cells #[.slice none 0 0, .slice none 0 0] 31)).heap.size = w.heap.size + 1 from by simp only [World.alloc, Array.size_push]] at hx1
  have HB := Lib.hid (below_then hb0 hb1)
  have H := Lib.hid (takesF_nil ⟨#[97]⟩ ((w.alloc (.cells #[.slice none 0 0, .slice none 0 0] 31)).alloc (.cells itA.cells 47)))
  have HY := Lib.hid hy0
  simp only [Itm.cells, itA] at hx1 HB H HY
  have z0 := (cell_of_row _ _ 0 _ _ _ hx1).trans (show _ = some (Value.string ⟨#[97]⟩) from rfl)
  have z1 := (cell_of_row _ _ 1 _ _ _ hx1).trans (show _ = some (Value.int .i64 2) from rfl)
  simp only [Itm.cells, itA]
  clear hx0 hb0 hx1 hb1 hy0
  go_enter Tryz.func32, Tryz.ntmps32
  have HSZ : Hid (w.heap.size ≤ _) := HB.out.size
  go_upto_region 1 with fail
  generalize hgg : w.heap.size = g at *
  generalize (w.alloc (.cells #[.slice none 0 0, .slice none 0 0] 31)).alloc (.cells #[.string ⟨#[97]⟩, .int .i64 2, .int .u32 0, .int .u32 0, .int .u32 0, .int .i64 0, .int .i64 0, .string ⟨#[]⟩] 47) = w2 at *
  go_wp2_with (refine wpList_load_row rfl 31 (.tmp 2) rfl g rfl 31 _ (0, 0) _ HY.out Tryz.underlying31 rfl info_filP ?_)
  refine H.out.mono ?_; rintro e w3 ⟨rfl, hb3⟩
  have HB3 := Lib.hid hb3
  clear hb3
  go_wp2_with fail
  go_ret
  exact ⟨rfl, by subst hgg; exact HB.out.trans (HB3.out.mono HSZ.out)⟩
end Go.Proofs.YtijfcmlgohbndaaGreatDoor
