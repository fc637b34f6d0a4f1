/-
  Contract: earlier, the walk.
-/
import Derived.Test.YtfhbkidceombbaaMatK
import Derived.Test.YtfhbkidceombbaaMatchChainsWalk
namespace Go.Proofs.Ytfhbkidceombbaa
set_option maxRecDepth 100000
open Go.Joins Go.RowKit Go.Deep Go.ChangeMaps Go.ChangeShapes Go.WideShapes
open Go.Maps (Keyed IsMap has)

set_option maxHeartbeats 8000000 in
theorem earlier_any (s : ByteArray) (hs : s.size ≤ 10000) (w : World) : Calls Try.prog 96 #[.string s] w fun e w' => ∃ g, e = .returned (.slice (some ⟨g, 0, none⟩) s.size s.size) ∧ w.heap.size ≤ g ∧ w'.heap[g]? = some (.cells (rowF (befT (bt s) s.size) s.size) 3 (0, 0)) ∧ Below w.heap.size w w' := by
  have hb0 : Below w.heap.size w (w.alloc (.cells #[.int .i64 (-1)] 3)) := (Below.refl _ _).alloc (Nat.le_refl _) _
  have hc0 : (w.alloc (.cells #[.int .i64 (-1)] 3)).cell? ⟨w.heap.size, 0, none⟩ = some (.int .i64 (-1)) := by rw [cell_of_row _ _ 0 _ _ _ (heap_alloc_new w _)]; rfl
  have HRP := Lib.hid (repeatI_neg w.heap.size s.size hs (w.alloc (.cells #[.int .i64 (-1)] 3)) (by simp) hc0)
  have HB0 := Lib.hid hb0
  have HCH := Lib.hid (fun w => chains_any s (by omega) w)
  clear hb0 hc0
  go_enter Try.func96, Try.ntmps96
  go_wp2_with fail
  refine (HRP.out).mono ?_; rintro e w1 ⟨rfl, hg1, hb1⟩
  have hsg : (w.alloc (.cells #[.int .i64 (-1)] 3)).heap.size = w.heap.size + 1 := by simp
  rw [hsg] at hg1 hb1 ⊢
  have HB1 : Hid (Below w.heap.size w w1) := HB0.out.trans (hb1.mono (by omega))
  have hgl : w.heap.size + 1 < w1.heap.size := (Array.getElem?_eq_some_iff.1 hg1).1
  have HG1 := Lib.hid hg1
  have HGL := Lib.hid hgl
  clear hg1 hb1 hsg hgl HRP HB0
  generalize hgg : w.heap.size + 1 = g at *
  have HGG := Lib.hid hgg
  clear hgg
  go_wp2_with fail
  refine (HCH.out _).mono ?_; rintro e w2 ⟨rfl, hg2, hb2⟩
  have hown := groups_own hg2
  have HG := Lib.hid hg2
  have HB2 : Hid (Below w.heap.size w w2) := HB1.out.trans (hb2.mono (by have h1 := HGL.out; have h2 := HGG.out; omega))
  have HR2 : Hid (w2.heap[g]? = some (.cells (rowF (fun _ => -1) s.size) 3 (0, 0))) := (hb2.block g HGL.out).trans HG1.out
  have HW2 : Hid (w1.heap.size ≤ w2.heap.size) := hb2.size
  clear hg2 hb2 HG1
  go_wp2_with (at_range; go_must (refine wpList_range_own _ rfl _ 181 rfl 184 81 tri_law Try.underlying181 _ w1.heap.size (s.size - 2) _ rfl hown ?_; intro wi hrg0 hgr0 hs0))
  go_frame
  have HRG := Lib.hid hrg0
  have HGR := Lib.hid hgr0
  have HS0 := Lib.hid hs0
  clear hrg0 hgr0 hs0 hown
  go_loopw [5] (fun _ wr => ∃ left cnt F, Hid (wr.ranges Try.prog 184 (rowElem w2 (w1.heap.size + 1) 3 .i64) w1.heap.size w2.heap.size (s.size - 2) (gM (bt s) (s.size - 2)) left cnt) ∧ Hid (w2.grownBy wr (some g)) ∧ Hid (∀ kl, left kl = true → has (gM (bt s) (s.size - 2)) kl = true) ∧ Hid (EarlyF (bt s) s.size left F) ∧ Hid (wr.heap[g]? = some (.cells (rowF F s.size) 3 (0, 0)))) (fun _ wr => wr.rangeLeft w1.heap.size w2.heap.size)
  case atStart =>
    exact ⟨_, _, _, HRG, HGR.out.but _, fun kl h => h, early_start (bt s) (bt_lt s) s.size, (HGR.out.block g (by have h1 := HGL.out; have h2 := HW2.out; omega) (by simp)).trans HR2.out⟩
  case round =>
    obtain ⟨left, cnt, F, HR, HGB, HHAS, HEF, HROW⟩ := hrel
    have hrg := HR.out
    go_wp2_with (at_next; go_must (refine wpList_next_ranges _ rfl _ rfl 184 tri_law _ (fun v : Value => v) mkS inv_key inv_slice w1.heap.size w2.heap.size (s.size - 2) _ _ _ rfl hrg ?_ ?_))
    · intro _ hl0
      have HFIN := Lib.hid (early_end (bt s) s.size left hl0 F HEF.out)
      clear hrg
      go_wp2
      go_ret
      refine ⟨g, rfl, by have := HGG.out; omega, ?_, ?_⟩
      · rw [← HFIN.out]; exact HROW.out
      · exact HB2.out.grown HGB.out HB2.out.size (fun j hj => by injection hj with e; have := HGG.out; omega)
    · intro x0 A nn cc kl y1 y2 w3 cnt1 hk hl hv hat hrg1 hlt hg1 hs1 hen
      obtain ⟨p, hp, hkl, hoi, hnn⟩ := came_val (bt s) (bt_lt s) (s.size - 2) (HHAS.out kl hl) hv hat
      have hkl2 : kl = keyOfT (bt s) p := hkl
      have hnn2 : nn = (places (bt s) (bt s p) (bt s (p + 1)) (bt s (p + 2)) (s.size - 2)).length := hnn
      subst hkl2
      have hpin : p ∈ places (bt s) (bt s p) (bt s (p + 1)) (bt s (p + 2)) (s.size - 2) := (places_mem _ _ _ _ _ _).2 ⟨hp, rfl, rfl, rfl⟩
      have hmem := fun q => places_mem (bt s) (bt s p) (bt s (p + 1)) (bt s (p + 2)) (s.size - 2) q
      have hple := places_len (bt s) (bt s p) (bt s (p + 1)) (bt s (p + 2)) (s.size - 2)
      have HSTEP := Lib.hid (fun F' => early_step (bt s) (bt_lt s) s.size left F F' p hl HEF.out)
      have HINN := Lib.hid (fun k place F1 h1 h2 => inner_step (bt s) s.size (bt s p) (bt s (p + 1)) (bt s (p + 2)) k place F F1 h1 h2)
      have HIN0 := Lib.hid (inner_start (bt s) s.size (places (bt s) (bt s p) (bt s (p + 1)) (bt s (p + 2)) (s.size - 2)) F)
      have hoi1 : w2.ownsRow (w1.heap.size + 1) 3 1 (mkS (A, nn, cc)) (places (bt s) (bt s p) (bt s (p + 1)) (bt s (p + 2)) (s.size - 2)).length (cellsI (places (bt s) (bt s p) (bt s (p + 1)) (bt s (p + 2)) (s.size - 2))) := by
        have h := hoi.1
        rw [cellsI_zs] at h
        simpa [zsOf] using h
      generalize places (bt s) (bt s p) (bt s (p + 1)) (bt s (p + 2)) (s.size - 2) = P at *
      have hP1 : 1 ≤ P.length := by cases P with
        | nil => cases hpin
        | cons _ _ => simp
      simp only [mkS] at hen hoi1
      subst hnn2
      obtain ⟨gP, rfl, hgB, hgP, hcP⟩ := own_int hoi1 hP1
      have HR1 := Lib.hid hrg1
      have HG1 : Hid (w2.grownBy w3 (some g)) := HGB.out.andThen hg1 (fun j hj => by injection hj with e; omega)
      have HHAS1 : Hid (∀ k2, (fun z => left z && !z.sameKey (keyOfT (bt s) p)) k2 = true → has (gM (bt s) (s.size - 2)) k2 = true) := fun k2 h2 => HHAS.out k2 (by simp at h2; exact h2.1)
      have HLT := Lib.hid hlt
      have HROW1 : Hid (w3.heap[g]? = some (.cells (rowF F s.size) 3 (0, 0))) := (hg1.block g (by
        have h1 := (Array.getElem?_eq_some_iff.1 HROW.out).1; exact h1) (by intro e; injection e with e; have h1 := HGL.out; have h2 := HW2.out; omega)).trans HROW.out
      have HCP : Hid (∀ i, i < P.length → w2.cell? ⟨gP, i, none⟩ = some (.int .i64 ((P.getD i 0 : Nat) : Int))) := hcP
      have HPB : Hid (∀ q, q ∈ P → q < s.size) := fun q hq => by have := (hmem q).1 hq; omega
      have HGPB : Hid (gP < w2.heap.size ∧ w1.heap.size + 1 ≤ gP) := ⟨hgP, hgB⟩
      have hcap : P.length ≤ cc := by
        rcases hoi1.2 with ⟨h, _⟩ | ⟨g', cap', cur, h, _, _, h2, _⟩
        · cases h
        · injection h with _ _ h3; subst h3; exact h2
      have HCAP := Lib.hid hcap
      clear hk hl hv hat hrg1 hlt hg1 hs1 hoi hoi1 hnn hkl hp hpin hmem hcP hgB hgP
      go_wp2_with fail
      all_goals
        go_loopw [22] (fun j wr2 => ∃ (k : Nat) (F1 : Nat → Int), k ≤ P.length - 1 ∧ j = .int .i64 (k : Nat) ∧ Hid (InnerF (bt s) s.size P k F F1) ∧ Hid (wr2.heap[g]? = some (.cells (rowF F1 s.size) 3 (0, 0))) ∧ Hid (w3.grownBy wr2 (some g))) (fun j _ => (P.length - 1) - (intOf j).toNat)
        case atStart => exact ⟨0, F, Nat.zero_le _, rfl, HIN0, HROW1, ⟨rfl, rfl, rfl, Nat.le_refl _, fun _ _ _ => rfl⟩⟩
        case round =>
          obtain ⟨k, F1, hk, rfl, HI, HRW, HGW⟩ := hrel
          by_cases hkn : k < P.length - 1
          · try (exfalso; have := HCAP.out; omega)
            all_goals
              have hk1 : 1 + k < P.length := by omega
              have e1 := List.getElem?_eq_getElem (show k + 1 < P.length by omega)
              have e2 : P.getD (1 + k) 0 = P[k + 1] := by rw [List.getD_eq_getElem?_getD, show 1 + k = k + 1 by omega, e1]; rfl
              have hpl := HPB.out _ (List.getElem_mem (show k + 1 < P.length by omega))
              have hgp := HGPB.out
              have hgw : g < w1.heap.size := HGL.out
              have hcell : ∀ i, i < P.length → wr.cell? ⟨gP, i, none⟩ = some (.int .i64 ((P.getD i 0 : Nat) : Int)) := fun i hi =>
                (World.cell?_of_block (w := w3) (HGW.out.block gP (by have := HG1.out.size; omega) (by intro e; injection e with e; omega))).trans
                  ((World.cell?_of_block (w := w2) (HG1.out.block gP hgp.1 (by intro e; injection e with e; omega))).trans (HCP.out i hi))
              have k1 := hcell (1 + k) hk1
              have k2 := hcell k (by omega)
              rw [e2] at k1
              have HNX := Lib.hid (HINN.out k P[k + 1] F1 e1 HI.out)
              have k3 : wr.cell? ⟨g, P[k + 1], none⟩ = some (.int .i64 (F1 P[k + 1])) := by
                rw [cell_of_row wr g _ _ _ _ HRW.out]; exact rowF_get F1 _ _ hpl
              have kf := frozen_of_row wr g P[k + 1] _ _ HRW.out
              have HRW2 : Hid ((wr.setCell ⟨g, P[k + 1], none⟩ (.int .i64 ((P.getD k 0 : Nat) : Int))).heap[g]? = some (.cells (rowF (fun p => if p = P[k + 1] then ((P.getD k 0 : Nat) : Int) else F1 p) s.size) 3 (0, 0))) := by
                have h := heap_setCell_same wr g P[k + 1] _ _ (.int .i64 ((P.getD k 0 : Nat) : Int)) HRW.out
                rw [rowF_set] at h
                exact h
              have HGW2 := Lib.hid (grown_then HGW.out (grown_set wr g P[k + 1] (.int .i64 ((P.getD k 0 : Nat) : Int))))
              clear hcell e1 e2 hgp hgw
              generalize P[k + 1] = place at *
              generalize P.getD k 0 = pk at *
              have hkk : k < P.length := by omega
              go_wp2_with fail
              go_roundw
              case rel => exact ⟨k + 1, _, by omega, by go_num, HNX, HRW2, HGW2⟩
              case measure => simp [intOf]; omega
          · obtain rfl : k = P.length - 1 := by omega
            have HE2 := Lib.hid (HSTEP.out F1 HI.out)
            go_wp2_with fail
            go_roundw
            case rel =>
              exact ⟨_, _, F1, HR1.out.kept HGW.out (by intro e; injection e with e; have := HGL.out; omega) (by intro e; injection e with e; have := HGL.out; have := HW2.out; omega), grown_then HG1.out HGW.out, HHAS1, HE2, HRW⟩
            case measure =>
              have h1 := HR1.out.kept HGW.out (by intro e; injection e with e; have := HGL.out; omega) (by intro e; injection e with e; have := HGL.out; have := HW2.out; omega)
              rw [h1.left_eq, HR.out.left_eq]
              have := HLT.out; omega
end Go.Proofs.Ytfhbkidceombbaa
