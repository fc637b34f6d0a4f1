/-
  Contract: earlier, the walk.
  Contracts: alike, longest.
  Contract: longest.
  Contract: token.
  Contracts: begin; rows of tokens.
  Contract: Find.
  Contract: tokens as the document's.
-/
import Derived.Test.YtfhbkidceombbaaPkI

namespace Go.Proofs.Ytfhbkidceombbaa
set_option maxRecDepth 100000
open Go.Joins Go.RowKit Go.Deep Go.ChangeMaps Go.ChangeShapes Go.WideShapes
open Go.Maps (Keyed IsMap has)

set_option maxHeartbeats 8000000 in
theorem earlier_any (s : ByteArray) (hs : s.size ≤ 10000) (w : World) : Calls Try.prog 96 #[.string s] w fun e w' => ∃ g, e = .returned (.slice (some ⟨g, 0, none⟩) s.size s.size) ∧ w.heap.size ≤ g ∧ w'.heap[g]? = some (.cells (rowF (befT (bt s) s.size) s.size) 3 (0, 0)) ∧ Below w.heap.size w w' := by
  have hb0 : Below w.heap.size w (w.alloc (.cells #[.int .i64 (-1)] 3)) := (Below.refl _ _).alloc (Nat.le_refl _) _
  have hc0 : (w.alloc (.cells #[.int .i64 (-1)] 3)).cell? ⟨w.heap.size, 0, none⟩ = some (.int .i64 (-1)) := by rw [cell_of_row _ _ 0 _ _ _ (heap_alloc_new w _)]; rfl
  have HRP := Lib.hid (repeatI_neg w.heap.size s.size hs (w.alloc (.cells #[.int .i64 (-1)] 3)) (by simp) hc0)
  have HB0 := Lib.hid hb0
  have HCH := Lib.hid (fun w => chains_any s (by omega) w)
  clear hb0 hc0
  go_enter Try.func96, Try.ntmps96
  go_wp2_with fail
  refine (HRP.out).mono ?_; rintro e w1 ⟨rfl, hg1, hb1⟩
  have hsg : (w.alloc (.cells #[.int .i64 (-1)] 3)).heap.size = w.heap.size + 1 := by simp
  rw [hsg] at hg1 hb1 ⊢
  have HB1 : Hid (Below w.heap.size w w1) := HB0.out.trans (hb1.mono (by omega))
  have hgl : w.heap.size + 1 < w1.heap.size := (Array.getElem?_eq_some_iff.1 hg1).1
  have HG1 := Lib.hid hg1
  have HGL := Lib.hid hgl
  clear hg1 hb1 hsg hgl HRP HB0
  generalize hgg : w.heap.size + 1 = g at *
  have HGG := Lib.hid hgg
  clear hgg
  go_wp2_with fail
  refine (HCH.out _).mono ?_; rintro e w2 ⟨rfl, hg2, hb2⟩
  have hown := groups_own hg2
  have HG := Lib.hid hg2
  have HB2 : Hid (Below w.heap.size w w2) := HB1.out.trans (hb2.mono (by have h1 := HGL.out; have h2 := HGG.out; omega))
  have HR2 : Hid (w2.heap[g]? = some (.cells (rowF (fun _ => -1) s.size) 3 (0, 0))) := (hb2.block g HGL.out).trans HG1.out
  have HW2 : Hid (w1.heap.size ≤ w2.heap.size) := hb2.size
  clear hg2 hb2 HG1
  go_wp2_with (at_range; go_must (refine wpList_range_own _ rfl _ 181 rfl 184 81 tri_law Try.underlying181 _ w1.heap.size (s.size - 2) _ rfl hown ?_; intro wi hrg0 hgr0 hs0))
  go_frame
  have HRG := Lib.hid hrg0
  have HGR := Lib.hid hgr0
  have HS0 := Lib.hid hs0
  clear hrg0 hgr0 hs0 hown
  go_loopw [5] (fun _ wr => ∃ left cnt F, Hid (wr.ranges Try.prog 184 (rowElem w2 (w1.heap.size + 1) 3 .i64) w1.heap.size w2.heap.size (s.size - 2) (gM (bt s) (s.size - 2)) left cnt) ∧ Hid (w2.grownBy wr (some g)) ∧ Hid (∀ kl, left kl = true → has (gM (bt s) (s.size - 2)) kl = true) ∧ Hid (EarlyF (bt s) s.size left F) ∧ Hid (wr.heap[g]? = some (.cells (rowF F s.size) 3 (0, 0)))) (fun _ wr => wr.rangeLeft w1.heap.size w2.heap.size)
  case atStart =>
    exact ⟨_, _, _, HRG, HGR.out.but _, fun kl h => h, early_start (bt s) (bt_lt s) s.size, (HGR.out.block g (by have h1 := HGL.out; have h2 := HW2.out; omega) (by simp)).trans HR2.out⟩
  case round =>
    obtain ⟨left, cnt, F, HR, HGB, HHAS, HEF, HROW⟩ := hrel
    have hrg := HR.out
    go_wp2_with (at_next; go_must (refine wpList_next_ranges _ rfl _ rfl 184 tri_law _ (fun v : Value => v) mkS inv_key inv_slice w1.heap.size w2.heap.size (s.size - 2) _ _ _ rfl hrg ?_ ?_))
    · intro _ hl0
      have HFIN := Lib.hid (early_end (bt s) s.size left hl0 F HEF.out)
      clear hrg
      go_wp2
      go_ret
      refine ⟨g, rfl, by have := HGG.out; omega, ?_, ?_⟩
      · rw [← HFIN.out]; exact HROW.out
      · exact HB2.out.grown HGB.out HB2.out.size (fun j hj => by injection hj with e; have := HGG.out; omega)
    · intro x0 A nn cc kl y1 y2 w3 cnt1 hk hl hv hat hrg1 hlt hg1 hs1 hen
      obtain ⟨p, hp, hkl, hoi, hnn⟩ := came_val (bt s) (bt_lt s) (s.size - 2) (HHAS.out kl hl) hv hat
      have hkl2 : kl = keyOfT (bt s) p := hkl
      have hnn2 : nn = (places (bt s) (bt s p) (bt s (p + 1)) (bt s (p + 2)) (s.size - 2)).length := hnn
      subst hkl2
      have hpin : p ∈ places (bt s) (bt s p) (bt s (p + 1)) (bt s (p + 2)) (s.size - 2) := (places_mem _ _ _ _ _ _).2 ⟨hp, rfl, rfl, rfl⟩
      have hmem := fun q => places_mem (bt s) (bt s p) (bt s (p + 1)) (bt s (p + 2)) (s.size - 2) q
      have hple := places_len (bt s) (bt s p) (bt s (p + 1)) (bt s (p + 2)) (s.size - 2)
      have HSTEP := Lib.hid (fun F' => early_step (bt s) (bt_lt s) s.size left F F' p hl HEF.out)
      have HINN := Lib.hid (fun k place F1 h1 h2 => inner_step (bt s) s.size (bt s p) (bt s (p + 1)) (bt s (p + 2)) k place F F1 h1 h2)
      have HIN0 := Lib.hid (inner_start (bt s) s.size (places (bt s) (bt s p) (bt s (p + 1)) (bt s (p + 2)) (s.size - 2)) F)
      have hoi1 : w2.ownsRow (w1.heap.size + 1) 3 1 (mkS (A, nn, cc)) (places (bt s) (bt s p) (bt s (p + 1)) (bt s (p + 2)) (s.size - 2)).length (cellsI (places (bt s) (bt s p) (bt s (p + 1)) (bt s (p + 2)) (s.size - 2))) := by
        have h := hoi.1
        rw [cellsI_zs] at h
        simpa [zsOf] using h
      generalize places (bt s) (bt s p) (bt s (p + 1)) (bt s (p + 2)) (s.size - 2) = P at *
      have hP1 : 1 ≤ P.length := by cases P with
        | nil => cases hpin
        | cons _ _ => simp
      simp only [mkS] at hen hoi1
      subst hnn2
      obtain ⟨gP, rfl, hgB, hgP, hcP⟩ := own_int hoi1 hP1
      have HR1 := Lib.hid hrg1
      have HG1 : Hid (w2.grownBy w3 (some g)) := HGB.out.andThen hg1 (fun j hj => by injection hj with e; omega)
      have HHAS1 : Hid (∀ k2, (fun z => left z && !z.sameKey (keyOfT (bt s) p)) k2 = true → has (gM (bt s) (s.size - 2)) k2 = true) := fun k2 h2 => HHAS.out k2 (by simp at h2; exact h2.1)
      have HLT := Lib.hid hlt
      have HROW1 : Hid (w3.heap[g]? = some (.cells (rowF F s.size) 3 (0, 0))) := (hg1.block g (by
        have h1 := (Array.getElem?_eq_some_iff.1 HROW.out).1; exact h1) (by intro e; injection e with e; have h1 := HGL.out; have h2 := HW2.out; omega)).trans HROW.out
      have HCP : Hid (∀ i, i < P.length → w2.cell? ⟨gP, i, none⟩ = some (.int .i64 ((P.getD i 0 : Nat) : Int))) := hcP
      have HPB : Hid (∀ q, q ∈ P → q < s.size) := fun q hq => by have := (hmem q).1 hq; omega
      have HGPB : Hid (gP < w2.heap.size ∧ w1.heap.size + 1 ≤ gP) := ⟨hgP, hgB⟩
      have hcap : P.length ≤ cc := by
        rcases hoi1.2 with ⟨h, _⟩ | ⟨g', cap', cur, h, _, _, h2, _⟩
        · cases h
        · injection h with _ _ h3; subst h3; exact h2
      have HCAP := Lib.hid hcap
      clear hk hl hv hat hrg1 hlt hg1 hs1 hoi hoi1 hnn hkl hp hpin hmem hcP hgB hgP
      go_wp2_with fail
      all_goals
        go_loopw [22] (fun j wr2 => ∃ (k : Nat) (F1 : Nat → Int), k ≤ P.length - 1 ∧ j = .int .i64 (k : Nat) ∧ Hid (InnerF (bt s) s.size P k F F1) ∧ Hid (wr2.heap[g]? = some (.cells (rowF F1 s.size) 3 (0, 0))) ∧ Hid (w3.grownBy wr2 (some g))) (fun j _ => (P.length - 1) - (intOf j).toNat)
        case atStart => exact ⟨0, F, Nat.zero_le _, rfl, HIN0, HROW1, ⟨rfl, rfl, rfl, Nat.le_refl _, fun _ _ _ => rfl⟩⟩
        case round =>
          obtain ⟨k, F1, hk, rfl, HI, HRW, HGW⟩ := hrel
          by_cases hkn : k < P.length - 1
          · try (exfalso; have := HCAP.out; omega)
            all_goals
              have hk1 : 1 + k < P.length := by omega
              have e1 := List.getElem?_eq_getElem (show k + 1 < P.length by omega)
              have e2 : P.getD (1 + k) 0 = P[k + 1] := by rw [List.getD_eq_getElem?_getD, show 1 + k = k + 1 by omega, e1]; rfl
              have hpl := HPB.out _ (List.getElem_mem (show k + 1 < P.length by omega))
              have hgp := HGPB.out
              have hgw : g < w1.heap.size := HGL.out
              have hcell : ∀ i, i < P.length → wr.cell? ⟨gP, i, none⟩ = some (.int .i64 ((P.getD i 0 : Nat) : Int)) := fun i hi =>
                (World.cell?_of_block (w := w3) (HGW.out.block gP (by have := HG1.out.size; omega) (by intro e; injection e with e; omega))).trans
                  ((World.cell?_of_block (w := w2) (HG1.out.block gP hgp.1 (by intro e; injection e with e; omega))).trans (HCP.out i hi))
              have k1 := hcell (1 + k) hk1
              have k2 := hcell k (by omega)
              rw [e2] at k1
              have HNX := Lib.hid (HINN.out k P[k + 1] F1 e1 HI.out)
              have k3 : wr.cell? ⟨g, P[k + 1], none⟩ = some (.int .i64 (F1 P[k + 1])) := by
                rw [cell_of_row wr g _ _ _ _ HRW.out]; exact rowF_get F1 _ _ hpl
              have kf := frozen_of_row wr g P[k + 1] _ _ HRW.out
              have HRW2 : Hid ((wr.setCell ⟨g, P[k + 1], none⟩ (.int .i64 ((P.getD k 0 : Nat) : Int))).heap[g]? = some (.cells (rowF (fun p => if p = P[k + 1] then ((P.getD k 0 : Nat) : Int) else F1 p) s.size) 3 (0, 0))) := by
                have h := heap_setCell_same wr g P[k + 1] _ _ (.int .i64 ((P.getD k 0 : Nat) : Int)) HRW.out
                rw [rowF_set] at h
                exact h
              have HGW2 := Lib.hid (grown_then HGW.out (grown_set wr g P[k + 1] (.int .i64 ((P.getD k 0 : Nat) : Int))))
              clear hcell e1 e2 hgp hgw
              generalize P[k + 1] = place at *
              generalize P.getD k 0 = pk at *
              have hkk : k < P.length := by omega
              go_wp2_with fail
              go_roundw
              case rel => exact ⟨k + 1, _, by omega, by go_num, HNX, HRW2, HGW2⟩
              case measure => simp [intOf]; omega
          · obtain rfl : k = P.length - 1 := by omega
            have HE2 := Lib.hid (HSTEP.out F1 HI.out)
            go_wp2_with fail
            go_roundw
            case rel =>
              exact ⟨_, _, F1, HR1.out.kept HGW.out (by intro e; injection e with e; have := HGL.out; omega) (by intro e; injection e with e; have := HGL.out; have := HW2.out; omega), grown_then HG1.out HGW.out, HHAS1, HE2, HRW⟩
            case measure =>
              have h1 := HR1.out.kept HGW.out (by intro e; injection e with e; have := HGL.out; omega) (by intro e; injection e with e; have := HGL.out; have := HW2.out; omega)
              rw [h1.left_eq, HR.out.left_eq]
              have := HLT.out; omega
end Go.Proofs.Ytfhbkidceombbaa

namespace Go.Proofs.Ytfhbkidceombbaa
set_option maxRecDepth 100000
open Go.Joins Go.RowKit Go.Deep

/-- A search as a value. -/
def valS (s : ByteArray) (v : Value) (t : Nat) : Value := .agg #[.string s, v, .int .i64 (t : Nat)]
def eqA (a : Nat → Nat) (f p : Nat) : Nat → Bool := fun i => decide (a (f + i) = a (p + i))
set_option maxHeartbeats 8000000 in
theorem alike_any (s : ByteArray) (A : Option Addr) (nA cA t f p most : Nat) (hs : s.size ≤ 1048576) (hf : f + most ≤ s.size) (hp : p + most ≤ s.size) (w : World) :
    Calls Try.prog 115 #[.agg #[.string s, .slice A nA cA, .int .i64 (t : Nat)], .int .i64 (f : Nat), .int .i64 (p : Nat), .int .i64 (most : Nat)] w fun e w' => e = .returned (.int .i64 ((alF (eqA (bt s) f p) most : Nat) : Int)) ∧ Below w.heap.size w w' := by
  have hx0 : (w.alloc (.cells #[.string s, .slice A nA cA, .int .i64 (t : Nat)] 127)).cell? ⟨w.heap.size, 0, none⟩ = some (.string s) := by rw [cell_of_row _ _ 0 _ _ _ (heap_alloc_new w _)]; rfl
  have hb0 : Below w.heap.size w (w.alloc (.cells #[.string s, .slice A nA cA, .int .i64 (t : Nat)] 127)) := (Below.refl _ _).alloc (Nat.le_refl _) _
  have HX := Lib.hid hx0
  have HB := Lib.hid hb0
  clear hx0 hb0
  go_enter Try.func115, Try.ntmps115
  go_wp2_with fail
  generalize w.alloc (.cells #[.string s, .slice A nA cA, .int .i64 (t : Nat)] 127) = w1 at *
  go_loopw [9] (fun i wr => ∃ k : Nat, k ≤ most ∧ i = .int .i64 (k : Nat) ∧ Hid (∀ i, i < k → eqA (bt s) f p i = true) ∧ Hid (∃ n, wr = w1.drewN n)) (fun i _ => most - (intOf i).toNat)
  case atStart => exact ⟨0, Nat.zero_le _, rfl, fun i h => by omega, 0, rfl⟩
  case round =>
    obtain ⟨k, hk, rfl, HE, HD⟩ := hrel
    obtain ⟨nd, hd⟩ := HD.out
    have k0 : wr.cell? ⟨w.heap.size, 0, none⟩ = some (.string s) := by rw [hd, World.cell?_drewN]; exact HX.out
    have HDD := Lib.hid hd
    clear hd
    by_cases hkm : k < most
    · have g1 : decide ((k : Int) < (most : Int)) = true := decide_eq_true (by omega)
      have g2 : decide (k < most) = true := decide_eq_true hkm
      obtain ⟨q1, e1, f1⟩ : ∃ q : Nat, ((f : Int) + (k : Int)) = (q : Int) ∧ q = f + k := ⟨f + k, by omega, rfl⟩
      obtain ⟨q2, e2, f2⟩ : ∃ q : Nat, ((p : Int) + (k : Int)) = (q : Int) ∧ q = p + k := ⟨p + k, by omega, rfl⟩
      have l1 : q1 < s.size := by omega
      have l2 : q2 < s.size := by omega
      have n1 : ((s[q1].toNat : Int) == (s[q2].toNat : Int)) = eqA (bt s) f p k := by
        rw [bt_get s q1 l1, bt_get s q2 l2]
        unfold eqA
        rw [Bool.eq_iff_iff, f1, f2]
        simp only [beq_iff_eq, decide_eq_true_eq]
        exact Int.natCast_inj
      have w1' : IntKind.i64.wrap (q1 : Int) = (q1 : Int) := by rw [IntKind.wrap_i64]; omega
      have w2' : IntKind.i64.wrap (q2 : Int) = (q2 : Int) := by rw [IntKind.wrap_i64]; omega
      clear f1 f2
      go_wp2_with fail
      cases hq : eqA (bt s) f p k with
      | true =>
        rw [hq] at n1
        go_quiet (fail)
        have HQ := Lib.hid hq
        clear hq n1
        go_wp2_with fail
        go_roundw
        case rel =>
          refine ⟨k + 1, by omega, by go_num, ?_, ?_⟩
          · intro i hi
            by_cases e : i = k
            · subst e; exact HQ.out
            · exact HE.out i (by omega)
          · exact ⟨nd + _, by rw [HDD.out, World.drewN_drewN]⟩
        case measure => simp [intOf]; omega
      | false =>
        rw [hq] at n1
        have HFIN := Lib.hid (alF_eq (eqA (bt s) f p) most k HE.out hk (.inr hq))
        clear hq
        go_quiet (fail)
        go_wp2
        go_ret
        rw [HFIN.out]
        exact ⟨rfl, by rw [HDD.out, World.drewN_drewN]; exact below_drewN HB.out _⟩
    · obtain rfl : k = most := by omega
      have g1 : decide ((k : Int) < (k : Int)) = false := decide_eq_false (by omega)
      have g2 : decide (k < k) = false := decide_eq_false (by omega)
      have HFIN := Lib.hid (alF_eq (eqA (bt s) f p) k k HE.out (Nat.le_refl _) (.inl rfl))
      clear hkm hk
      go_wp2_with fail
      go_quiet (fail)
      go_wp2
      go_ret
      rw [HFIN.out]
      exact ⟨rfl, by rw [HDD.out, World.drewN_drewN]; exact below_drewN HB.out _⟩
end Go.Proofs.Ytfhbkidceombbaa

namespace Go.Proofs.Ytfhbkidceombbaa
set_option maxRecDepth 100000
open Go.Joins Go.RowKit Go.Deep

theorem info_tokf : (Try.prog.info? 43).map (·.size) = some 3 := by kernel_rfl
theorem zero_tok (w : World) : (zeroValue 43).run Try.prog w = .ok (.agg #[.int .u8 0, .int .i64 0, .int .i64 0]) w := by kernel_rfl
/-- What the search's loop keeps. -/
def LSt (w wr : World) (s : ByteArray) (v : Value) (t bl bd : Nat) : Prop :=
  wr.heap[w.heap.size]? = some (.cells #[.string s, v, .int .i64 (t : Nat)] 127 (0, 0)) ∧
  wr.heap[w.heap.size + 1]? = some (.cells #[.int .u8 0, .int .i64 0, .int .i64 0] 43 (0, 0)) ∧
  wr.heap[w.heap.size + 1 + 1]? = some (.cells #[.int .u8 0, .int .i64 (bl : Nat), .int .i64 (bd : Nat)] 43 (0, 0)) ∧ Below w.heap.size w wr ∧ w.heap.size + 3 ≤ wr.heap.size
theorem LSt.later {w wr w2 : World} {s : ByteArray} {v : Value} {t bl bd : Nat} (h : LSt w wr s v t bl bd) (hb : Below wr.heap.size wr w2) : LSt w w2 s v t bl bd := by
  obtain ⟨h1, h2, h3, h4, h5⟩ := h
  exact ⟨(hb.block _ (by omega)).trans h1, (hb.block _ (by omega)).trans h2, (hb.block _ (by omega)).trans h3, h4.trans (hb.mono h4.size), Nat.le_trans h5 hb.size⟩
theorem three_set {w : World} {g : Nat} {a b c x y z : Value} {T : TypeId} (h : w.heap[g]? = some (.cells #[a, b, c] T (0, 0))) : (((w.setCell ⟨g, 0, none⟩ x).setCell ⟨g, 1, none⟩ y).setCell ⟨g, 2, none⟩ z).heap[g]? = some (.cells #[x, y, z] T (0, 0)) := by
  have h1 := heap_setCell_same w g 0 _ _ x h
  have h2 := heap_setCell_same _ g 1 _ _ y h1
  have h3 := heap_setCell_same _ g 2 _ _ z h2
  simpa using h3
set_option maxHeartbeats 8000000 in
theorem longest_any (s : ByteArray) (A : Option Addr) (nA cA t p : Nat) (hs : s.size ≤ 10000) (hp : p ≤ s.size) (ht : t ≤ 2000) (w : World)
    (hA : 0 < t → ∃ g, A = some ⟨g, 0, none⟩ ∧ nA = s.size ∧ g < w.heap.size ∧ w.heap[g]? = some (.cells (rowF (befT (bt s) s.size) s.size) 3 (0, 0))) :
    Calls Try.prog 97 #[.agg #[.string s, .slice A nA cA, .int .i64 (t : Nat)], .int .i64 (p : Nat)] w fun e w' => e = .returned (.agg #[.int .u8 0, .int .i64 ((longT (bt s) s.size (befT (bt s) s.size) t p).1 : Nat), .int .i64 ((longT (bt s) s.size (befT (bt s) s.size) t p).2 : Nat)]) ∧ Below w.heap.size w w' := by
  have hzt := zero_tok
  obtain ⟨q, e1, f1⟩ : ∃ q : Nat, ((s.size : Int) - (p : Int)) = (q : Int) ∧ q = s.size - p := ⟨s.size - p, by omega, rfl⟩
  obtain ⟨M, hM⟩ : ∃ M : Nat, M = min (s.size - p) 258 := ⟨_, rfl⟩
  have hmn : (if 258 < q then (258 : Int) else (q : Int)) = (M : Int) := by split <;> omega
  have hwq : IntKind.i64.wrap (q : Int) = (q : Int) := by rw [IntKind.wrap_i64]; omega
  have hM2 : M ≤ 258 := by omega
  have HMP : Hid (M ≤ s.size - p) := by show M ≤ _; omega
  have HLN : Hid (longT (bt s) s.size (befT (bt s) s.size) t p = if M < 3 then (0, 0) else lgF (bt s) (befT (bt s) s.size) p M t ⟨p, 0, 0⟩) := by show _ = _; rw [hM]; rfl
  generalize longT (bt s) s.size (befT (bt s) s.size) t p = LG at *
  have hM258 : 258 < q → M = 258 := fun h => by omega
  have hMq : ¬ 258 < q → M = q := fun h => by omega
  clear hM f1
  go_enter Try.func97, Try.ntmps97
  have hx0 : LSt w (((w.alloc (.cells #[.string s, .slice A nA cA, .int .i64 (t : Nat)] 127)).alloc (.cells #[.int .u8 0, .int .i64 0, .int .i64 0] 43)).alloc (.cells #[.int .u8 0, .int .i64 0, .int .i64 0] 43)) s (.slice A nA cA) t 0 0 := by
    have b1 := heap_alloc_new w (.cells #[.string s, .slice A nA cA, .int .i64 (t : Nat)] 127)
    have s1 : (w.alloc (.cells #[.string s, .slice A nA cA, .int .i64 (t : Nat)] 127)).heap.size = w.heap.size + 1 := by simp
    have d1 : Below w.heap.size w (w.alloc (.cells #[.string s, .slice A nA cA, .int .i64 (t : Nat)] 127)) := (Below.refl _ _).alloc (Nat.le_refl _) _
    generalize w.alloc (.cells #[.string s, .slice A nA cA, .int .i64 (t : Nat)] 127) = w1 at *
    have b2 := heap_alloc_new w1 (.cells #[.int .u8 0, .int .i64 0, .int .i64 0] 43)
    have s2 : (w1.alloc (.cells #[.int .u8 0, .int .i64 0, .int .i64 0] 43)).heap.size = w1.heap.size + 1 := by simp
    have d2 : Below w1.heap.size w1 (w1.alloc (.cells #[.int .u8 0, .int .i64 0, .int .i64 0] 43)) := (Below.refl _ _).alloc (Nat.le_refl _) _
    generalize w1.alloc (.cells #[.int .u8 0, .int .i64 0, .int .i64 0] 43) = w2 at *
    have b3 := heap_alloc_new w2 (.cells #[.int .u8 0, .int .i64 0, .int .i64 0] 43)
    have s3 : (w2.alloc (.cells #[.int .u8 0, .int .i64 0, .int .i64 0] 43)).heap.size = w2.heap.size + 1 := by simp
    have d3 : Below w2.heap.size w2 (w2.alloc (.cells #[.int .u8 0, .int .i64 0, .int .i64 0] 43)) := (Below.refl _ _).alloc (Nat.le_refl _) _
    generalize w2.alloc (.cells #[.int .u8 0, .int .i64 0, .int .i64 0] 43) = w3 at *
    rw [s1] at b2
    rw [s2, s1] at b3
    exact ⟨(d3.block _ (by omega)).trans ((d2.block _ (by omega)).trans b1), (d3.block _ (by omega)).trans b2, b3, d1.trans ((d2.mono (by omega)).trans (d3.mono (by omega))), by omega⟩
  have HX := Lib.hid hx0
  by_cases h3 : M < 3
  · have HLZ := Lib.hid (HLN.out.trans (if_pos h3))
    go_wp2_with fail
    obtain ⟨_, m1, _, mb, _⟩ := HX.out
    exact bodyPost_ret (results_cell_row rfl _ _ (w.heap.size + 1) 43 #[.int .u8 0, .int .i64 0, .int .i64 0] (0, 0) _ rfl m1 Try.underlying43 rfl info_tokf) rfl ⟨by rw [HLZ.out]; rfl, mb⟩
  · have HLN2 := Lib.hid (HLN.out.trans (if_neg h3))
    have h3i : decide ((M : Int) < 3) = false := decide_eq_false (by omega)
    have HAA := Lib.hid hA
    clear hA
    go_wp2_with fail
    all_goals
      generalize hW3 : ((w.alloc (.cells #[.string s, .slice A nA cA, .int .i64 (t : Nat)] 127)).alloc (.cells #[.int .u8 0, .int .i64 0, .int .i64 0] 43)).alloc (.cells #[.int .u8 0, .int .i64 0, .int .i64 0] 43) = w3 at *
      clear hW3
      first
        | rw [show (258 : Int) = (M : Int) by omega]
        | rw [show (q : Int) = (M : Int) by omega]
    all_goals
      try rw [h3i]
      go_loopw [7, 21] (fun fr i wr => ∃ k f bl bd : Nat, k ≤ t ∧ f ≤ p ∧ bl ≤ M ∧ fr = .int .i64 (f : Nat) ∧ i = .int .i64 (k : Nat) ∧ Hid (LG = lgF (bt s) (befT (bt s) s.size) p M (t - k) ⟨f, bl, bd⟩) ∧ Hid (LSt w wr s (.slice A nA cA) t bl bd)) (fun _ i _ => t - (intOf i).toNat)
      case atStart => exact ⟨0, p, 0, 0, Nat.zero_le _, Nat.le_refl _, Nat.zero_le _, rfl, rfl, HLN2, HX⟩
      case round =>
        obtain ⟨k, f, bl, bd, hk, hfp, hblM, rfl, rfl, HLG, HST⟩ := hrel
        obtain ⟨hh0, hh1, hh2, hhb, hhs⟩ := HST.out
        have c0 := (cell_of_row _ _ 0 _ _ _ hh0).trans (show _ = some (Value.string s) from rfl)
        have c1 := (cell_of_row _ _ 1 _ _ _ hh0).trans (show _ = some (Value.slice A nA cA) from rfl)
        have c2 := (cell_of_row _ _ 2 _ _ _ hh0).trans (show _ = some (Value.int .i64 (t : Nat)) from rfl)
        have t0 := (cell_of_row _ _ 0 _ _ _ hh2).trans (show _ = some (Value.int .u8 0) from rfl)
        have t1 := (cell_of_row _ _ 1 _ _ _ hh2).trans (show _ = some (Value.int .i64 (bl : Nat)) from rfl)
        have t2 := (cell_of_row _ _ 2 _ _ _ hh2).trans (show _ = some (Value.int .i64 (bd : Nat)) from rfl)
        have r0 := (cell_of_row _ _ 0 _ _ _ hh1).trans (show _ = some (Value.int .u8 0) from rfl)
        have r1 := (cell_of_row _ _ 1 _ _ _ hh1).trans (show _ = some (Value.int .i64 0) from rfl)
        have r2 := (cell_of_row _ _ 2 _ _ _ hh1).trans (show _ = some (Value.int .i64 0) from rfl)
        have hfz := fun j => frozen_of_row _ _ j _ _ hh1
        by_cases hkt : k < t
        · obtain ⟨g, rfl, rfl, hgl, hgr⟩ := HAA.out (by omega)
          have hfn : f < s.size := by have := HMP.out; omega
          have hrow := (hhb.block g hgl).trans hgr
          have cE := (cell_of_row _ _ f _ _ _ hrow).trans (rowF_get (befT (bt s) s.size) s.size f hfn)
          have HLG1 : Hid (LG = lgF (bt s) (befT (bt s) s.size) p M ((t - k - 1) + 1) ⟨f, bl, bd⟩) := by rw [show t - k - 1 + 1 = t - k by omega]; exact HLG.out
          have hbs := bef_lt (bt s) s.size f
          have hbsp : Hid (0 ≤ befT (bt s) s.size f → (befT (bt s) s.size f).toNat < f ∧ befT (bt s) s.size f = ((befT (bt s) s.size f).toNat : Nat)) := fun h => ⟨(bef_spec h).2.1, (bef_spec h).1⟩
          have HLU : Hid (LG = if befT (bt s) s.size f < 0 ∨ 32768 < (p : Int) - befT (bt s) s.size f ∨ bl = M then (bl, bd) else if bt s ((befT (bt s) s.size f).toNat + bl) ≠ bt s (p + bl) then lgF (bt s) (befT (bt s) s.size) p M (t - k - 1) ⟨(befT (bt s) s.size f).toNat, bl, bd⟩ else if bl < alF (eqA (bt s) (befT (bt s) s.size f).toNat p) M then lgF (bt s) (befT (bt s) s.size) p M (t - k - 1) ⟨(befT (bt s) s.size f).toNat, alF (eqA (bt s) (befT (bt s) s.size f).toNat p) M, p - (befT (bt s) s.size f).toNat⟩ else lgF (bt s) (befT (bt s) s.size) p M (t - k - 1) ⟨(befT (bt s) s.size f).toNat, bl, bd⟩) := HLG1.out
          generalize befT (bt s) s.size f = E at *
          clear hh0 hh1 hh2 hhb hrow
          by_cases hE : E < 0
          · have HFIN := Lib.hid (HLU.out.trans (if_pos (.inl hE)))
            have g1 : decide (E < 0) = true := decide_eq_true hE
            have hw : IntKind.i64.wrap E = E := by rw [IntKind.wrap_i64]; omega
            go_wp2
            obtain ⟨_, m1, _, mb, _⟩ := HST.out
            exact bodyPost_ret (results_cell_row rfl _ _ (w.heap.size + 1) 43 #[.int .u8 0, .int .i64 (bl : Nat), .int .i64 (bd : Nat)] (0, 0) _ rfl (three_set m1) Try.underlying43 rfl info_tokf) rfl ⟨by rw [HFIN.out], ((mb.setCell (Nat.le_succ _) _).setCell (Nat.le_succ _) _).setCell (Nat.le_succ _) _⟩
          · obtain ⟨hEl, hEe⟩ := hbsp.out (by omega)
            generalize E.toNat = h at *
            subst hEe
            have g1 : decide (((h : Nat) : Int) < 0) = false := decide_eq_false (by omega)
            have hdist : decide ((32768 : Int) < (p : Int) - (h : Int)) = false := decide_eq_false (by omega)
            by_cases hblm : bl = M
            · have HFIN := Lib.hid (HLU.out.trans (if_pos (.inr (.inr hblm))))
              subst hblm
              go_wp2
              obtain ⟨_, m1, _, mb, _⟩ := HST.out
              exact bodyPost_ret (results_cell_row rfl _ _ (w.heap.size + 1) 43 #[.int .u8 0, .int .i64 (bl : Nat), .int .i64 (bd : Nat)] (0, 0) _ rfl (three_set m1) Try.underlying43 rfl info_tokf) rfl ⟨by rw [HFIN.out], ((mb.setCell (Nat.le_succ _) _).setCell (Nat.le_succ _) _).setCell (Nat.le_succ _) _⟩
            · have HLU2 := Lib.hid (HLU.out.trans (if_neg (by omega)))
              have hbm : ((bl : Int) == (M : Int)) = false := by rw [beq_eq_false_iff_ne]; omega
              have hMP := HMP.out
              obtain ⟨q1, x1, f1⟩ : ∃ q : Nat, ((h : Int) + (bl : Int)) = (q : Int) ∧ q = h + bl := ⟨h + bl, by omega, rfl⟩
              obtain ⟨q2, x2, f2⟩ : ∃ q : Nat, ((p : Int) + (bl : Int)) = (q : Int) ∧ q = p + bl := ⟨p + bl, by omega, rfl⟩
              have l1 : q1 < s.size := by omega
              have l2 : q2 < s.size := by omega
              have w1' : IntKind.i64.wrap (q1 : Int) = (q1 : Int) := by rw [IntKind.wrap_i64]; omega
              have w2' : IntKind.i64.wrap (q2 : Int) = (q2 : Int) := by rw [IntKind.wrap_i64]; omega
              have HAL := Lib.hid (fun W => alike_any s (some ⟨g, 0, none⟩) s.size cA t h p M (by omega) (by omega) (by omega) W)
              have hall := alF_le (eqA (bt s) h p) M
              have n1 : ((s[q1].toNat : Int) == (s[q2].toNat : Int)) = decide (bt s q1 = bt s q2) := by
                rw [bt_get s q1 l1, bt_get s q2 l2, Bool.eq_iff_iff]
                simp only [beq_iff_eq, decide_eq_true_eq]
                exact Int.natCast_inj
              rw [← f1, ← f2] at HLU2
              clear f1 f2 hMP hbs
              generalize alF (eqA (bt s) h p) M = m at *
              by_cases hq : bt s q1 = bt s q2
              · rw [decide_eq_true hq] at n1
                have HLU3 := Lib.hid (HLU2.out.trans (if_neg (by simp [hq])))
                clear hq
                go_wp2_with fail
                go_quiet (fail)
                by_cases hbl : bl < m
                · have HLU4 := Lib.hid (HLU3.out.trans (if_pos hbl))
                  obtain ⟨dd, y1, y2⟩ : ∃ dd : Nat, ((p : Int) - (h : Int)) = (dd : Int) ∧ dd = p - h := ⟨p - h, by omega, rfl⟩
                  rw [← y2] at HLU4
                  have wdd : IntKind.i64.wrap (dd : Int) = (dd : Int) := by rw [IntKind.wrap_i64]; omega
                  clear y2 hdist
                  go_wp2_with (go_at_call 115; go_must (refine (HAL.out _).mono ?_; rintro e w5 ⟨rfl, hb5⟩; have HS5 := Lib.hid ((HST.out.later (below_drewN (Below.refl _ _) _)).later hb5); have z0 := (cell_of_row _ _ 0 _ _ _ HS5.out.2.2.1).trans (show _ = some (Value.int .u8 0) from rfl); have z1 := (cell_of_row _ _ 1 _ _ _ HS5.out.2.2.1).trans (show _ = some (Value.int .i64 (bl : Nat)) from rfl); have z2 := (cell_of_row _ _ 2 _ _ _ HS5.out.2.2.1).trans (show _ = some (Value.int .i64 (bd : Nat)) from rfl); have hfz5 := fun j => frozen_of_row _ _ j _ _ HS5.out.2.2.1; clear hb5))
                  go_roundw
                  case rel =>
                    refine ⟨k + 1, h, m, dd, by omega, by omega, hall, rfl, by go_num, by rw [show t - (k + 1) = t - k - 1 by omega]; exact HLU4, ?_⟩
                    obtain ⟨m0, m1, m2, mb, ms⟩ := HS5.out
                    refine ⟨?_, ?_, three_set m2, ((mb.setCell (by show w.heap.size ≤ w.heap.size + 1 + 1; omega) _).setCell (by show w.heap.size ≤ w.heap.size + 1 + 1; omega) _).setCell (by show w.heap.size ≤ w.heap.size + 1 + 1; omega) _, by simpa using ms⟩
                    · rw [Below.heap_setCell _ _ _ _ (by show w.heap.size ≠ w.heap.size + 1 + 1; omega), Below.heap_setCell _ _ _ _ (by show w.heap.size ≠ w.heap.size + 1 + 1; omega), Below.heap_setCell _ _ _ _ (by show w.heap.size ≠ w.heap.size + 1 + 1; omega)]; exact m0
                    · rw [Below.heap_setCell _ _ _ _ (by show w.heap.size + 1 ≠ w.heap.size + 1 + 1; omega), Below.heap_setCell _ _ _ _ (by show w.heap.size + 1 ≠ w.heap.size + 1 + 1; omega), Below.heap_setCell _ _ _ _ (by show w.heap.size + 1 ≠ w.heap.size + 1 + 1; omega)]; exact m1
                  case measure => simp [intOf]; omega
                · have HLU4 := Lib.hid (HLU3.out.trans (if_neg hbl))
                  go_wp2_with (go_at_call 115; go_must (refine (HAL.out _).mono ?_; rintro e w5 ⟨rfl, hb5⟩; have HS5 := Lib.hid ((HST.out.later (below_drewN (Below.refl _ _) _)).later hb5); have z1 := (cell_of_row _ _ 1 _ _ _ HS5.out.2.2.1).trans (show _ = some (Value.int .i64 (bl : Nat)) from rfl); clear hb5))
                  go_roundw
                  case rel => exact ⟨k + 1, h, bl, bd, by omega, by omega, hblM, rfl, by go_num, by rw [show t - (k + 1) = t - k - 1 by omega]; exact HLU4, HS5⟩
                  case measure => simp [intOf]; omega
              · rw [decide_eq_false hq] at n1
                have HLU3 := Lib.hid (HLU2.out.trans (if_pos hq))
                clear hq
                go_wp2_with fail
                go_quiet (fail)
                go_wp2_with fail
                go_roundw
                case rel => exact ⟨k + 1, h, bl, bd, by omega, by omega, hblM, rfl, by go_num, by rw [show t - (k + 1) = t - k - 1 by omega]; exact HLU3, HST.out.later (below_drewN (Below.refl _ _) _)⟩
                case measure => simp [intOf]; omega
        · obtain rfl : k = t := by omega
          have HFIN : Hid (LG = (bl, bd)) := by
            have h := HLG.out
            rw [Nat.sub_self] at h
            exact h
          go_wp2
          obtain ⟨_, m1, _, mb, _⟩ := HST.out
          exact bodyPost_ret (results_cell_row rfl _ _ (w.heap.size + 1) 43 #[.int .u8 0, .int .i64 (bl : Nat), .int .i64 (bd : Nat)] (0, 0) _ rfl (three_set m1) Try.underlying43 rfl info_tokf) rfl ⟨by rw [HFIN.out], ((mb.setCell (Nat.le_succ _) _).setCell (Nat.le_succ _) _).setCell (Nat.le_succ _) _⟩
end Go.Proofs.Ytfhbkidceombbaa

namespace Go.Proofs.Ytfhbkidceombbaa
set_option maxRecDepth 100000
open Go.Joins Go.RowKit Go.Deep

/-- What a search's row of places is. -/
def Bef (w : World) (s : ByteArray) (A : Option Addr) (nA t : Nat) : Prop := 0 < t → ∃ g, A = some ⟨g, 0, none⟩ ∧ nA = s.size ∧ g < w.heap.size ∧ w.heap[g]? = some (.cells (rowF (befT (bt s) s.size) s.size) 3 (0, 0))
theorem Bef.below {w w' : World} {s : ByteArray} {A : Option Addr} {nA t B : Nat} (h : Bef w s A nA t) (hB : w.heap.size ≤ B) (hb : Below B w w') : Bef w' s A nA t := fun ht => by
  obtain ⟨g, h1, h2, h3, h4⟩ := h ht
  exact ⟨g, h1, h2, Nat.lt_of_lt_of_le h3 hb.size, (hb.block g (by omega)).trans h4⟩
/-- What a token's making keeps: its search, and the place of the answer. -/
def TSt (w wr : World) (s : ByteArray) (v : Value) (t : Nat) : Prop :=
  wr.heap[w.heap.size]? = some (.cells #[.string s, v, .int .i64 (t : Nat)] 127 (0, 0)) ∧
  wr.heap[w.heap.size + 1]? = some (.cells #[.int .u8 0, .int .i64 0, .int .i64 0] 43 (0, 0)) ∧ Below w.heap.size w wr ∧ w.heap.size + 2 ≤ wr.heap.size
theorem TSt.later {w wr w2 : World} {s : ByteArray} {v : Value} {t : Nat} (h : TSt w wr s v t) (hb : Below wr.heap.size wr w2) : TSt w w2 s v t := by
  obtain ⟨h1, h2, h4, h5⟩ := h
  exact ⟨(hb.block _ (by omega)).trans h1, (hb.block _ (by omega)).trans h2, h4.trans (hb.mono h4.size), Nat.le_trans h5 hb.size⟩
theorem field_len (b l d : Int) (W : World) : (Instr.field 43 (.agg #[.int .u8 b, .int .i64 l, .int .i64 d]) 1).run Try.prog W = .ok (.int .i64 l) W := by kernel_rfl
set_option maxHeartbeats 8000000 in
theorem token_any (s : ByteArray) (A : Option Addr) (nA cA t p : Nat) (hs : s.size ≤ 10000) (hp : p < s.size) (ht : t ≤ 2000) (w : World) (hA : Bef w s A nA t) :
    Calls Try.prog 75 #[.agg #[.string s, .slice A nA cA, .int .i64 (t : Nat)], .int .i64 (p : Nat)] w fun e w' => e = .returned (valT (tokT (bt s) s.size (befT (bt s) s.size) t p)) ∧ Below w.heap.size w w' := by
  have hzt := zero_tok
  have hfld := field_len
  have HL1 := Lib.hid (fun W h => longest_any s A nA cA t p hs (by omega) ht W h)
  have HL2 := Lib.hid (fun W h => longest_any s A nA cA t (p + 1) hs (by omega) ht W h)
  have HTK : Hid (tokT (bt s) s.size (befT (bt s) s.size) t p = if (longT (bt s) s.size (befT (bt s) s.size) t p).1 = 0 ∨ (longT (bt s) s.size (befT (bt s) s.size) t p).1 < (longT (bt s) s.size (befT (bt s) s.size) t (p + 1)).1 then ⟨bt s p, 0, 0⟩ else ⟨0, ((longT (bt s) s.size (befT (bt s) s.size) t p).1 : Nat), ((longT (bt s) s.size (befT (bt s) s.size) t p).2 : Nat)⟩) := rfl
  have hok1 := long_ok (bt s) s.size t p
  have hok2 := long_ok (bt s) s.size t (p + 1)
  generalize longT (bt s) s.size (befT (bt s) s.size) t p = L1 at *
  generalize longT (bt s) s.size (befT (bt s) s.size) t (p + 1) = L2 at *
  obtain ⟨l1, d1⟩ := L1
  obtain ⟨l2, d2⟩ := L2
  have hl1 : l1 ≤ 258 := by rcases hok1 with ⟨h, _⟩ | ⟨_, h, _⟩ <;> simp only at h <;> omega
  have hl2 : l2 ≤ 258 := by rcases hok2 with ⟨h, _⟩ | ⟨_, h, _⟩ <;> simp only at h <;> omega
  clear hok1 hok2
  simp only at HTK HL1 HL2
  generalize tokT (bt s) s.size (befT (bt s) s.size) t p = TK at *
  have hx0 : TSt w ((w.alloc (.cells #[.string s, .slice A nA cA, .int .i64 (t : Nat)] 127)).alloc (.cells #[.int .u8 0, .int .i64 0, .int .i64 0] 43)) s (.slice A nA cA) t := by
    have b1 := heap_alloc_new w (.cells #[.string s, .slice A nA cA, .int .i64 (t : Nat)] 127)
    have s1 : (w.alloc (.cells #[.string s, .slice A nA cA, .int .i64 (t : Nat)] 127)).heap.size = w.heap.size + 1 := by simp
    have d1 : Below w.heap.size w (w.alloc (.cells #[.string s, .slice A nA cA, .int .i64 (t : Nat)] 127)) := (Below.refl _ _).alloc (Nat.le_refl _) _
    generalize w.alloc (.cells #[.string s, .slice A nA cA, .int .i64 (t : Nat)] 127) = w1 at *
    have b2 := heap_alloc_new w1 (.cells #[.int .u8 0, .int .i64 0, .int .i64 0] 43)
    have s2 : (w1.alloc (.cells #[.int .u8 0, .int .i64 0, .int .i64 0] 43)).heap.size = w1.heap.size + 1 := by simp
    have d2 : Below w1.heap.size w1 (w1.alloc (.cells #[.int .u8 0, .int .i64 0, .int .i64 0] 43)) := (Below.refl _ _).alloc (Nat.le_refl _) _
    generalize w1.alloc (.cells #[.int .u8 0, .int .i64 0, .int .i64 0] 43) = w2 at *
    rw [s1] at b2
    exact ⟨(d2.block _ (by omega)).trans b1, b2, d1.trans (d2.mono (by omega)), by omega⟩
  have HX := Lib.hid hx0
  have HAA := Lib.hid hA
  clear hx0 hA
  go_enter Try.func75, Try.ntmps75
  go_wp2_with fail
  generalize hW2 : (w.alloc (.cells #[.string s, .slice A nA cA, .int .i64 (t : Nat)] 127)).alloc (.cells #[.int .u8 0, .int .i64 0, .int .i64 0] 43) = w2 at *
  clear hW2
  refine (HL1.out _ (HAA.out.below (Nat.le_refl _) HX.out.2.2.1)).mono ?_
  rintro e w3 ⟨rfl, hb3⟩
  have hX3 := HX.out.later hb3
  have hb4 := heap_alloc_new w3 (.cells #[.int .u8 0, .int .i64 (l1 : Nat), .int .i64 (d1 : Nat)] 43)
  have hX4 := hX3.later ((Below.refl w3.heap.size w3).alloc (Nat.le_refl _) (.cells #[.int .u8 0, .int .i64 (l1 : Nat), .int .i64 (d1 : Nat)] 43))
  have HX4 := Lib.hid hX4
  have HB4 := Lib.hid hb4
  have HS4 : Hid ((w3.alloc (.cells #[.int .u8 0, .int .i64 (l1 : Nat), .int .i64 (d1 : Nat)] 43)).heap.size = w3.heap.size + 1) := by show _ = _; simp
  clear hb3 hX3 hb4 hX4
  go_wp2_with fail
  generalize w3.alloc (.cells #[.int .u8 0, .int .i64 (l1 : Nat), .int .i64 (d1 : Nat)] 43) = w4 at *
  have c0 := (cell_of_row _ _ 0 _ _ _ HX4.out.1).trans (show _ = some (Value.string s) from rfl)
  have c1 := (cell_of_row _ _ 1 _ _ _ HX4.out.1).trans (show _ = some (Value.slice A nA cA) from rfl)
  have c2 := (cell_of_row _ _ 2 _ _ _ HX4.out.1).trans (show _ = some (Value.int .i64 (t : Nat)) from rfl)
  have k1 := (cell_of_row _ _ 1 _ _ _ HB4.out).trans (show _ = some (Value.int .i64 (l1 : Nat)) from rfl)
  have hbt := bt_get s p hp
  have hbl := bt_lt s p
  have HBT := Lib.hid hbt
  by_cases h0 : l1 = 0
  · have HFIN := Lib.hid (HTK.out.trans (if_pos (.inl h0)))
    have hz : ((l1 : Int) == 0) = true := by rw [beq_iff_eq]; omega
    go_quiet (fail)
    have HX5 := Lib.hid (HX4.out.later (below_drewN (Below.refl _ _) nq))
    generalize w4.drewN nq = w5 at *
    have x0 := (cell_of_row _ _ 0 _ _ _ HX5.out.1).trans (show _ = some (Value.string s) from rfl)
    have r0 := (cell_of_row _ _ 0 _ _ _ HX5.out.2.1).trans (show _ = some (Value.int .u8 0) from rfl)
    have r1 := (cell_of_row _ _ 1 _ _ _ HX5.out.2.1).trans (show _ = some (Value.int .i64 0) from rfl)
    have r2 := (cell_of_row _ _ 2 _ _ _ HX5.out.2.1).trans (show _ = some (Value.int .i64 0) from rfl)
    have hfz := fun j => frozen_of_row _ _ j _ _ HX5.out.2.1
    go_wp2
    obtain ⟨_, m1, mb, _⟩ := HX5.out
    exact bodyPost_ret (results_cell_row rfl _ _ (w.heap.size + 1) 43 #[.int .u8 ((bt s p : Nat) : Int), .int .i64 0, .int .i64 0] (0, 0) _ rfl (three_set m1) Try.underlying43 rfl info_tokf) rfl ⟨by rw [HFIN.out]; rfl, ((mb.setCell (Nat.le_succ _) _).setCell (Nat.le_succ _) _).setCell (Nat.le_succ _) _⟩
  · have hz : ((l1 : Int) == 0) = false := by rw [beq_eq_false_iff_ne]; omega
    have HC2 := Lib.hid (HL2.out w4.drew (HAA.out.below (Nat.le_refl _) (HX4.out.2.2.1.drew)))
    obtain ⟨q1, e1, f1⟩ : ∃ q : Nat, ((p : Int) + 1) = (q : Int) ∧ q = p + 1 := ⟨p + 1, by omega, rfl⟩
    rw [← f1] at HC2
    clear f1
    have w1' : IntKind.i64.wrap (q1 : Int) = (q1 : Int) := by rw [IntKind.wrap_i64]; omega
    by_cases hlt : l1 < l2
    · have HFIN := Lib.hid (HTK.out.trans (if_pos (.inr hlt)))
      have g1 : decide ((l1 : Int) < (l2 : Int)) = true := decide_eq_true (by omega)
      have g2 : decide (l1 < l2) = true := decide_eq_true hlt
      go_region_law (first | (go_simp; go_at_call 97; go_must (refine (HC2.out).mono ?_; rintro e5 w5 ⟨rfl, hb5⟩; have HX5 := Lib.hid (HX4.out.later (w2 := w5) ⟨hb5.os, hb5.tape, hb5.output, hb5.size, hb5.block⟩); have HB5 := Lib.hid ((hb5.block w3.heap.size (by have := HS4.out; show w3.heap.size < w4.heap.size; omega)).trans HB4.out); have k5 : w5.cell? ⟨w3.heap.size, 1, none⟩ = some (.int .i64 (l1 : Nat)) := ((cell_of_row _ _ 1 _ _ _ HB5.out).trans rfl); have k50 : w5.cell? ⟨w3.heap.size, 0, none⟩ = some (.int .u8 0) := ((cell_of_row _ _ 0 _ _ _ HB5.out).trans rfl); have k52 : w5.cell? ⟨w3.heap.size, 2, none⟩ = some (.int .i64 (d1 : Nat)) := ((cell_of_row _ _ 2 _ _ _ HB5.out).trans rfl); have x0 : w5.cell? ⟨w.heap.size, 0, none⟩ = some (.string s) := ((cell_of_row _ _ 0 _ _ _ HX5.out.1).trans rfl); have r0 : w5.cell? ⟨w.heap.size + 1, 0, none⟩ = some (.int .u8 0) := ((cell_of_row _ _ 0 _ _ _ HX5.out.2.1).trans rfl); have r1 : w5.cell? ⟨w.heap.size + 1, 1, none⟩ = some (.int .i64 0) := ((cell_of_row _ _ 1 _ _ _ HX5.out.2.1).trans rfl); have r2 : w5.cell? ⟨w.heap.size + 1, 2, none⟩ = some (.int .i64 0) := ((cell_of_row _ _ 2 _ _ _ HX5.out.2.1).trans rfl); have hfz := fun j => frozen_of_row _ _ j _ _ HX5.out.2.1)))
      all_goals
        simp only [Act.put, List.setIfInBounds_toArray, List.getElem_toArray, List.getElem_cons_succ, List.getElem_cons_zero, List.set_cons_zero, List.set_cons_succ]
        go_wp2
        obtain ⟨_, m1, mb, _⟩ := HX5.out
        exact bodyPost_ret (results_cell_row rfl _ _ (w.heap.size + 1) 43 #[.int .u8 ((bt s p : Nat) : Int), .int .i64 0, .int .i64 0] (0, 0) _ rfl (three_set m1) Try.underlying43 rfl info_tokf) rfl ⟨by rw [HFIN.out]; rfl, ((mb.setCell (Nat.le_succ _) _).setCell (Nat.le_succ _) _).setCell (Nat.le_succ _) _⟩
    · have HFIN := Lib.hid (HTK.out.trans (if_neg (by omega)))
      have g1 : decide ((l1 : Int) < (l2 : Int)) = false := decide_eq_false (by omega)
      have g2 : decide (l1 < l2) = false := decide_eq_false hlt
      go_region_law (first | (go_simp; go_at_call 97; go_must (refine (HC2.out).mono ?_; rintro e5 w5 ⟨rfl, hb5⟩; have HX5 := Lib.hid (HX4.out.later (w2 := w5) ⟨hb5.os, hb5.tape, hb5.output, hb5.size, hb5.block⟩); have HB5 := Lib.hid ((hb5.block w3.heap.size (by have := HS4.out; show w3.heap.size < w4.heap.size; omega)).trans HB4.out); have k5 : w5.cell? ⟨w3.heap.size, 1, none⟩ = some (.int .i64 (l1 : Nat)) := ((cell_of_row _ _ 1 _ _ _ HB5.out).trans rfl); have k50 : w5.cell? ⟨w3.heap.size, 0, none⟩ = some (.int .u8 0) := ((cell_of_row _ _ 0 _ _ _ HB5.out).trans rfl); have k52 : w5.cell? ⟨w3.heap.size, 2, none⟩ = some (.int .i64 (d1 : Nat)) := ((cell_of_row _ _ 2 _ _ _ HB5.out).trans rfl); have x0 : w5.cell? ⟨w.heap.size, 0, none⟩ = some (.string s) := ((cell_of_row _ _ 0 _ _ _ HX5.out.1).trans rfl); have r0 : w5.cell? ⟨w.heap.size + 1, 0, none⟩ = some (.int .u8 0) := ((cell_of_row _ _ 0 _ _ _ HX5.out.2.1).trans rfl); have r1 : w5.cell? ⟨w.heap.size + 1, 1, none⟩ = some (.int .i64 0) := ((cell_of_row _ _ 1 _ _ _ HX5.out.2.1).trans rfl); have r2 : w5.cell? ⟨w.heap.size + 1, 2, none⟩ = some (.int .i64 0) := ((cell_of_row _ _ 2 _ _ _ HX5.out.2.1).trans rfl); have hfz := fun j => frozen_of_row _ _ j _ _ HX5.out.2.1)))
      all_goals
        simp only [Act.put, List.setIfInBounds_toArray, List.getElem_toArray, List.getElem_cons_succ, List.getElem_cons_zero, List.set_cons_zero, List.set_cons_succ]
        go_wp2
        obtain ⟨_, m1, mb, _⟩ := HX5.out
        exact bodyPost_ret (results_cell_row rfl _ _ (w.heap.size + 1) 43 #[.int .u8 0, .int .i64 (l1 : Nat), .int .i64 (d1 : Nat)] (0, 0) _ rfl (three_set m1) Try.underlying43 rfl info_tokf) rfl ⟨by rw [HFIN.out]; rfl, ((mb.setCell (Nat.le_succ _) _).setCell (Nat.le_succ _) _).setCell (Nat.le_succ _) _⟩
end Go.Proofs.Ytfhbkidceombbaa

namespace Go.Proofs.Ytfhbkidceombbaa
set_option maxRecDepth 100000
open Go.Joins Go.RowKit Go.Deep

/-- How many places a level looks at. -/
def triesOf (level : Nat) : Nat := if level = 0 then 0 else 2 * 2 ^ level
theorem tries_le (level : Nat) (h : level ≤ 9) : triesOf level ≤ 2000 := by
  unfold triesOf
  split
  · omega
  · have : 2 ^ level ≤ 2 ^ 9 := Nat.pow_le_pow_right (by omega) h
    omega
theorem info_search : (Try.prog.info? 127).map (·.size) = some 3 := by kernel_rfl
theorem zero_search (w : World) : (zeroValue 127).run Try.prog w = .ok (.agg #[.string ⟨#[]⟩, .slice none 0 0, .int .i64 0]) w := by kernel_rfl
set_option maxHeartbeats 8000000 in
theorem begin_any (s : ByteArray) (level : Nat) (hs : s.size ≤ 10000) (hl : level ≤ 9) (w : World) :
    Calls Try.prog 74 #[.string s, .int .i64 (level : Nat)] w fun e w' => ∃ A nA cA, e = .returned (.agg #[.string s, .slice A nA cA, .int .i64 (triesOf level : Nat)]) ∧ Bef w' s A nA (triesOf level) ∧ Below w.heap.size w w' := by
  have hzs := zero_search
  have hb0 : Below w.heap.size w (w.alloc (.cells #[.string ⟨#[]⟩, .slice none 0 0, .int .i64 0] 127)) := (Below.refl _ _).alloc (Nat.le_refl _) _
  have hx0 := heap_alloc_new w (.cells #[.string ⟨#[]⟩, .slice none 0 0, .int .i64 0] 127)
  have hs0 : (w.alloc (.cells #[.string ⟨#[]⟩, .slice none 0 0, .int .i64 0] 127)).heap.size = w.heap.size + 1 := by simp
  have HB := Lib.hid hb0
  have HX := Lib.hid hx0
  have HS := Lib.hid hs0
  have HEA := Lib.hid (fun W => earlier_any s hs W)
  have h2 : (2 : Nat) ^ level ≤ 512 := Nat.pow_le_pow_right (n := 2) (by omega) hl
  clear hb0 hx0 hs0
  go_enter Try.func74, Try.ntmps74
  by_cases h0 : level = 0
  · subst h0
    have hx1 := heap_alloc_new w (.cells #[.string s, .slice none 0 0, .int .i64 0] 127)
    have hb1 : Below w.heap.size w (w.alloc (.cells #[.string s, .slice none 0 0, .int .i64 0] 127)) := (Below.refl _ _).alloc (Nat.le_refl _) _
    go_wp2_with fail
    exact bodyPost_ret (results_cell_row rfl _ _ w.heap.size 127 #[.string s, .slice none 0 0, .int .i64 0] (0, 0) _ rfl hx1 Try.underlying127 rfl info_search) rfl ⟨none, 0, 0, rfl, fun h => absurd h (by decide), hb1⟩
  · have hz : ((level : Int) == 0) = false := by rw [beq_eq_false_iff_ne]; omega
    go_wp2_with fail
    generalize w.alloc (.cells #[.string ⟨#[]⟩, .slice none 0 0, .int .i64 0] 127) = w1 at *
    have HE1 := Lib.hid (HEA.out w1.drew)
    go_region_law (first | (go_simp; go_at_call 96; go_must (refine (HE1.out).mono ?_; rintro e5 w5 ⟨g, rfl, hg5, hr5, hb5⟩; have HX5 := Lib.hid ((hb5.block w.heap.size (by have := HS.out; show w.heap.size < w1.heap.size; omega)).trans (by exact HX.out)); have r0 : w5.cell? ⟨w.heap.size, 0, none⟩ = some (.string ⟨#[]⟩) := ((cell_of_row _ _ 0 _ _ _ HX5.out).trans rfl); have r1 : w5.cell? ⟨w.heap.size, 1, none⟩ = some (.slice none 0 0) := ((cell_of_row _ _ 1 _ _ _ HX5.out).trans rfl); have r2 : w5.cell? ⟨w.heap.size, 2, none⟩ = some (.int .i64 0) := ((cell_of_row _ _ 2 _ _ _ HX5.out).trans rfl); have hfz := fun j => frozen_of_row _ _ j _ _ HX5.out)))
    all_goals
      have hsh : IntKind.i64.wrap (2 * 2 ^ level) = ((triesOf level : Nat) : Int) := by
        have e1 : ((2 : Int) * 2 ^ level) = ((2 * 2 ^ level : Nat) : Int) := by rw [Int.natCast_mul, Int.natCast_pow]; rfl
        rw [e1, IntKind.wrap_i64]
        unfold triesOf
        rw [if_neg h0]
        omega
      rw [hsh]
      have HR5 := Lib.hid hr5
      have HG5 : Hid (w.heap.size < g ∧ g < w5.heap.size) := by
        have h1 := HS.out; have h2 := (Array.getElem?_eq_some_iff.1 hr5).1
        exact ⟨by have h3 : w1.heap.size ≤ g := hg5; omega, h2⟩
      have HB5 : Hid (Below w.heap.size w w5) := HB.out.trans (Below.mono (w := w1) ⟨hb5.os, hb5.tape, hb5.output, hb5.size, hb5.block⟩ (by show w.heap.size ≤ w1.heap.size; have := HS.out; omega))
      clear hb5 hr5 hg5 r0 r1 r2 hfz
      go_wp2
      refine bodyPost_ret (results_cell_row rfl _ _ w.heap.size 127 #[.string s, .slice (some ⟨g, 0, none⟩) s.size s.size, .int .i64 (triesOf level : Nat)] (0, 0) _ rfl (three_set HX5.out) Try.underlying127 rfl info_search) rfl ⟨some ⟨g, 0, none⟩, s.size, s.size, rfl, fun _ => ⟨g, rfl, rfl, by have := HG5.out; simpa [World.setCell] using this.2, ?_⟩, ((HB5.out.setCell (Nat.le_refl _) _).setCell (Nat.le_refl _) _).setCell (Nat.le_refl _) _⟩
      have hne := HG5.out.1
      rw [Below.heap_setCell _ _ _ _ (by show g ≠ w.heap.size; omega), Below.heap_setCell _ _ _ _ (by show g ≠ w.heap.size; omega), Below.heap_setCell _ _ _ _ (by show g ≠ w.heap.size; omega)]
      exact HR5.out

/-- The cells of the first tokens. -/
def tokCells (f : Nat → Tok) : Nat → List Value
  | 0 => []
  | k + 1 => tokCells f k ++ cellT (f k)
theorem tokCells_len (f : Nat → Tok) (n : Nat) : (tokCells f n).length = n * 3 := by
  induction n with
  | zero => rfl
  | succ n ih => rw [tokCells, List.length_append, ih]; simp [cellT]; omega
theorem tokCells_get (f : Nat → Tok) (n i j : Nat) (hi : i < n) (hj : j < 3) : (tokCells f n)[i * 3 + j]? = (cellT (f i))[j]? := by
  induction n with
  | zero => omega
  | succ n ih =>
    rw [tokCells]
    by_cases e : i = n
    · subst e
      rw [List.getElem?_append_right (by rw [tokCells_len]; omega), tokCells_len, show i * 3 + j - i * 3 = j by omega]
    · rw [List.getElem?_append_left (by rw [tokCells_len]; omega)]
      exact ih (by omega)
theorem toks_of_own {w : World} {B n c : Nat} {e : TypeId} {A : Option Addr} {f : Nat → Tok} (h : w.ownsRow B e 3 (.slice A n c) n (tokCells f n)) (hok : ∀ i, i < n → TokOk (f i)) : Toks w A n f := fun hn => by
  have hlt := h.lt
  rcases h.2 with ⟨_, h0⟩ | ⟨g, cap, cur, hv, _, hg, _, _, _, htake⟩
  · omega
  · injection hv with hA _ _
    subst hA
    have hc : ∀ i j, i < n → j < 3 → w.cell? ⟨g, i * 3 + j, none⟩ = (cellT (f i))[j]? := fun i j hi hj => by
      rw [cell_of_row w g _ _ _ _ hg, ← tokCells_get f n i j hi hj, ← htake, List.getElem?_take, if_pos (by omega)]
      simp
    refine ⟨g, 0, rfl, (hlt g rfl).2, fun i hi => ⟨hok i hi, ?_, ?_, ?_⟩⟩
    · have := hc i 0 hi (by omega); simpa [cellT] using this
    · have := hc i 1 hi (by omega); simpa [cellT] using this
    · have := hc i 2 hi (by omega); simpa [cellT] using this
theorem info_tok3 : (Try.prog.info? 43).map (fun i => (i.zero, i.size, i.bytes)) = some (some (.agg #[.int .u8 0, .int .i64 0, .int .i64 0]), 3, 24) := by kernel_rfl
theorem cells3 {w : World} {g : Nat} {x y z : Value} {T : TypeId} (h : w.heap[g]? = some (.cells #[x, y, z] T (0, 0))) : ∀ j u, [x, y, z][j]? = some u → w.cell? ((⟨g, 0, none⟩ : Addr).add j) = some u := by
  intro j u hj
  rw [Addr.add_lit, Nat.zero_add, cell_of_row w g j _ _ _ h]
  simpa using hj
theorem cellT_one (t : Tok) : ∀ u ∈ cellT t, u.oneCell' = true := by
  intro u hu
  simp [cellT] at hu
  rcases hu with rfl | rfl | rfl <;> rfl
theorem row_slice' {w : World} {B n z : Nat} {e : TypeId} {v : Value} {l : List Value} (h : w.ownsRow B e z v n l) : ∃ A c, v = .slice A n c := by
  rcases h.2 with ⟨rfl, rfl⟩ | ⟨g, cap, cur, rfl, _⟩
  · exact ⟨_, _, rfl⟩
  · exact ⟨_, _, rfl⟩
end Go.Proofs.Ytfhbkidceombbaa

namespace Go.Proofs.Ytfhbkidceombbaa
set_option maxRecDepth 100000
open Go.Joins Go.RowKit Go.Deep

/-- What Find answers: the tokens, one behind the other, up to the text's end. -/
def Found (s : ByteArray) (t k : Nat) : Prop := posT (bt s) s.size (befT (bt s) s.size) t k = s.size ∧ ∀ j, j < k → posT (bt s) s.size (befT (bt s) s.size) t j < s.size
theorem tk_ok (s : ByteArray) (t k : Nat) (hs : s.size ≤ 10000) (hp : posT (bt s) s.size (befT (bt s) s.size) t k < s.size) : TokOk (tkT (bt s) s.size (befT (bt s) s.size) t k) ∧ 1 ≤ widT (tkT (bt s) s.size (befT (bt s) s.size) t k) ∧ posT (bt s) s.size (befT (bt s) s.size) t k + widT (tkT (bt s) s.size (befT (bt s) s.size) t k) ≤ s.size := by
  obtain ⟨h1, h2, h3, h4, h5⟩ := tok_ok (bt s) s.size t _ hp (by omega)
  have hw : 1 ≤ widT (tkT (bt s) s.size (befT (bt s) s.size) t k) := by unfold widT; omega
  obtain ⟨g1, g2, _⟩ := fits_zero h1
  refine ⟨?_, hw, ?_⟩
  · have hr := right_pos g1
    by_cases h0 : (tkT (bt s) s.size (befT (bt s) s.size) t k).l = 0
    · have hd := right_byte g1 h0
      have hb := h5 h0
      refine ⟨?_, by omega, by omega, ?_, ?_⟩
      · show (tokT _ _ _ _ _).b < 256; rw [hb]; exact bt_lt s _
      · show _ ≤ (tokT _ _ _ _ _).d; rw [hd]; omega
      · show (tokT _ _ _ _ _).d ≤ _; rw [hd]; omega
    · have hd := right_copy g1 h0
      have hr1 : 0 ≤ (tkT (bt s) s.size (befT (bt s) s.size) t k).l := hr.1
      have hr2 : (tkT (bt s) s.size (befT (bt s) s.size) t k).l ≤ 258 := hr.2
      refine ⟨?_, by omega, by omega, ?_, ?_⟩
      · show (tokT _ _ _ _ _).b < 256; rw [hd.1]; omega
      · show _ ≤ (tokT _ _ _ _ _).d; omega
      · show (tokT _ _ _ _ _).d ≤ _; omega
  · have : ((widT (tkT (bt s) s.size (befT (bt s) s.size) t k)).toNat : Int) = widT (tkT (bt s) s.size (befT (bt s) s.size) t k) := Int.toNat_of_nonneg (by omega)
    have h4' : posT (bt s) s.size (befT (bt s) s.size) t k + (widT (tkT (bt s) s.size (befT (bt s) s.size) t k)).toNat ≤ s.size := h4
    omega
set_option maxHeartbeats 4000000 in
theorem find_arg (s : ByteArray) (level : Int) (hl : level < 0 ∨ 9 < level) (w : World) : Calls Try.prog 42 #[.string s, .int .i64 level] w fun e w' => e = .returned (.tuple #[.slice none 0 0, .int .i64 2]) ∧ w' = w := by
  rcases hl with h | h
  · have g1 : decide (level < 0) = true := decide_eq_true h
    go_enter Try.func42, Try.ntmps42
    go_wp2
    go_ret2
    exact ⟨rfl, rfl⟩
  · have g1 : decide (level < 0) = false := decide_eq_false (by omega)
    have g2 : decide (9 < level) = true := decide_eq_true h
    go_enter Try.func42, Try.ntmps42
    go_wp2
    go_ret2
    exact ⟨rfl, rfl⟩
set_option maxHeartbeats 4000000 in
theorem find_long (s : ByteArray) (hs : 1048576 < s.size) (w : World) : Calls Try.prog 42 #[.string s, .int .i64 1] w fun e w' => e = .returned (.tuple #[.slice none 0 0, .int .i64 5]) ∧ w' = w := by
  go_enter Try.func42, Try.ntmps42
  go_wp2
  go_ret2
  exact ⟨rfl, rfl⟩
set_option maxHeartbeats 8000000 in
theorem find_any (s : ByteArray) (level : Nat) (hs : s.size ≤ 10000) (hl : level ≤ 9) (w : World) : Calls Try.prog 42 #[.string s, .int .i64 (level : Nat)] w fun e w' =>
    ∃ k A c, e = .returned (.tuple #[.slice A k c, .int .i64 0]) ∧ Found s (triesOf level) k ∧ Toks w' A k (tkT (bt s) s.size (befT (bt s) s.size) (triesOf level)) ∧ Below w.heap.size w w' := by
  obtain ⟨i0, hi, hz0, hz1, hz2⟩ := info_parts info_tok3
  have hzs := zero_search
  have hzt := zero_tok
  have ht := tries_le level hl
  have HBG := Lib.hid (fun W => begin_any s level hs hl W)
  generalize triesOf level = t at *
  have g1 : decide ((level : Int) < 0) = false := decide_eq_false (by omega)
  have g2 : decide ((9 : Int) < (level : Int)) = false := decide_eq_false (by omega)
  have g3 : decide (9 < level) = false := decide_eq_false (by omega)
  go_enter Try.func42, Try.ntmps42
  go_wp2_with fail
  refine (HBG.out _).mono ?_
  rintro e w1 ⟨A, nA, cA, rfl, hbef, hb1⟩
  have hx2 := heap_alloc_new w1 (.cells #[.string s, .slice A nA cA, .int .i64 (t : Nat)] 127)
  have hbef2 : Bef (w1.alloc (.cells #[.string s, .slice A nA cA, .int .i64 (t : Nat)] 127)) s A nA t := hbef.below (Nat.le_refl _) ((Below.refl _ _).alloc (Nat.le_refl _) _)
  have hb2 : Below w.heap.size w (w1.alloc (.cells #[.string s, .slice A nA cA, .int .i64 (t : Nat)] 127)) := hb1.alloc hb1.size _
  have hs2 : (w1.alloc (.cells #[.string s, .slice A nA cA, .int .i64 (t : Nat)] 127)).heap.size = w1.heap.size + 1 := by simp
  have HX2 := Lib.hid hx2
  have HBF := Lib.hid hbef2
  have HB2 := Lib.hid hb2
  have HS2 := Lib.hid hs2
  clear hx2 hbef hbef2 hb1 hb2 hs2 HBG
  go_wp2_with fail
  generalize w1.alloc (.cells #[.string s, .slice A nA cA, .int .i64 (t : Nat)] 127) = w2 at *
  go_loopw [6, 8] (fun v i wr => ∃ k : Nat, i = .int .i64 ((posT (bt s) s.size (befT (bt s) s.size) t k : Nat) : Int) ∧ k ≤ posT (bt s) s.size (befT (bt s) s.size) t k ∧ posT (bt s) s.size (befT (bt s) s.size) t k ≤ s.size ∧ Hid (∀ j, j < k → posT (bt s) s.size (befT (bt s) s.size) t j < s.size) ∧ Hid (wr.ownsRow w2.heap.size 43 3 v k (tokCells (tkT (bt s) s.size (befT (bt s) s.size) t) k)) ∧ Hid (Below w2.heap.size w2 wr)) (fun _ i _ => s.size - (intOf i).toNat)
  case atStart => exact ⟨0, rfl, Nat.le_refl _, Nat.zero_le _, fun j h => by omega, World.ownsRow_nil _ _ _ _, Below.refl _ _⟩
  case round =>
    obtain ⟨k, rfl, hkp, hpn, HJ, HO, HB⟩ := hrel
    have HPS : Hid (posT (bt s) s.size (befT (bt s) s.size) t (k + 1) = posT (bt s) s.size (befT (bt s) s.size) t k + (widT (tkT (bt s) s.size (befT (bt s) s.size) t k)).toNat) := rfl
    have HTS : Hid (tokCells (tkT (bt s) s.size (befT (bt s) s.size) t) (k + 1) = tokCells (tkT (bt s) s.size (befT (bt s) s.size) t) k ++ cellT (tkT (bt s) s.size (befT (bt s) s.size) t k)) := rfl
    obtain ⟨A2, cp2, rfl⟩ := row_slice' HO.out
    by_cases hpl : posT (bt s) s.size (befT (bt s) s.size) t k < s.size
    · have hBwr := HBF.out.below (Nat.le_refl _) HB.out
      have HTA : Hid (Calls Try.prog 75 #[.agg #[.string s, .slice A nA cA, .int .i64 (t : Nat)], .int .i64 ((posT (bt s) s.size (befT (bt s) s.size) t k : Nat) : Int)] wr fun e w' => e = .returned (valT (tkT (bt s) s.size (befT (bt s) s.size) t k)) ∧ Below wr.heap.size wr w') := token_any s A nA cA t _ hs hpl ht wr hBwr
      obtain ⟨htok, hw1, hw2⟩ := tk_ok s t k hs hpl
      have hm : Hid (w1.heap.size < w2.heap.size) := by show w1.heap.size < _; have := HS2.out; omega
      have hX := (HB.out.block w1.heap.size hm.out).trans HX2.out
      have c0 := (cell_of_row _ _ 0 _ _ _ hX).trans (show _ = some (Value.string s) from rfl)
      have c1 := (cell_of_row _ _ 1 _ _ _ hX).trans (show _ = some (Value.slice A nA cA) from rfl)
      have c2 := (cell_of_row _ _ 2 _ _ _ hX).trans (show _ = some (Value.int .i64 (t : Nat)) from rfl)
      have HWD := Lib.hid (fun W => wide_any (tkT (bt s) s.size (befT (bt s) s.size) t k) W)
      generalize hP : posT (bt s) s.size (befT (bt s) s.size) t k = P at *
      generalize tkT (bt s) s.size (befT (bt s) s.size) t k = T at *
      have HP := Lib.hid hP
      have hpb : P < 10000 := by omega
      clear hP hX hBwr
      obtain ⟨tb, tl, td⟩ := T
      unfold valT at HTA HWD
      dsimp only at HTA HWD
      generalize hWW : widT ⟨tb, tl, td⟩ = W at *
      clear hWW
      have hW2 : W ≤ 10000 := by omega
      have hsum : (P : Int) + W ≤ 10000 := by omega
      have hsum0 : 0 ≤ (P : Int) + W := by omega
      have hwrap : IntKind.i64.wrap ((P : Int) + W) = (P : Int) + W := by rw [IntKind.wrap_i64]; omega
      go_wp2_with fail
      refine (HTA.out).mono ?_
      rintro e w3 ⟨rfl, hb3⟩
      have hx4 := heap_alloc_new w3 (.cells #[.int .u8 (tb : Nat), .int .i64 tl, .int .i64 td] 43)
      have hs4 : (w3.alloc (.cells #[.int .u8 (tb : Nat), .int .i64 tl, .int .i64 td] 43)).heap.size = w3.heap.size + 1 := by simp
      have hb4 : Below wr.heap.size wr (w3.alloc (.cells #[.int .u8 (tb : Nat), .int .i64 tl, .int .i64 td] 43)) := hb3.alloc hb3.size _
      have HX4 := Lib.hid hx4
      have HS4 := Lib.hid hs4
      have HB4 := Lib.hid hb4
      have HS3 : Hid (wr.heap.size ≤ w3.heap.size) := hb3.size
      clear hx4 hs4 hb4 hb3 HTA
      have hx5 := heap_alloc_new (w3.alloc (.cells #[.int .u8 (tb : Nat), .int .i64 tl, .int .i64 td] 43)) (.cells #[.int .u8 (tb : Nat), .int .i64 tl, .int .i64 td] 43)
      have hx45 := (Below.heap_alloc (w3.alloc (.cells #[.int .u8 (tb : Nat), .int .i64 tl, .int .i64 td] 43)) (.cells #[.int .u8 (tb : Nat), .int .i64 tl, .int .i64 td] 43) w3.heap.size (by rw [HS4.out]; omega)).trans HX4.out
      have hs5 : ((w3.alloc (.cells #[.int .u8 (tb : Nat), .int .i64 tl, .int .i64 td] 43)).alloc (.cells #[.int .u8 (tb : Nat), .int .i64 tl, .int .i64 td] 43)).heap.size = w3.heap.size + 2 := by simp
      have hb5 : Below wr.heap.size wr ((w3.alloc (.cells #[.int .u8 (tb : Nat), .int .i64 tl, .int .i64 td] 43)).alloc (.cells #[.int .u8 (tb : Nat), .int .i64 tl, .int .i64 td] 43)) := HB4.out.alloc HB4.out.size _
      rw [HS4.out] at hx5
      have ho5 := row_kept' HO.out (fun g hg => hb5.block g (HO.out.lt g hg).2)
      have HX5 := Lib.hid hx5
      have HX45 := Lib.hid hx45
      have HS5 := Lib.hid hs5
      have HB5 := Lib.hid hb5
      have HO5 := Lib.hid ho5
      clear hx5 hx45 hs5 hb5 ho5
      have hne : Hid (∀ gg, (Value.slice A2 k cp2).ownBlock = some gg → gg < wr.heap.size ∧ w2.heap.size ≤ gg) := fun gg hg => ⟨(HO.out.lt gg hg).2, (HO.out.lt gg hg).1⟩
      go_wp2_with first
        | (at_builtin; go_must (refine wpList_append_own_at _ rfl (.tmp 29) (.tmp 31) _ rfl w2.heap.size 43 i0 (.agg #[.int .u8 0, .int .i64 0, .int .i64 0]) 3 24 Try.underlying22 hi hz0 hz1 hz2 rfl (by decide) (.slice A2 k cp2) k _ rfl HO5.out ⟨w3.heap.size + 1, 0, none⟩ 1 1 [.int .u8 (tb : Nat), .int .i64 tl, .int .i64 td] rfl rfl (cells3 HX5.out) (cellT_one ⟨tb, tl, td⟩) (by unfold maxLen; omega) (by omega) (by have h1 := HB.out.size; have h2 := HS3.out; have h3 := HS5.out; omega) ?_; intro v' w6 hown' hgrow hnil hloc; have HO6 := Lib.hid hown'; have HB6 := Lib.hid ((HB.out.trans (HB5.out.mono HB.out.size)).grown hgrow (by have h1 := HB.out.size; have h2 := HS3.out; have h3 := HS5.out; omega) (fun j hj => (hne.out j hj).2)); have HX6 := Lib.hid ((hgrow.block w3.heap.size (by rw [HS5.out]; omega) (by intro e; have h1 := (hne.out _ e.symm).1; have h2 := HS3.out; omega)).trans HX45.out); have m0 := (cell_of_row _ _ 0 _ _ _ HX6.out).trans (show _ = some (Value.int .u8 (tb : Nat)) from rfl); have m1 := (cell_of_row _ _ 1 _ _ _ HX6.out).trans (show _ = some (Value.int .i64 tl) from rfl); have m2 := (cell_of_row _ _ 2 _ _ _ HX6.out).trans (show _ = some (Value.int .i64 td) from rfl); clear hown' hgrow hnil hloc))
        | (go_at_call 76; go_must (refine (HWD.out _).mono ?_; rintro e w7 ⟨rfl, hb7⟩; have HO7 := Lib.hid (row_kept' HO6.out (fun g hg => hb7.block g (HO6.out.lt g hg).2)); have HB7 := Lib.hid (HB6.out.trans (hb7.mono HB6.out.size)); clear hb7))
      have hPW : (P : Int) + W = ((posT (bt s) s.size (befT (bt s) s.size) t (k + 1) : Nat) : Int) := by rw [HPS.out]; omega
      go_roundw
      case rel =>
        refine ⟨k + 1, by rw [hPW], by omega, by omega, ?_, ?_, HB7⟩
        · intro j hj
          by_cases e : j = k
          · subst e; rw [HP.out]; omega
          · exact HJ.out j (by omega)
        · show World.ownsRow _ _ _ _ _ _ _
          rw [HTS.out]
          exact HO7.out
      case measure => simp [intOf]; omega
    · have hfd : Found s t k := ⟨by omega, HJ.out⟩
      have hT := toks_of_own HO.out (fun i hi => (tk_ok s t i hs (HJ.out i hi)).1)
      have HFD := Lib.hid hfd
      have HTT := Lib.hid hT
      have hP : posT (bt s) s.size (befT (bt s) s.size) t k = s.size := by omega
      rw [hP]
      clear hfd hT
      go_wp2
      go_ret2
      exact ⟨k, A2, cp2, rfl, HFD.out, HTT.out, HB2.out.trans (HB.out.mono HB2.out.size)⟩
end Go.Proofs.Ytfhbkidceombbaa

namespace Go.Proofs.Ytfhbkidceombbaa
set_option maxRecDepth 100000
open Go.Joins Go.RowKit Go.Deep

theorem info_rtok3 : (Try.prog.info? 47).map (fun i => (i.zero, i.size, i.bytes)) = some (some (.agg #[.int .u8 0, .int .i64 0, .int .i64 0]), 3, 24) := by kernel_rfl
end Go.Proofs.Ytfhbkidceombbaa
