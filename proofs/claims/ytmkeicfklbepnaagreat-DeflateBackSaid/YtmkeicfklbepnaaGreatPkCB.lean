/-
 Contract: earlier.
 The walk of MatchChains: it returns true, whatever the text and the bytes.
 Contract: earlier, the walk.
 Contracts: alike, longest.
 Contract: longest.
-/
import Derived.Test.YtmkeicfklbepnaaGreatPkCA
import Derived.Deep.DeepMust

namespace Go.Proofs.YtmkeicfklbepnaaGreat
set_option maxRecDepth 100000
open Go.Joins Go.RowKit Go.Deep Go.ChangeMaps Go.ChangeShapes Go.WideShapes
open Go.Maps (Keyed IsMap has)

/-- A row of numbers. -/
def rowF (F : Nat → Int) (n : Nat) : Array Value := ((List.range n).map fun p => Value.int .i64 (F p)).toArray
theorem rowF_size (F : Nat → Int) (n : Nat) : (rowF F n).size = n := by simp [rowF]
theorem rowF_get (F : Nat → Int) (n i : Nat) (h : i < n) : (rowF F n)[i]? = some (.int .i64 (F i)) := by simp [rowF, h]
theorem rowF_congr (F G : Nat → Int) (n : Nat) (h : ∀ p, p < n → F p = G p) : rowF F n = rowF G n := by
 unfold rowF
 congr 1
 exact List.map_congr_left fun p hp => by rw [h p (List.mem_range.1 hp)]
theorem rowF_set (F : Nat → Int) (n i : Nat) (v : Int) : (rowF F n).setIfInBounds i (.int .i64 v) = rowF (fun p => if p = i then v else F p) n := by
 apply Array.ext
 ·rw [Array.size_setIfInBounds, rowF_size, rowF_size]
 ·intro j h1 h2
  have hj : j < n := by rw [rowF_size] at h2; exact h2
  have e1 := rowF_get (fun p => if p = i then v else F p) n j hj
  rw [Array.getElem?_eq_getElem h2] at e1
  rw [Option.some.inj e1, Array.getElem_setIfInBounds]
  ·by_cases e : i = j
   ·subst e; rw [if_pos rfl, if_pos rfl]
   ·rw [if_neg e, if_neg (Ne.symm e)]
    have e2 := rowF_get F n j hj
    rw [Array.getElem?_eq_getElem (by rw [rowF_size]; exact hj)] at e2
    exact Option.some.inj e2
  ·rw [rowF_size]; exact hj
theorem rowF_neg (n : Nat) : (List.replicate n (Value.int .i64 (-1))).toArray = rowF (fun _ => -1) n := by
 unfold rowF
 congr 1
 rw [List.map_const', List.length_range]
set_option maxHeartbeats 4000000 in
theorem repeatI_zero (gx n : Nat) (hn : n = 0) (w : World) : Calls Tryz.prog 74 #[.slice (some ⟨gx, 0, none⟩) 1 1, .int .i64 (n : Nat)] w fun e w' => e = .returned (.slice (some ⟨w.heap.size, 0, none⟩) n n) ∧ w'.heap[w.heap.size]? = some (.cells (rowF (fun _ => -1) n) 3 (0, 0)) ∧ Below w.heap.size w w' := by
 have HM := Lib.hid (mul_oneI n (by omega))
 have hmk := run_make_row' (P := Tryz.prog) 68 3 (.int .i64 0) 8 Tryz.underlying68 info_int rfl .i64 .i64 n (by omega) (by omega)
 have hB0 : Below w.heap.size w (w.alloc (.cells (madeCells #[.int .i64 0] n) 3)) := (Below.refl _ _).alloc (Nat.le_refl _) _
 have hg0 : (w.alloc (.cells (madeCells #[.int .i64 0] n) 3)).heap[w.heap.size]? = some (.cells (fillI n 0 0).toArray 3 (0, 0)) := by rw [fillI_zero n 0]; exact heap_alloc_new w _
 have HB0 := Lib.hid hB0
 have HG0 := Lib.hid hg0
 have hsz1 : (Tryz.prog.info? 3).map (·.size) = some 1 := by kernel_rfl
 have HN := Lib.hid hn
 have hwn : IntKind.u64.wrap (n : Int) = (n : Int) := by rw [IntKind.wrap_u64]; omega
 have hwi : IntKind.i64.wrap (n : Int) = (n : Int) := by rw [IntKind.wrap_i64]; omega
 have hn1 : n ≤ 1000 := by omega
 clear hB0 hg0 hn
 go_enter Tryz.func74, Tryz.ntmps74
 have hlt0 : decide ((n : Int) < 0) = false := decide_eq_false (by omega)
 have hlt1 : decide ((9223372036854775807 : Int) < (n : Int)) = false := decide_eq_false (by omega)
 go_wp2_with fail
 refine (HM.out _).mono ?_; rintro e w' ⟨rfl, rfl⟩
 go_wp2_with (with_reducible refine wpList_copy_splice rfl (.tmp 31) (.tmp 32) 68 68 rfl 3 Tryz.underlying68 hsz1 (some ⟨w.heap.size, 0, none⟩) (some ⟨gx, 0, none⟩) n n 1 1 rfl rfl w.heap.size 0 (fillI n 0 0) 3 HG0.out [] ?c1 ?c2 ?c3 ?c4 w.heap.size w HB0.out (Nat.le_refl _) ?_)
 case c1 => have := HN.out; show 0 = min 1 n; omega
 case c3 => rw [fillI_len n 0 0 (by omega)]; simp
 case c4 => intro v hv; simp at hv
 intro w1 hg1 hb1
 have hz : decide ((0 : Int) < (n : Int)) = false := decide_eq_false (by have := HN.out; omega)
 have hz2 : decide (0 < n) = false := decide_eq_false (by have := HN.out; omega)
 have HG1 := Lib.hid hg1
 have HB1 := Lib.hid hb1
 clear hg1 hb1 hmk
 go_wp2_with fail
 refine wp_loop_rounds 1 ?_
 rw [rounds_succ]
 go_wp2
 go_ret
 refine ⟨rfl, ?_, HB1.out⟩
 have h := HG1.out.out
 have hn := HN.out
 subst hn
 exact h
theorem repeatI_neg (gx n : Nat) (hn : n ≤ 10000) (w : World) (hgx : gx < w.heap.size) (hc : w.cell? ⟨gx, 0, none⟩ = some (.int .i64 (-1))) : Calls Tryz.prog 74 #[.slice (some ⟨gx, 0, none⟩) 1 1, .int .i64 (n : Nat)] w fun e w' => e = .returned (.slice (some ⟨w.heap.size, 0, none⟩) n n) ∧ w'.heap[w.heap.size]? = some (.cells (rowF (fun _ => -1) n) 3 (0, 0)) ∧ Below w.heap.size w w' := by
 by_cases h : n = 0
 ·exact repeatI_zero gx n h w
 ·have := repeatI_any gx n (-1) (by omega) hn w hgx hc
  rw [rowF_neg] at this
  exact this

/-- What stands in the row while places are told. -/
def EarlyF (a : Nat → Nat) (n : Nat) (left : Lit → Bool) (F : Nat → Int) : Prop :=
 (∀ p, p + 2 < n → left (keyOfT a p) = false → F p = befT a n p) ∧ (∀ p, (p + 2 < n → left (keyOfT a p) = true) → F p = -1)
def InnerF (a : Nat → Nat) (n : Nat) (P : List Nat) (k : Nat) (F0 F : Nat → Int) : Prop :=
 (∀ j p, j < k → P[j + 1]? = some p → F p = befT a n p) ∧ (∀ p, (∀ j, j < k → P[j + 1]? ≠ some p) → F p = F0 p)
theorem early_step (a : Nat → Nat) (ha : ∀ i, a i < 256) (n : Nat) (left : Lit → Bool) (F0 F : Nat → Int) (q : Nat) (hl : left (keyOfT a q) = true) (h0 : EarlyF a n left F0)
  (hF : InnerF a n (places a (a q) (a (q + 1)) (a (q + 2)) (n - 2)) ((places a (a q) (a (q + 1)) (a (q + 2)) (n - 2)).length - 1) F0 F) : EarlyF a n (fun kl => left kl && !kl.sameKey (keyOfT a q)) F := by
 have hk : ∀ p, keyOfT a p = keyOfT a q ↔ a p = a q ∧ a (p + 1) = a (q + 1) ∧ a (p + 2) = a (q + 2) := fun p => ⟨fun h => tk_inj _ _ _ _ _ _ (ha _) (ha _) (ha _) (ha _) (ha _) (ha _) h, fun h => by unfold keyOfT; rw [h.1, h.2.1, h.2.2]⟩
 have hself : (keyOfT a q).sameKey (keyOfT a q) = true := WideAt.sameKey_self (tri_law.key (tk_of _ _ _ (ha _) (ha _) (ha _)))
 have hmem := fun p => places_mem a (a q) (a (q + 1)) (a (q + 2)) (n - 2) p
 have hprev := fun i p => places_prev a (a q) (a (q + 1)) (a (q + 2)) (n - 2) i p
 generalize places a (a q) (a (q + 1)) (a (q + 2)) (n - 2) = P at *
 have hout : ∀ p, keyOfT a p ≠ keyOfT a q → F p = F0 p := fun p hp => hF.2 p fun j _ hj => hp ((hk p).2 ((hmem p).1 (List.mem_of_getElem? hj)).2)
 constructor
 ·intro p hp hlp
  by_cases e : keyOfT a p = keyOfT a q
  ·have hin : p ∈ P := (hmem p).2 ⟨by omega, (hk p).1 e⟩
   obtain ⟨i, hi⟩ := List.getElem?_of_mem hin
   by_cases hi0 : i = 0
   ·subst hi0
    have hpv := hprev 0 p hi
    rw [if_pos rfl] at hpv
    have hb : befT a n p = -1 := by unfold befT; rw [if_pos hp, hpv]
    rw [hb, hF.2 p fun j _ hj => by
     have h2 := hprev (j + 1) p hj
     rw [if_neg (by omega), hpv, Nat.add_sub_cancel] at h2
     obtain ⟨hjl, _⟩ := List.getElem?_eq_some_iff.1 hj
     rw [List.getElem?_eq_getElem (by omega)] at h2
     cases h2]
    exact h0.2 p fun _ => by rw [e]; exact hl
   ·obtain ⟨hil, _⟩ := List.getElem?_eq_some_iff.1 hi
    exact hF.1 (i - 1) p (by omega) (by rw [show i - 1 + 1 = i by omega]; exact hi)
  ·rw [hout p e]
   refine h0.1 p hp ?_
   simp only [Maps.sameKey_ne e] at hlp
   simpa using hlp
 ·intro p hp
  by_cases e : keyOfT a p = keyOfT a q
  ·by_cases hpn : p + 2 < n
   ·have := hp hpn
    simp only [e, hself] at this
    simp at this
   ·rw [hF.2 p fun j _ hj => by have := (hmem p).1 (List.mem_of_getElem? hj); omega]
    exact h0.2 p fun h => absurd h hpn
  ·rw [hout p e]
   refine h0.2 p fun hpn => ?_
   have := hp hpn
   simp at this
   exact this.1
theorem early_start (a : Nat → Nat) (ha : ∀ i, a i < 256) (n : Nat) : EarlyF a n (has (gM a (n - 2))) (fun _ => -1) :=
 ⟨fun p hp h => (by
  have := (gM_has a ha (keyOfT a p) (n - 2)).2 ⟨p, by omega, rfl⟩
  rw [this] at h; cases h), fun _ _ => rfl⟩
theorem early_end (a : Nat → Nat) (n : Nat) (left : Lit → Bool) (h : ∀ kl, left kl = false) (F : Nat → Int) (hF : EarlyF a n left F) : rowF F n = rowF (befT a n) n := by
 refine rowF_congr _ _ _ fun p _ => ?_
 by_cases hp : p + 2 < n
 ·exact hF.1 p hp (h _)
 ·rw [hF.2 p fun hh => absurd hh hp]
  unfold befT
  rw [if_neg hp]
theorem inner_start (a : Nat → Nat) (n : Nat) (P : List Nat) (F : Nat → Int) : InnerF a n P 0 F F := ⟨fun j _ hj => by omega, fun _ _ => rfl⟩
theorem inner_step (a : Nat → Nat) (n x y z k place : Nat) (F0 F : Nat → Int) (hP : (places a x y z (n - 2))[k + 1]? = some place) (hF : InnerF a n (places a x y z (n - 2)) k F0 F) :
  InnerF a n (places a x y z (n - 2)) (k + 1) F0 (fun p => if p = place then (((places a x y z (n - 2)).getD k 0 : Nat) : Int) else F p) := by
 have hb : befT a n place = (((places a x y z (n - 2)).getD k 0 : Nat) : Int) := by
  have h1 := (places_mem a x y z (n - 2) place).1 (List.mem_of_getElem? hP)
  have h2 := places_prev a x y z (n - 2) (k + 1) place hP
  rw [if_neg (by omega), Nat.add_sub_cancel] at h2
  obtain ⟨hl, _⟩ := List.getElem?_eq_some_iff.1 hP
  unfold befT
  rw [if_pos (by omega), h2, List.getElem?_eq_getElem (by omega), List.getD_eq_getElem?_getD, List.getElem?_eq_getElem (by omega)]
  rfl
 constructor
 ·intro j p hj hp
  by_cases e : p = place
  ·subst e; simp only [if_true]; exact hb.symm
  ·simp only [if_neg e]
   refine hF.1 j p ?_ hp
   by_cases e2 : j = k
   ·subst e2; rw [hP] at hp; exact absurd (Option.some.inj hp).symm e
   ·omega
 ·intro p hp
  by_cases e : p = place
  ·subst e; exact absurd hP (hp k (by omega))
  ·simp only [if_neg e]
   exact hF.2 p fun j hj => hp j (by omega)
end Go.Proofs.YtmkeicfklbepnaaGreat

namespace Go.Proofs.YtmkeicfklbepnaaGreat
set_option maxRecDepth 100000
open Go.Joins Go.RowKit Go.Deep Go.ChangeMaps Go.ChangeShapes Go.WideShapes
open Go.Maps (Keyed IsMap has)

theorem own_int {w : World} {B c : Nat} {A : Option Addr} {o : List Nat} (h : w.ownsRow B 3 1 (.slice A o.length c) o.length (cellsI o)) (h0 : 0 < o.length) :
  ∃ g, A = some ⟨g, 0, none⟩ ∧ B ≤ g ∧ g < w.heap.size ∧ ∀ i, i < o.length → w.cell? ⟨g, i, none⟩ = some (.int .i64 ((o.getD i 0 : Nat) : Int)) := by
 have hl := h.lt
 rcases ownsRow_forms h with ⟨hv, hn⟩ | ⟨g2, cap, hv⟩
 ·omega
 ·injection hv with hA _ _
  subst hA
  refine ⟨g2, rfl, (hl g2 rfl).1, (hl g2 rfl).2, fun i hi => ?_⟩
  have := h.cellAt i (by omega)
  rw [this]
  simp only [cellsI, List.getElem?_map, List.getElem?_eq_getElem hi, Option.map_some, List.getD_eq_getElem?_getD, Option.getD_some]
end Go.Proofs.YtmkeicfklbepnaaGreat

namespace Go.Proofs.YtmkeicfklbepnaaGreat
set_option maxRecDepth 100000
open Go.Joins Go.RowKit Go.Deep Go.ChangeMaps Go.ChangeShapes Go.WideShapes
open Go.Maps (Keyed IsMap has)

set_option maxHeartbeats 8000000 in
theorem earlier_any (s : ByteArray) (hs : s.size ≤ 10000) (w : World) : Calls Tryz.prog 47 #[.string s] w fun e w' => ∃ g, e = .returned (.slice (some ⟨g, 0, none⟩) s.size s.size) ∧ w.heap.size ≤ g ∧ w'.heap[g]? = some (.cells (rowF (befT (bt s) s.size) s.size) 3 (0, 0)) ∧ Below w.heap.size w w' := by
 have hb0 : Below w.heap.size w (w.alloc (.cells #[.int .i64 (-1)] 3)) := (Below.refl _ _).alloc (Nat.le_refl _) _
 have hc0 : (w.alloc (.cells #[.int .i64 (-1)] 3)).cell? ⟨w.heap.size, 0, none⟩ = some (.int .i64 (-1)) := by rw [cell_of_row _ _ 0 _ _ _ (heap_alloc_new w _)]; rfl
 have HRP := Lib.hid (repeatI_neg w.heap.size s.size hs (w.alloc (.cells #[.int .i64 (-1)] 3)) (by simp) hc0)
 have HB0 := Lib.hid hb0
 have HCH := Lib.hid (fun w => chains_any s (by omega) w)
 clear hb0 hc0
 go_enter Tryz.func47, Tryz.ntmps47
 go_wp2_with fail
 refine (HRP.out).mono ?_; rintro e w1 ⟨rfl, hg1, hb1⟩
 have hsg : (w.alloc (.cells #[.int .i64 (-1)] 3)).heap.size = w.heap.size + 1 := by simp
 rw [hsg] at hg1 hb1 ⊢
 have HB1 : Hid (Below w.heap.size w w1) := HB0.out.trans (hb1.mono (by omega))
 have hgl : w.heap.size + 1 < w1.heap.size := (Array.getElem?_eq_some_iff.1 hg1).1
 have HG1 := Lib.hid hg1
 have HGL := Lib.hid hgl
 clear hg1 hb1 hsg hgl HRP HB0
 generalize hgg : w.heap.size + 1 = g at *
 have HGG := Lib.hid hgg
 clear hgg
 go_wp2_with fail
 refine (HCH.out _).mono ?_; rintro e w2 ⟨rfl, hg2, hb2⟩
 have hown := groups_own hg2
 have HG := Lib.hid hg2
 have HB2 : Hid (Below w.heap.size w w2) := HB1.out.trans (hb2.mono (by have h1 := HGL.out; have h2 := HGG.out; omega))
 have HR2 : Hid (w2.heap[g]? = some (.cells (rowF (fun _ => -1) s.size) 3 (0, 0))) := (hb2.block g HGL.out).trans HG1.out
 have HW2 : Hid (w1.heap.size ≤ w2.heap.size) := hb2.size
 clear hg2 hb2 HG1
 go_wp2_with (at_range; go_must (refine wpList_range_own _ rfl _ 128 rfl 131 68 tri_law Tryz.underlying128 _ w1.heap.size (s.size - 2) _ rfl hown ?_; intro wi hrg0 hgr0 hs0))
 go_frame
 have HRG := Lib.hid hrg0
 have HGR := Lib.hid hgr0
 have HS0 := Lib.hid hs0
 clear hrg0 hgr0 hs0 hown
 go_loopw [5] (fun _ wr => ∃ left cnt F, Hid (wr.ranges Tryz.prog 131 (rowElem w2 (w1.heap.size + 1) 3 .i64) w1.heap.size w2.heap.size (s.size - 2) (gM (bt s) (s.size - 2)) left cnt) ∧ Hid (w2.grownBy wr (some g)) ∧ Hid (∀ kl, left kl = true → has (gM (bt s) (s.size - 2)) kl = true) ∧ Hid (EarlyF (bt s) s.size left F) ∧ Hid (wr.heap[g]? = some (.cells (rowF F s.size) 3 (0, 0)))) (fun _ wr => wr.rangeLeft w1.heap.size w2.heap.size)
 case atStart =>
  exact ⟨_, _, _, HRG, HGR.out.but _, fun kl h => h, early_start (bt s) (bt_lt s) s.size, (HGR.out.block g (by have h1 := HGL.out; have h2 := HW2.out; omega) (by simp)).trans HR2.out⟩
 case round =>
  obtain ⟨left, cnt, F, HR, HGB, HHAS, HEF, HROW⟩ := hrel
  have hrg := HR.out
  go_wp2_with (at_next; go_must (refine wpList_next_ranges _ rfl _ rfl 131 tri_law _ (fun v : Value => v) mkS inv_key inv_slice w1.heap.size w2.heap.size (s.size - 2) _ _ _ rfl hrg ?_ ?_))
  ·intro _ hl0
   have HFIN := Lib.hid (early_end (bt s) s.size left hl0 F HEF.out)
   clear hrg
   go_wp2
   go_ret
   refine ⟨g, rfl, by have := HGG.out; omega, ?_, ?_⟩
   ·rw [← HFIN.out]; exact HROW.out
   ·exact HB2.out.grown HGB.out HB2.out.size (fun j hj => by injection hj with e; have := HGG.out; omega)
  ·intro x0 A nn cc kl y1 y2 w3 cnt1 hk hl hv hat hrg1 hlt hg1 hs1 hen
   obtain ⟨p, hp, hkl, hoi, hnn⟩ := came_val (bt s) (bt_lt s) (s.size - 2) (HHAS.out kl hl) hv hat
   have hkl2 : kl = keyOfT (bt s) p := hkl
   have hnn2 : nn = (places (bt s) (bt s p) (bt s (p + 1)) (bt s (p + 2)) (s.size - 2)).length := hnn
   subst hkl2
   have hpin : p ∈ places (bt s) (bt s p) (bt s (p + 1)) (bt s (p + 2)) (s.size - 2) := (places_mem _ _ _ _ _ _).2 ⟨hp, rfl, rfl, rfl⟩
   have hmem := fun q => places_mem (bt s) (bt s p) (bt s (p + 1)) (bt s (p + 2)) (s.size - 2) q
   have hple := places_len (bt s) (bt s p) (bt s (p + 1)) (bt s (p + 2)) (s.size - 2)
   have HSTEP := Lib.hid (fun F' => early_step (bt s) (bt_lt s) s.size left F F' p hl HEF.out)
   have HINN := Lib.hid (fun k place F1 h1 h2 => inner_step (bt s) s.size (bt s p) (bt s (p + 1)) (bt s (p + 2)) k place F F1 h1 h2)
   have HIN0 := Lib.hid (inner_start (bt s) s.size (places (bt s) (bt s p) (bt s (p + 1)) (bt s (p + 2)) (s.size - 2)) F)
   have hoi1 : w2.ownsRow (w1.heap.size + 1) 3 1 (mkS (A, nn, cc)) (places (bt s) (bt s p) (bt s (p + 1)) (bt s (p + 2)) (s.size - 2)).length (cellsI (places (bt s) (bt s p) (bt s (p + 1)) (bt s (p + 2)) (s.size - 2))) := by
    have h := hoi.1
    rw [cellsI_zs] at h
    simpa [zsOf] using h
   generalize places (bt s) (bt s p) (bt s (p + 1)) (bt s (p + 2)) (s.size - 2) = P at *
   have hP1 : 1 ≤ P.length := by cases P with
    | nil => cases hpin
    | cons _ _ => simp
   simp only [mkS] at hen hoi1
   subst hnn2
   obtain ⟨gP, rfl, hgB, hgP, hcP⟩ := own_int hoi1 hP1
   have HR1 := Lib.hid hrg1
   have HG1 : Hid (w2.grownBy w3 (some g)) := HGB.out.andThen hg1 (fun j hj => by injection hj with e; omega)
   have HHAS1 : Hid (∀ k2, (fun z => left z && !z.sameKey (keyOfT (bt s) p)) k2 = true → has (gM (bt s) (s.size - 2)) k2 = true) := fun k2 h2 => HHAS.out k2 (by simp at h2; exact h2.1)
   have HLT := Lib.hid hlt
   have HROW1 : Hid (w3.heap[g]? = some (.cells (rowF F s.size) 3 (0, 0))) := (hg1.block g (by
    have h1 := (Array.getElem?_eq_some_iff.1 HROW.out).1; exact h1) (by intro e; injection e with e; have h1 := HGL.out; have h2 := HW2.out; omega)).trans HROW.out
   have HCP : Hid (∀ i, i < P.length → w2.cell? ⟨gP, i, none⟩ = some (.int .i64 ((P.getD i 0 : Nat) : Int))) := hcP
   have HPB : Hid (∀ q, q ∈ P → q < s.size) := fun q hq => by have := (hmem q).1 hq; omega
   have HGPB : Hid (gP < w2.heap.size ∧ w1.heap.size + 1 ≤ gP) := ⟨hgP, hgB⟩
   have hcap : P.length ≤ cc := by
    rcases hoi1.2 with ⟨h, _⟩ | ⟨g', cap', cur, h, _, _, h2, _⟩
    ·cases h
    ·injection h with _ _ h3; subst h3; exact h2
   have HCAP := Lib.hid hcap
   clear hk hl hv hat hrg1 hlt hg1 hs1 hoi hoi1 hnn hkl hp hpin hmem hcP hgB hgP
   go_wp2_with fail
   all_goals
    go_loopw [22] (fun j wr2 => ∃ (k : Nat) (F1 : Nat → Int), k ≤ P.length - 1 ∧ j = .int .i64 (k : Nat) ∧ Hid (InnerF (bt s) s.size P k F F1) ∧ Hid (wr2.heap[g]? = some (.cells (rowF F1 s.size) 3 (0, 0))) ∧ Hid (w3.grownBy wr2 (some g))) (fun j _ => (P.length - 1) - (intOf j).toNat)
    case atStart => exact ⟨0, F, Nat.zero_le _, rfl, HIN0, HROW1, ⟨rfl, rfl, rfl, Nat.le_refl _, fun _ _ _ => rfl⟩⟩
    case round =>
     obtain ⟨k, F1, hk, rfl, HI, HRW, HGW⟩ := hrel
     by_cases hkn : k < P.length - 1
     ·try (exfalso; have := HCAP.out; omega)
      all_goals
       have hk1 : 1 + k < P.length := by omega
       have e1 := List.getElem?_eq_getElem (show k + 1 < P.length by omega)
       have e2 : P.getD (1 + k) 0 = P[k + 1] := by rw [List.getD_eq_getElem?_getD, show 1 + k = k + 1 by omega, e1]; rfl
       have hpl := HPB.out _ (List.getElem_mem (show k + 1 < P.length by omega))
       have hgp := HGPB.out
       have hgw : g < w1.heap.size := HGL.out
       have hcell : ∀ i, i < P.length → wr.cell? ⟨gP, i, none⟩ = some (.int .i64 ((P.getD i 0 : Nat) : Int)) := fun i hi =>
        (World.cell?_of_block (w := w3) (HGW.out.block gP (by have := HG1.out.size; omega) (by intro e; injection e with e; omega))).trans
         ((World.cell?_of_block (w := w2) (HG1.out.block gP hgp.1 (by intro e; injection e with e; omega))).trans (HCP.out i hi))
       have k1 := hcell (1 + k) hk1
       have k2 := hcell k (by omega)
       rw [e2] at k1
       have HNX := Lib.hid (HINN.out k P[k + 1] F1 e1 HI.out)
       have k3 : wr.cell? ⟨g, P[k + 1], none⟩ = some (.int .i64 (F1 P[k + 1])) := by
        rw [cell_of_row wr g _ _ _ _ HRW.out]; exact rowF_get F1 _ _ hpl
       have kf := frozen_of_row wr g P[k + 1] _ _ HRW.out
       have HRW2 : Hid ((wr.setCell ⟨g, P[k + 1], none⟩ (.int .i64 ((P.getD k 0 : Nat) : Int))).heap[g]? = some (.cells (rowF (fun p => if p = P[k + 1] then ((P.getD k 0 : Nat) : Int) else F1 p) s.size) 3 (0, 0))) := by
        have h := heap_setCell_same wr g P[k + 1] _ _ (.int .i64 ((P.getD k 0 : Nat) : Int)) HRW.out
        rw [rowF_set] at h
        exact h
       have HGW2 := Lib.hid (grown_then HGW.out (grown_set wr g P[k + 1] (.int .i64 ((P.getD k 0 : Nat) : Int))))
       clear hcell e1 e2 hgp hgw
       generalize P[k + 1] = place at *
       generalize P.getD k 0 = pk at *
       have hkk : k < P.length := by omega
       go_wp2_with fail
       go_roundw
       case rel => exact ⟨k + 1, _, by omega, by go_num, HNX, HRW2, HGW2⟩
       case measure => simp [intOf]; omega
     ·obtain rfl : k = P.length - 1 := by omega
      have HE2 := Lib.hid (HSTEP.out F1 HI.out)
      go_wp2_with fail
      go_roundw
      case rel =>
       exact ⟨_, _, F1, HR1.out.kept HGW.out (by intro e; injection e with e; have := HGL.out; omega) (by intro e; injection e with e; have := HGL.out; have := HW2.out; omega), grown_then HG1.out HGW.out, HHAS1, HE2, HRW⟩
      case measure =>
       have h1 := HR1.out.kept HGW.out (by intro e; injection e with e; have := HGL.out; omega) (by intro e; injection e with e; have := HGL.out; have := HW2.out; omega)
       rw [h1.left_eq, HR.out.left_eq]
       have := HLT.out; omega
end Go.Proofs.YtmkeicfklbepnaaGreat

namespace Go.Proofs.YtmkeicfklbepnaaGreat
set_option maxRecDepth 100000
open Go.Joins Go.RowKit Go.Deep

/-- A search as a value. -/
def valS (s : ByteArray) (v : Value) (t : Nat) : Value := .agg #[.string s, v, .int .i64 (t : Nat)]
def eqA (a : Nat → Nat) (f p : Nat) : Nat → Bool := fun i => decide (a (f + i) = a (p + i))
set_option maxHeartbeats 8000000 in
theorem alike_any (s : ByteArray) (A : Option Addr) (nA cA t f p most : Nat) (hs : s.size ≤ 1048576) (hf : f + most ≤ s.size) (hp : p + most ≤ s.size) (w : World) :
  Calls Tryz.prog 76 #[.agg #[.string s, .slice A nA cA, .int .i64 (t : Nat)], .int .i64 (f : Nat), .int .i64 (p : Nat), .int .i64 (most : Nat)] w fun e w' => e = .returned (.int .i64 ((alF (eqA (bt s) f p) most : Nat) : Int)) ∧ Below w.heap.size w w' := by
 have hx0 : (w.alloc (.cells #[.string s, .slice A nA cA, .int .i64 (t : Nat)] 73)).cell? ⟨w.heap.size, 0, none⟩ = some (.string s) := by rw [cell_of_row _ _ 0 _ _ _ (heap_alloc_new w _)]; rfl
 have hb0 : Below w.heap.size w (w.alloc (.cells #[.string s, .slice A nA cA, .int .i64 (t : Nat)] 73)) := (Below.refl _ _).alloc (Nat.le_refl _) _
 have HX := Lib.hid hx0
 have HB := Lib.hid hb0
 clear hx0 hb0
 go_enter Tryz.func76, Tryz.ntmps76
 go_wp2_with fail
 generalize w.alloc (.cells #[.string s, .slice A nA cA, .int .i64 (t : Nat)] 73) = w1 at *
 go_loopw [9] (fun i wr => ∃ k : Nat, k ≤ most ∧ i = .int .i64 (k : Nat) ∧ Hid (∀ i, i < k → eqA (bt s) f p i = true) ∧ Hid (∃ n, wr = w1.drewN n)) (fun i _ => most - (intOf i).toNat)
 case atStart => exact ⟨0, Nat.zero_le _, rfl, fun i h => by omega, 0, rfl⟩
 case round =>
  obtain ⟨k, hk, rfl, HE, HD⟩ := hrel
  obtain ⟨nd, hd⟩ := HD.out
  have k0 : wr.cell? ⟨w.heap.size, 0, none⟩ = some (.string s) := by rw [hd, World.cell?_drewN]; exact HX.out
  have HDD := Lib.hid hd
  clear hd
  by_cases hkm : k < most
  ·have g1 : decide ((k : Int) < (most : Int)) = true := decide_eq_true (by omega)
   have g2 : decide (k < most) = true := decide_eq_true hkm
   obtain ⟨q1, e1, f1⟩ : ∃ q : Nat, ((f : Int) + (k : Int)) = (q : Int) ∧ q = f + k := ⟨f + k, by omega, rfl⟩
   obtain ⟨q2, e2, f2⟩ : ∃ q : Nat, ((p : Int) + (k : Int)) = (q : Int) ∧ q = p + k := ⟨p + k, by omega, rfl⟩
   have l1 : q1 < s.size := by omega
   have l2 : q2 < s.size := by omega
   have n1 : ((s[q1].toNat : Int) == (s[q2].toNat : Int)) = eqA (bt s) f p k := by
    rw [bt_get s q1 l1, bt_get s q2 l2]
    unfold eqA
    rw [Bool.eq_iff_iff, f1, f2]
    simp only [beq_iff_eq, decide_eq_true_eq]
    exact Int.natCast_inj
   have w1' : IntKind.i64.wrap (q1 : Int) = (q1 : Int) := by rw [IntKind.wrap_i64]; omega
   have w2' : IntKind.i64.wrap (q2 : Int) = (q2 : Int) := by rw [IntKind.wrap_i64]; omega
   clear f1 f2
   go_wp2_with fail
   cases hq : eqA (bt s) f p k with
   | true =>
    rw [hq] at n1
    go_quiet (fail)
    have HQ := Lib.hid hq
    clear hq n1
    go_wp2_with fail
    go_roundw
    case rel =>
     refine ⟨k + 1, by omega, by go_num, ?_, ?_⟩
     ·intro i hi
      by_cases e : i = k
      ·subst e; exact HQ.out
      ·exact HE.out i (by omega)
     ·exact ⟨nd + _, by rw [HDD.out, World.drewN_drewN]⟩
    case measure => simp [intOf]; omega
   | false =>
    rw [hq] at n1
    have HFIN := Lib.hid (alF_eq (eqA (bt s) f p) most k HE.out hk (.inr hq))
    clear hq
    go_quiet (fail)
    go_wp2
    go_ret
    rw [HFIN.out]
    exact ⟨rfl, by rw [HDD.out, World.drewN_drewN]; exact below_drewN HB.out _⟩
  ·obtain rfl : k = most := by omega
   have g1 : decide ((k : Int) < (k : Int)) = false := decide_eq_false (by omega)
   have g2 : decide (k < k) = false := decide_eq_false (by omega)
   have HFIN := Lib.hid (alF_eq (eqA (bt s) f p) k k HE.out (Nat.le_refl _) (.inl rfl))
   clear hkm hk
   go_wp2_with fail
   go_quiet (fail)
   go_wp2
   go_ret
   rw [HFIN.out]
   exact ⟨rfl, by rw [HDD.out, World.drewN_drewN]; exact below_drewN HB.out _⟩
end Go.Proofs.YtmkeicfklbepnaaGreat

namespace Go.Proofs.YtmkeicfklbepnaaGreat
set_option maxRecDepth 100000
open Go.Joins Go.RowKit Go.Deep

theorem info_tokf : (Tryz.prog.info? 76).map (·.size) = some 3 := by kernel_rfl
theorem zero_tok (w : World) : (zeroValue 76).run Tryz.prog w = .ok (.agg #[.int .u8 0, .int .i64 0, .int .i64 0]) w := by kernel_rfl
/-- What the search's loop keeps. -/
def LSt (w wr : World) (s : ByteArray) (v : Value) (t bl bd : Nat) : Prop :=
 wr.heap[w.heap.size]? = some (.cells #[.string s, v, .int .i64 (t : Nat)] 73 (0, 0)) ∧
 wr.heap[w.heap.size + 1]? = some (.cells #[.int .u8 0, .int .i64 0, .int .i64 0] 76 (0, 0)) ∧
 wr.heap[w.heap.size + 1 + 1]? = some (.cells #[.int .u8 0, .int .i64 (bl : Nat), .int .i64 (bd : Nat)] 76 (0, 0)) ∧ Below w.heap.size w wr ∧ w.heap.size + 3 ≤ wr.heap.size
theorem LSt.later {w wr w2 : World} {s : ByteArray} {v : Value} {t bl bd : Nat} (h : LSt w wr s v t bl bd) (hb : Below wr.heap.size wr w2) : LSt w w2 s v t bl bd := by
 obtain ⟨h1, h2, h3, h4, h5⟩ := h
 exact ⟨(hb.block _ (by omega)).trans h1, (hb.block _ (by omega)).trans h2, (hb.block _ (by omega)).trans h3, h4.trans (hb.mono h4.size), Nat.le_trans h5 hb.size⟩
theorem three_set {w : World} {g : Nat} {a b c x y z : Value} {T : TypeId} (h : w.heap[g]? = some (.cells #[a, b, c] T (0, 0))) : (((w.setCell ⟨g, 0, none⟩ x).setCell ⟨g, 1, none⟩ y).setCell ⟨g, 2, none⟩ z).heap[g]? = some (.cells #[x, y, z] T (0, 0)) := by
 have h1 := heap_setCell_same w g 0 _ _ x h
 have h2 := heap_setCell_same _ g 1 _ _ y h1
 have h3 := heap_setCell_same _ g 2 _ _ z h2
 simpa using h3
set_option maxHeartbeats 8000000 in
theorem longest_any (s : ByteArray) (A : Option Addr) (nA cA t p : Nat) (hs : s.size ≤ 10000) (hp : p ≤ s.size) (ht : t ≤ 2000) (w : World)
  (hA : 0 < t → ∃ g, A = some ⟨g, 0, none⟩ ∧ nA = s.size ∧ g < w.heap.size ∧ w.heap[g]? = some (.cells (rowF (befT (bt s) s.size) s.size) 3 (0, 0))) :
  Calls Tryz.prog 48 #[.agg #[.string s, .slice A nA cA, .int .i64 (t : Nat)], .int .i64 (p : Nat)] w fun e w' => e = .returned (.agg #[.int .u8 0, .int .i64 ((longT (bt s) s.size (befT (bt s) s.size) t p).1 : Nat), .int .i64 ((longT (bt s) s.size (befT (bt s) s.size) t p).2 : Nat)]) ∧ Below w.heap.size w w' := by
 have hzt := zero_tok
 obtain ⟨q, e1, f1⟩ : ∃ q : Nat, ((s.size : Int) - (p : Int)) = (q : Int) ∧ q = s.size - p := ⟨s.size - p, by omega, rfl⟩
 obtain ⟨M, hM⟩ : ∃ M : Nat, M = min (s.size - p) 258 := ⟨_, rfl⟩
 have hmn : (if 258 < q then (258 : Int) else (q : Int)) = (M : Int) := by split <;> omega
 have hwq : IntKind.i64.wrap (q : Int) = (q : Int) := by rw [IntKind.wrap_i64]; omega
 have hM2 : M ≤ 258 := by omega
 have HMP : Hid (M ≤ s.size - p) := by show M ≤ _; omega
 have HLN : Hid (longT (bt s) s.size (befT (bt s) s.size) t p = if M < 3 then (0, 0) else lgF (bt s) (befT (bt s) s.size) p M t ⟨p, 0, 0⟩) := by show _ = _; rw [hM]; rfl
 generalize longT (bt s) s.size (befT (bt s) s.size) t p = LG at *
 have hM258 : 258 < q → M = 258 := fun h => by omega
 have hMq : ¬ 258 < q → M = q := fun h => by omega
 clear hM f1
 go_enter Tryz.func48, Tryz.ntmps48
 have hx0 : LSt w (((w.alloc (.cells #[.string s, .slice A nA cA, .int .i64 (t : Nat)] 73)).alloc (.cells #[.int .u8 0, .int .i64 0, .int .i64 0] 76)).alloc (.cells #[.int .u8 0, .int .i64 0, .int .i64 0] 76)) s (.slice A nA cA) t 0 0 := by
  have b1 := heap_alloc_new w (.cells #[.string s, .slice A nA cA, .int .i64 (t : Nat)] 73)
  have s1 : (w.alloc (.cells #[.string s, .slice A nA cA, .int .i64 (t : Nat)] 73)).heap.size = w.heap.size + 1 := by simp
  have d1 : Below w.heap.size w (w.alloc (.cells #[.string s, .slice A nA cA, .int .i64 (t : Nat)] 73)) := (Below.refl _ _).alloc (Nat.le_refl _) _
  generalize w.alloc (.cells #[.string s, .slice A nA cA, .int .i64 (t : Nat)] 73) = w1 at *
  have b2 := heap_alloc_new w1 (.cells #[.int .u8 0, .int .i64 0, .int .i64 0] 76)
  have s2 : (w1.alloc (.cells #[.int .u8 0, .int .i64 0, .int .i64 0] 76)).heap.size = w1.heap.size + 1 := by simp
  have d2 : Below w1.heap.size w1 (w1.alloc (.cells #[.int .u8 0, .int .i64 0, .int .i64 0] 76)) := (Below.refl _ _).alloc (Nat.le_refl _) _
  generalize w1.alloc (.cells #[.int .u8 0, .int .i64 0, .int .i64 0] 76) = w2 at *
  have b3 := heap_alloc_new w2 (.cells #[.int .u8 0, .int .i64 0, .int .i64 0] 76)
  have s3 : (w2.alloc (.cells #[.int .u8 0, .int .i64 0, .int .i64 0] 76)).heap.size = w2.heap.size + 1 := by simp
  have d3 : Below w2.heap.size w2 (w2.alloc (.cells #[.int .u8 0, .int .i64 0, .int .i64 0] 76)) := (Below.refl _ _).alloc (Nat.le_refl _) _
  generalize w2.alloc (.cells #[.int .u8 0, .int .i64 0, .int .i64 0] 76) = w3 at *
  rw [s1] at b2
  rw [s2, s1] at b3
  exact ⟨(d3.block _ (by omega)).trans ((d2.block _ (by omega)).trans b1), (d3.block _ (by omega)).trans b2, b3, d1.trans ((d2.mono (by omega)).trans (d3.mono (by omega))), by omega⟩
 have HX := Lib.hid hx0
 by_cases h3 : M < 3
 ·have HLZ := Lib.hid (HLN.out.trans (if_pos h3))
  go_wp2_with fail
  obtain ⟨_, m1, _, mb, _⟩ := HX.out
  exact bodyPost_ret (results_cell_row rfl _ _ (w.heap.size + 1) 76 #[.int .u8 0, .int .i64 0, .int .i64 0] (0, 0) _ rfl m1 Tryz.underlying76 rfl info_tokf) rfl ⟨by rw [HLZ.out]; rfl, mb⟩
 ·have HLN2 := Lib.hid (HLN.out.trans (if_neg h3))
  have h3i : decide ((M : Int) < 3) = false := decide_eq_false (by omega)
  have HAA := Lib.hid hA
  clear hA
  go_wp2_with fail
  all_goals
   generalize hW3 : ((w.alloc (.cells #[.string s, .slice A nA cA, .int .i64 (t : Nat)] 73)).alloc (.cells #[.int .u8 0, .int .i64 0, .int .i64 0] 76)).alloc (.cells #[.int .u8 0, .int .i64 0, .int .i64 0] 76) = w3 at *
   clear hW3
   first
    | rw [show (258 : Int) = (M : Int) by omega]
    | rw [show (q : Int) = (M : Int) by omega]
  all_goals
   try rw [h3i]
   go_loopw [7, 21] (fun fr i wr => ∃ k f bl bd : Nat, k ≤ t ∧ f ≤ p ∧ bl ≤ M ∧ fr = .int .i64 (f : Nat) ∧ i = .int .i64 (k : Nat) ∧ Hid (LG = lgF (bt s) (befT (bt s) s.size) p M (t - k) ⟨f, bl, bd⟩) ∧ Hid (LSt w wr s (.slice A nA cA) t bl bd)) (fun _ i _ => t - (intOf i).toNat)
   case atStart => exact ⟨0, p, 0, 0, Nat.zero_le _, Nat.le_refl _, Nat.zero_le _, rfl, rfl, HLN2, HX⟩
   case round =>
    obtain ⟨k, f, bl, bd, hk, hfp, hblM, rfl, rfl, HLG, HST⟩ := hrel
    obtain ⟨hh0, hh1, hh2, hhb, hhs⟩ := HST.out
    have c0 := (cell_of_row _ _ 0 _ _ _ hh0).trans (show _ = some (Value.string s) from rfl)
    have c1 := (cell_of_row _ _ 1 _ _ _ hh0).trans (show _ = some (Value.slice A nA cA) from rfl)
    have c2 := (cell_of_row _ _ 2 _ _ _ hh0).trans (show _ = some (Value.int .i64 (t : Nat)) from rfl)
    have t0 := (cell_of_row _ _ 0 _ _ _ hh2).trans (show _ = some (Value.int .u8 0) from rfl)
    have t1 := (cell_of_row _ _ 1 _ _ _ hh2).trans (show _ = some (Value.int .i64 (bl : Nat)) from rfl)
    have t2 := (cell_of_row _ _ 2 _ _ _ hh2).trans (show _ = some (Value.int .i64 (bd : Nat)) from rfl)
    have r0 := (cell_of_row _ _ 0 _ _ _ hh1).trans (show _ = some (Value.int .u8 0) from rfl)
    have r1 := (cell_of_row _ _ 1 _ _ _ hh1).trans (show _ = some (Value.int .i64 0) from rfl)
    have r2 := (cell_of_row _ _ 2 _ _ _ hh1).trans (show _ = some (Value.int .i64 0) from rfl)
    have hfz := fun j => frozen_of_row _ _ j _ _ hh1
    by_cases hkt : k < t
    ·obtain ⟨g, rfl, rfl, hgl, hgr⟩ := HAA.out (by omega)
     have hfn : f < s.size := by have := HMP.out; omega
     have hrow := (hhb.block g hgl).trans hgr
     have cE := (cell_of_row _ _ f _ _ _ hrow).trans (rowF_get (befT (bt s) s.size) s.size f hfn)
     have HLG1 : Hid (LG = lgF (bt s) (befT (bt s) s.size) p M ((t - k - 1) + 1) ⟨f, bl, bd⟩) := by rw [show t - k - 1 + 1 = t - k by omega]; exact HLG.out
     have hbs := bef_lt (bt s) s.size f
     have hbsp : Hid (0 ≤ befT (bt s) s.size f → (befT (bt s) s.size f).toNat < f ∧ befT (bt s) s.size f = ((befT (bt s) s.size f).toNat : Nat)) := fun h => ⟨(bef_spec h).2.1, (bef_spec h).1⟩
     have HLU : Hid (LG = if befT (bt s) s.size f < 0 ∨ 32768 < (p : Int) - befT (bt s) s.size f ∨ bl = M then (bl, bd) else if bt s ((befT (bt s) s.size f).toNat + bl) ≠ bt s (p + bl) then lgF (bt s) (befT (bt s) s.size) p M (t - k - 1) ⟨(befT (bt s) s.size f).toNat, bl, bd⟩ else if bl < alF (eqA (bt s) (befT (bt s) s.size f).toNat p) M then lgF (bt s) (befT (bt s) s.size) p M (t - k - 1) ⟨(befT (bt s) s.size f).toNat, alF (eqA (bt s) (befT (bt s) s.size f).toNat p) M, p - (befT (bt s) s.size f).toNat⟩ else lgF (bt s) (befT (bt s) s.size) p M (t - k - 1) ⟨(befT (bt s) s.size f).toNat, bl, bd⟩) := HLG1.out
     generalize befT (bt s) s.size f = E at *
     clear hh0 hh1 hh2 hhb hrow
     by_cases hE : E < 0
     ·have HFIN := Lib.hid (HLU.out.trans (if_pos (.inl hE)))
      have g1 : decide (E < 0) = true := decide_eq_true hE
      have hw : IntKind.i64.wrap E = E := by rw [IntKind.wrap_i64]; omega
      go_wp2
      obtain ⟨_, m1, _, mb, _⟩ := HST.out
      exact bodyPost_ret (results_cell_row rfl _ _ (w.heap.size + 1) 76 #[.int .u8 0, .int .i64 (bl : Nat), .int .i64 (bd : Nat)] (0, 0) _ rfl (three_set m1) Tryz.underlying76 rfl info_tokf) rfl ⟨by rw [HFIN.out], ((mb.setCell (Nat.le_succ _) _).setCell (Nat.le_succ _) _).setCell (Nat.le_succ _) _⟩
     ·obtain ⟨hEl, hEe⟩ := hbsp.out (by omega)
      generalize E.toNat = h at *
      subst hEe
      have g1 : decide (((h : Nat) : Int) < 0) = false := decide_eq_false (by omega)
      have hdist : decide ((32768 : Int) < (p : Int) - (h : Int)) = false := decide_eq_false (by omega)
      by_cases hblm : bl = M
      ·have HFIN := Lib.hid (HLU.out.trans (if_pos (.inr (.inr hblm))))
       subst hblm
       go_wp2
       obtain ⟨_, m1, _, mb, _⟩ := HST.out
       exact bodyPost_ret (results_cell_row rfl _ _ (w.heap.size + 1) 76 #[.int .u8 0, .int .i64 (bl : Nat), .int .i64 (bd : Nat)] (0, 0) _ rfl (three_set m1) Tryz.underlying76 rfl info_tokf) rfl ⟨by rw [HFIN.out], ((mb.setCell (Nat.le_succ _) _).setCell (Nat.le_succ _) _).setCell (Nat.le_succ _) _⟩
      ·have HLU2 := Lib.hid (HLU.out.trans (if_neg (by omega)))
       have hbm : ((bl : Int) == (M : Int)) = false := by rw [beq_eq_false_iff_ne]; omega
       have hMP := HMP.out
       obtain ⟨q1, x1, f1⟩ : ∃ q : Nat, ((h : Int) + (bl : Int)) = (q : Int) ∧ q = h + bl := ⟨h + bl, by omega, rfl⟩
       obtain ⟨q2, x2, f2⟩ : ∃ q : Nat, ((p : Int) + (bl : Int)) = (q : Int) ∧ q = p + bl := ⟨p + bl, by omega, rfl⟩
       have l1 : q1 < s.size := by omega
       have l2 : q2 < s.size := by omega
       have w1' : IntKind.i64.wrap (q1 : Int) = (q1 : Int) := by rw [IntKind.wrap_i64]; omega
       have w2' : IntKind.i64.wrap (q2 : Int) = (q2 : Int) := by rw [IntKind.wrap_i64]; omega
       have HAL := Lib.hid (fun W => alike_any s (some ⟨g, 0, none⟩) s.size cA t h p M (by omega) (by omega) (by omega) W)
       have hall := alF_le (eqA (bt s) h p) M
       have n1 : ((s[q1].toNat : Int) == (s[q2].toNat : Int)) = decide (bt s q1 = bt s q2) := by
        rw [bt_get s q1 l1, bt_get s q2 l2, Bool.eq_iff_iff]
        simp only [beq_iff_eq, decide_eq_true_eq]
        exact Int.natCast_inj
       rw [← f1, ← f2] at HLU2
       clear f1 f2 hMP hbs
       generalize alF (eqA (bt s) h p) M = m at *
       by_cases hq : bt s q1 = bt s q2
       ·rw [decide_eq_true hq] at n1
        have HLU3 := Lib.hid (HLU2.out.trans (if_neg (by simp [hq])))
        clear hq
        go_wp2_with fail
        go_quiet (fail)
        by_cases hbl : bl < m
        ·have HLU4 := Lib.hid (HLU3.out.trans (if_pos hbl))
         obtain ⟨dd, y1, y2⟩ : ∃ dd : Nat, ((p : Int) - (h : Int)) = (dd : Int) ∧ dd = p - h := ⟨p - h, by omega, rfl⟩
         rw [← y2] at HLU4
         have wdd : IntKind.i64.wrap (dd : Int) = (dd : Int) := by rw [IntKind.wrap_i64]; omega
         clear y2 hdist
         go_wp2_with (go_at_call 76; go_must (refine (HAL.out _).mono ?_; rintro e w5 ⟨rfl, hb5⟩; have HS5 := Lib.hid ((HST.out.later (below_drewN (Below.refl _ _) _)).later hb5); have z0 := (cell_of_row _ _ 0 _ _ _ HS5.out.2.2.1).trans (show _ = some (Value.int .u8 0) from rfl); have z1 := (cell_of_row _ _ 1 _ _ _ HS5.out.2.2.1).trans (show _ = some (Value.int .i64 (bl : Nat)) from rfl); have z2 := (cell_of_row _ _ 2 _ _ _ HS5.out.2.2.1).trans (show _ = some (Value.int .i64 (bd : Nat)) from rfl); have hfz5 := fun j => frozen_of_row _ _ j _ _ HS5.out.2.2.1; clear hb5))
         go_roundw
         case rel =>
          refine ⟨k + 1, h, m, dd, by omega, by omega, hall, rfl, by go_num, by rw [show t - (k + 1) = t - k - 1 by omega]; exact HLU4, ?_⟩
          obtain ⟨m0, m1, m2, mb, ms⟩ := HS5.out
          refine ⟨?_, ?_, three_set m2, ((mb.setCell (by show w.heap.size ≤ w.heap.size + 1 + 1; omega) _).setCell (by show w.heap.size ≤ w.heap.size + 1 + 1; omega) _).setCell (by show w.heap.size ≤ w.heap.size + 1 + 1; omega) _, by simpa using ms⟩
          ·rw [Below.heap_setCell _ _ _ _ (by show w.heap.size ≠ w.heap.size + 1 + 1; omega), Below.heap_setCell _ _ _ _ (by show w.heap.size ≠ w.heap.size + 1 + 1; omega), Below.heap_setCell _ _ _ _ (by show w.heap.size ≠ w.heap.size + 1 + 1; omega)]; exact m0
          ·rw [Below.heap_setCell _ _ _ _ (by show w.heap.size + 1 ≠ w.heap.size + 1 + 1; omega), Below.heap_setCell _ _ _ _ (by show w.heap.size + 1 ≠ w.heap.size + 1 + 1; omega), Below.heap_setCell _ _ _ _ (by show w.heap.size + 1 ≠ w.heap.size + 1 + 1; omega)]; exact m1
         case measure => simp [intOf]; omega
        ·have HLU4 := Lib.hid (HLU3.out.trans (if_neg hbl))
         go_wp2_with (go_at_call 76; go_must (refine (HAL.out _).mono ?_; rintro e w5 ⟨rfl, hb5⟩; have HS5 := Lib.hid ((HST.out.later (below_drewN (Below.refl _ _) _)).later hb5); have z1 := (cell_of_row _ _ 1 _ _ _ HS5.out.2.2.1).trans (show _ = some (Value.int .i64 (bl : Nat)) from rfl); clear hb5))
         go_roundw
         case rel => exact ⟨k + 1, h, bl, bd, by omega, by omega, hblM, rfl, by go_num, by rw [show t - (k + 1) = t - k - 1 by omega]; exact HLU4, HS5⟩
         case measure => simp [intOf]; omega
       ·rw [decide_eq_false hq] at n1
        have HLU3 := Lib.hid (HLU2.out.trans (if_pos hq))
        clear hq
        go_wp2_with fail
        go_quiet (fail)
        go_wp2_with fail
        go_roundw
        case rel => exact ⟨k + 1, h, bl, bd, by omega, by omega, hblM, rfl, by go_num, by rw [show t - (k + 1) = t - k - 1 by omega]; exact HLU3, HST.out.later (below_drewN (Below.refl _ _) _)⟩
        case measure => simp [intOf]; omega
    ·obtain rfl : k = t := by omega
     have HFIN : Hid (LG = (bl, bd)) := by
      have h := HLG.out
      rw [Nat.sub_self] at h
      exact h
     go_wp2
     obtain ⟨_, m1, _, mb, _⟩ := HST.out
     exact bodyPost_ret (results_cell_row rfl _ _ (w.heap.size + 1) 76 #[.int .u8 0, .int .i64 (bl : Nat), .int .i64 (bd : Nat)] (0, 0) _ rfl (three_set m1) Tryz.underlying76 rfl info_tokf) rfl ⟨by rw [HFIN.out], ((mb.setCell (Nat.le_succ _) _).setCell (Nat.le_succ _) _).setCell (Nat.le_succ _) _⟩
end Go.Proofs.YtmkeicfklbepnaaGreat
