/-
  A stable sort of items: the order's ranks; tree.Sort.
  A stable sort of items: what compares; slices.SortStableFunc; tree.Sort.
  Trees: what is sorted stays so.
  Trees: one over another (mathematics).
-/
import Derived.Test.YtmeapijckncoeaaGreatDoorIsF
import Derived.Test.YtmeapijckncoeaaGreatDoorPkAA
import Derived.Test.YtmeapijckncoeaaGreatDoorPkAC
import Derived.Test.YtmeapijckncoeaaGreatDoorPkBA

namespace Go.Proofs.YtmeapijckncoeaaGreatDoor
set_option maxRecDepth 100000
set_option linter.unusedSimpArgs false
set_option linter.unusedVariables false
open Go.RowKit Go.Joins Go.Deep
/-- The items of a list, by place. -/
def atL (l : List Itm) (i : Nat) : Itm := l[i]?.getD default
/-- Does the item at i stand ahead of that at j: by path, then by place? -/
def ahd (l : List Itm) (i j : Nat) : Bool := decide (ordT (atL l i).s (atL l j).s < 0 ∨ (ordT (atL l i).s (atL l j).s = 0 ∧ i < j))
/-- Its rank: how many stand ahead. -/
def rnk (l : List Itm) (i : Nat) : Nat := ((List.range l.length).filter fun j => ahd l j i).length
theorem ahd_irr (l : List Itm) (i : Nat) : ahd l i i = false := by
  refine decide_eq_false ?_
  rintro (h | h)
  · have := ordL_self (nums (atL l i).s)
    unfold ordT at h
    omega
  · omega
theorem ahd_trans {l : List Itm} {i j k : Nat} (h1 : ahd l i j = true) (h2 : ahd l j k = true) : ahd l i k = true := by
  have h1 := of_decide_eq_true h1
  have h2 := of_decide_eq_true h2
  refine decide_eq_true ?_
  unfold ordT at *
  generalize nums (atL l i).s = a at *
  generalize nums (atL l j).s = b at *
  generalize nums (atL l k).s = c at *
  have t1 := ordL_trans a b c
  have z1 := ordL_zero a b
  have z2 := ordL_zero b c
  have z3 := ordL_zero a c
  rcases h1 with h1 | ⟨h1, h1'⟩
  · rcases h2 with h2 | ⟨h2, h2'⟩
    · have h3 := t1 (by omega) (by omega)
      by_cases e : ordL a c = 0
      · obtain rfl := z3.1 e
        have := ordL_neg a b
        omega
      · left; omega
    · obtain rfl := z2.1 h2
      left; exact h1
  · obtain rfl := z1.1 h1
    rcases h2 with h2 | ⟨h2, h2'⟩
    · left; exact h2
    · right; exact ⟨h2, by omega⟩
theorem ahd_total {l : List Itm} {i j : Nat} (h : i ≠ j) : ahd l i j = true ∨ ahd l j i = true := by
  have n := ordL_neg (nums (atL l i).s) (nums (atL l j).s)
  rcases ordL_three (nums (atL l i).s) (nums (atL l j).s) with h3 | h3 | h3
  · left; exact decide_eq_true (.inl (by unfold ordT; omega))
  · rcases Nat.lt_or_gt_of_ne h with h4 | h4
    · left; exact decide_eq_true (.inr ⟨h3, h4⟩)
    · right; exact decide_eq_true (.inr ⟨by unfold ordT; omega, h4⟩)
  · right; exact decide_eq_true (.inl (by unfold ordT; omega))
theorem filter_le {α : Type} (p q : α → Bool) : ∀ (R : List α), (∀ x ∈ R, p x = true → q x = true) → (R.filter p).length ≤ (R.filter q).length
  | [], _ => Nat.le_refl _
  | x :: R, h => by
    have ih := filter_le p q R fun y hy => h y (by simp [hy])
    have hx := h x (by simp)
    by_cases hp : p x = true
    · rw [List.filter_cons_of_pos hp, List.filter_cons_of_pos (hx hp)]; simp; exact ih
    · rw [List.filter_cons_of_neg hp]
      by_cases hq : q x = true
      · rw [List.filter_cons_of_pos hq]; simp; omega
      · rw [List.filter_cons_of_neg hq]; exact ih
theorem filter_lt {α : Type} (p q : α → Bool) : ∀ (R : List α), (∀ x ∈ R, p x = true → q x = true) → (∃ x ∈ R, q x = true ∧ p x = false) → (R.filter p).length < (R.filter q).length
  | [], _, h => by obtain ⟨x, hx, _⟩ := h; cases hx
  | x :: R, h, hw => by
    have hx := h x (by simp)
    obtain ⟨y, hy, hqy, hpy⟩ := hw
    rcases List.mem_cons.1 hy with rfl | hy
    · have := filter_le p q R fun z hz => h z (by simp [hz])
      rw [List.filter_cons_of_neg (by rw [hpy]; simp), List.filter_cons_of_pos hqy]
      simp
      omega
    · have ih := filter_lt p q R (fun z hz => h z (by simp [hz])) ⟨y, hy, hqy, hpy⟩
      by_cases hp : p x = true
      · rw [List.filter_cons_of_pos hp, List.filter_cons_of_pos (hx hp)]; simp; exact ih
      · rw [List.filter_cons_of_neg hp]
        by_cases hq : q x = true
        · rw [List.filter_cons_of_pos hq]; simp; omega
        · rw [List.filter_cons_of_neg hq]; exact ih
theorem rnk_lt {l : List Itm} {i j : Nat} (hi : i < l.length) (h : ahd l i j = true) : rnk l i < rnk l j :=
  filter_lt _ _ _ (fun x _ hx => ahd_trans hx h) ⟨i, List.mem_range.2 hi, h, ahd_irr l i⟩
theorem rnk_iff {l : List Itm} {i j : Nat} (hi : i < l.length) (hj : j < l.length) : rnk l i < rnk l j ↔ ahd l i j = true := by
  refine ⟨fun h => ?_, rnk_lt hi⟩
  by_cases e : i = j
  · subst e; omega
  · rcases ahd_total (l := l) e with k | k
    · exact k
    · have := rnk_lt hj k
      omega
theorem rnk_inj {l : List Itm} {i j : Nat} (hi : i < l.length) (hj : j < l.length) (h : rnk l i = rnk l j) : i = j := by
  by_cases e : i = j
  · exact e
  · rcases ahd_total (l := l) e with k | k
    · have := rnk_lt hi k; omega
    · have := rnk_lt hj k; omega
/-- The places in order. -/
def idxI (l : List Itm) : List Nat := (List.range l.length).mergeSort fun i j => decide (rnk l i ≤ rnk l j)
/-- The items in order. -/
def sortI (l : List Itm) : List Itm := (idxI l).map (atL l)
theorem idxI_perm (l : List Itm) : (idxI l).Perm (List.range l.length) := List.mergeSort_perm _ _
theorem idxI_pw (l : List Itm) : (idxI l).Pairwise (fun a b => rnk l a ≤ rnk l b) := by
  have h := List.pairwise_mergeSort (le := fun i j => decide (rnk l i ≤ rnk l j)) (fun a b c h1 h2 => decide_eq_true (Nat.le_trans (of_decide_eq_true h1) (of_decide_eq_true h2))) (fun a b => by
    rcases Nat.le_total (rnk l a) (rnk l b) with h | h
    · simp [h]
    · simp [h]) (List.range l.length)
  exact h.imp fun h => of_decide_eq_true h
end Go.Proofs.YtmeapijckncoeaaGreatDoor

namespace Go.Proofs.YtmeapijckncoeaaGreatDoor.Is
set_option maxRecDepth 100000
set_option linter.unusedSimpArgs false
set_option linter.unusedVariables false
open Go.RowKit Go.Joins Go.Deep
theorem fix_perm : ∀ (g : Nat → Nat) (S T : List Nat), (∀ x ∈ S, ∀ y ∈ S, g x = g y → x = y) → S.Pairwise (fun a b => g a ≤ g b) → T.Pairwise (fun a b => g a ≤ g b) → S.Perm T → S = T
  | g, [], T, _, _, _, hp => (List.nil_perm.1 hp).symm
  | g, x :: S, T, hi, hs, ht, hp => by
    match T, ht, hp with
    | [], _, hp => exact absurd hp.length_eq (by simp)
    | y :: T, ht, hp =>
      rw [List.pairwise_cons] at hs ht
      have hxm : x ∈ y :: T := hp.mem_iff.1 (by simp)
      have hym : y ∈ x :: S := hp.mem_iff.2 (by simp)
      have h1 : g y ≤ g x := by
        rcases List.mem_cons.1 hxm with h | h
        · rw [h]; exact Nat.le_refl _
        · exact ht.1 x h
      have h2 : g x ≤ g y := by
        rcases List.mem_cons.1 hym with h | h
        · rw [h]; exact Nat.le_refl _
        · exact hs.1 y h
      have h3 : x = y := hi x (by simp) y hym (by omega)
      subst h3
      rw [fix_perm g S T (fun a ha b hb => hi a (by simp [ha]) b (by simp [hb])) hs.2 ht.2 (List.Perm.cons_inv hp)]
theorem srt_pw (g : Nat → Nat) (S : List Nat) (hs : SrtOn g 0 S.length S) : S.Pairwise (fun a b => g a ≤ g b) := by
  rw [List.pairwise_iff_getElem]
  intro i j hi hj hij
  have := hs i j (Nat.zero_le _) (by omega) hj
  rw [at0, at0, List.getElem?_eq_getElem hi, List.getElem?_eq_getElem hj] at this
  simpa using this

theorem idx_get (l : List Itm) : (List.range l.length).map (atL l) = l := by
  apply List.ext_getElem?
  intro i
  by_cases h : i < l.length
  · rw [List.getElem?_map, List.getElem?_range h, List.getElem?_eq_getElem h]
    simp [atL, List.getElem?_eq_getElem h]
  · rw [List.getElem?_eq_none (by simp; omega), List.getElem?_eq_none (by omega)]
theorem at0_range (m p : Nat) (h : p < m) : at0 (List.range m) p = p := by simp [at0, List.getElem?_range h]
/-- Whatever is sorted by the ranks is the list in order. -/
theorem srt_unique (l : List Itm) (S : List Nat) (hp : S.Perm (List.range l.length)) (hs : SrtOn (rnk l) 0 l.length S) : S.map (atL l) = sortI l := by
  unfold sortI
  congr 1
  have hl : S.length = l.length := by rw [hp.length_eq, List.length_range]
  refine fix_perm (rnk l) S (idxI l) (fun x hx y hy h => ?_) (srt_pw _ _ (by rw [hl]; exact hs)) (idxI_pw l) (hp.trans (idxI_perm l).symm)
  have h1 := List.mem_range.1 (hp.mem_iff.1 hx)
  have h2 := List.mem_range.1 (hp.mem_iff.1 hy)
  exact rnk_inj h1 h2 h
set_option maxHeartbeats 4000000 in
theorem sortC_any (X Y : Itm) (w : World) (hX : X.s.size ≤ 4611686018427387904) : Calls Tryz.prog 44 #[.agg X.cells, .agg Y.cells] w fun e w' => e = .returned (.int .i64 (ordT X.s Y.s)) ∧ Below w.heap.size w w' := by
  have hir := info_item
  have hb1 := (Below.refl w.heap.size w).alloc (Nat.le_refl _) (.cells X.cells 42)
  have hx1 := heap_alloc_new w (.cells X.cells 42)
  have hb2 := (Below.refl _ (w.alloc (.cells X.cells 42))).alloc (Nat.le_refl _) (.cells Y.cells 42)
  have hx2 := heap_alloc_new (w.alloc (.cells X.cells 42)) (.cells Y.cells 42)
  rw [show (w.alloc (.cells X.cells 42)).heap.size = w.heap.size + 1 from by simp only [World.alloc, Array.size_push]] at hx2 hb2
  have hy1 := (hb2.block _ (Nat.lt_succ_self _)).trans hx1
  have HB := Lib.hid (hb1.trans (hb2.mono (Nat.le_succ _)))
  have HO := Lib.hid (fun w => order_any X.s Y.s w hX)
  obtain ⟨x0, x1, x2, x3, x4, x5, x6, x7⟩ := X
  obtain ⟨y0, y1, y2, y3, y4, y5, y6, y7⟩ := Y
  simp only [Itm.cells] at hx2 hy1 HB
  dsimp only at HO
  have z0 := (cell_of_row _ _ 0 _ _ _ hy1).trans (show _ = some (Value.string x0) from rfl)
  have z1 := (cell_of_row _ _ 0 _ _ _ hx2).trans (show _ = some (Value.string y0) from rfl)
  simp only [Itm.cells]
  clear hb1 hx1 hb2 hx2 hy1 hX
  go_enter Tryz.func44, Tryz.ntmps44
  go_upto_region 1 with fail
  generalize hgg : w.heap.size = g at *
  generalize (w.alloc (.cells #[.string x0, .int .i64 x1, .int .u32 x2, .int .u32 x3, .int .u32 x4, .int .i64 x5, .int .i64 x6, .string x7] 42)).alloc (.cells #[.string y0, .int .i64 y1, .int .u32 y2, .int .u32 y3, .int .u32 y4, .int .i64 y5, .int .i64 y6, .string y7] 42) = w2 at *
  go_wp2_with fail
  refine (HO.out w2).mono ?_; rintro e w3 ⟨rfl, d, rfl⟩
  go_wp2_with fail
  go_ret
  exact ⟨rfl, by subst hgg; exact below_drewN HB.out d⟩
theorem cmp_ok (l : List Itm) (w : World) (gd : Nat) (hs : ∀ x ∈ l, x.s.size ≤ 1000000) : CmpOk (atL l) w gd 0 l.length (rnk l) := by
  refine ⟨fun a b => ordT (atL l a).s (atL l b).s, fun a b ha hb hba => ?_, fun w1 _ a b ha hb => sortC_any _ _ w1 ?_⟩
  · rw [rnk_iff ha hb]
    constructor
    · intro h; exact decide_eq_true (.inl h)
    · intro h
      rcases of_decide_eq_true h with h | ⟨_, h⟩
      · exact h
      · omega
  · have := hs (atL l a) (by unfold atL; rw [List.getElem?_eq_getElem ha]; exact List.getElem_mem ha)
    omega
theorem insI_nil (A : Option Addr) (c : Nat) (w : World) :
    Calls Tryz.prog 84 #[.slice A 0 c, .int .i64 0, .int .i64 0, .func (.func 44) #[] #[]] w fun e w' => e = .returned (.tuple #[]) ∧ w' = w := by
  go_enter Tryz.func84, Tryz.ntmps84
  go_wp2_with fail
  refine wp_loop_rounds 1 ?_
  rw [rounds_succ]
  go_wp2_with fail
  go_end0
  exact ⟨rfl, rfl⟩
theorem stabI_nil (A : Option Addr) (c : Nat) (w : World) :
    Calls Tryz.prog 62 #[.slice A 0 c, .int .i64 0, .func (.func 44) #[] #[]] w fun e w' => e = .returned (.tuple #[]) ∧ w' = w := by
  have H := Lib.hid (insI_nil A c w)
  go_enter Tryz.func62, Tryz.ntmps62
  go_wp2_with fail
  refine wp_loop_rounds 1 ?_
  rw [rounds_succ]
  go_wp2_with fail
  refine H.out.mono ?_; rintro e w1 ⟨rfl, rfl⟩
  go_wp2_with fail
  refine wp_loop_rounds 1 ?_
  rw [rounds_succ]
  go_wp2_with fail
  go_end0
  exact ⟨rfl, rfl⟩
theorem sortN_nil (A : Option Addr) (c : Nat) (w : World) :
    Calls Tryz.prog 43 #[.slice A 0 c, .func (.func 44) #[] #[]] w fun e w' => e = .returned (.tuple #[]) ∧ w' = w := by
  have H := Lib.hid (stabI_nil A c w)
  go_enter Tryz.func43, Tryz.ntmps43
  go_wp2_with fail
  refine H.out.mono ?_; rintro e w1 ⟨rfl, rfl⟩
  go_wp2_with fail
  go_end0
  exact ⟨rfl, rfl⟩
end Go.Proofs.YtmeapijckncoeaaGreatDoor.Is
namespace Go.Proofs.YtmeapijckncoeaaGreatDoor
open Go.RowKit Go.Joins Go.Deep
theorem sortI_nil : sortI [] = [] := List.eq_nil_of_length_eq_zero (by
  unfold sortI
  rw [List.length_map, (idxI_perm []).length_eq]
  rfl)
theorem sortI_len (l : List Itm) : (sortI l).length = l.length := by
  unfold sortI
  rw [List.length_map, (idxI_perm l).length_eq, List.length_range]
set_option maxHeartbeats 4000000 in
theorem tsortB_any (A : Option Addr) (c : Nat) (l : List Itm) (w : World) (hR : Itms w A l) (hl : l.length ≤ 1000000) (hs : ∀ x ∈ l, x.s.size ≤ 1000000) :
    Calls Tryz.prog 19 #[.slice A l.length c] w fun e w' => ∃ A' c', e = .returned (.slice A' l.length c') ∧ NewI w' w.heap.size A' (sortI l) ∧ Below w.heap.size w w' := by
  have HC := Lib.hid (cloneI_any A c l w hR (by omega))
  have HS := Lib.hid hs
  clear hR hs
  go_enter Tryz.func19, Tryz.ntmps19
  go_wp2_with fail
  refine HC.out.mono ?_; rintro e w1 ⟨A1, c1, rfl, hc1, hN, hb1⟩
  have HB1 := Lib.hid hb1
  clear hb1 HC
  rcases hN with rfl | ⟨g, rfl, hgB, hIO⟩
  · have H := Lib.hid (Is.sortN_nil A1 c1 w1)
    go_wp2_with fail
    refine H.out.mono ?_; rintro e w2 ⟨rfl, rfl⟩
    go_wp2_with fail
    go_ret
    exact ⟨A1, c1, rfl, .inl sortI_nil, HB1.out⟩
  · have H := Lib.hid (Is.sort_any (atL l) 0 g l.length c1 0 l.length (rnk l) (List.range l.length) w1 ⟨List.length_range, by rw [Is.idx_get]; exact hIO⟩ (fun x hx => List.mem_range.1 hx) (Is.cmp_ok l w1 g HS.out) hl (fun p q h1 h2 => by rw [Is.at0_range _ _ (by omega), Is.at0_range _ _ h2]; exact h1) (fun _ => Is.sym_ok (atL l) 0 g l.length c1 0 l.length (rnk l) hl))
    clear hIO
    go_wp2_with fail
    refine H.out.mono ?_; rintro e w2 ⟨rfl, S', ⟨hsl, hio⟩, hmv, hsr, hg⟩
    have HB2 := Lib.hid (HB1.out.grown hg HB1.out.size (fun k hk => by injection hk with hk; subst hk; exact hgB))
    have HIO := Lib.hid hio
    have HEQ : Hid (S'.map (atL l) = sortI l) := Is.srt_unique l S' hmv.perm hsr
    clear hio hg hmv hsr H
    go_wp2_with fail
    go_ret
    exact ⟨_, c1, rfl, .inr ⟨g, rfl, hgB, by rw [← HEQ.out]; exact HIO.out⟩, HB2.out⟩
theorem tsort_any (A : Option Addr) (c : Nat) (l : List Itm) (w : World) (hR : Itms w A l) (hl : l.length ≤ 1000) (hs : ∀ x ∈ l, x.s.size ≤ 1000000) :
    Calls Tryz.prog 19 #[.slice A l.length c] w fun e w' => ∃ A' c', e = .returned (.slice A' l.length c') ∧ NewI w' w.heap.size A' (sortI l) ∧ Below w.heap.size w w' := tsortB_any A c l w hR (by omega) hs
end Go.Proofs.YtmeapijckncoeaaGreatDoor

namespace Go.Proofs.YtmeapijckncoeaaGreatDoor
set_option maxRecDepth 100000
set_option linter.unusedSimpArgs false
set_option linter.unusedVariables false
open Go.RowKit Go.Joins Go.Deep
theorem sortI_get (l : List Itm) (p : Nat) (h : p < l.length) : ∃ i, i < l.length ∧ (idxI l)[p]? = some i ∧ atL (sortI l) p = atL l i := by
  have hp : p < (idxI l).length := by rw [(idxI_perm l).length_eq, List.length_range]; exact h
  refine ⟨(idxI l)[p], ?_, List.getElem?_eq_getElem hp, ?_⟩
  · exact List.mem_range.1 ((idxI_perm l).mem_iff.1 (List.getElem_mem hp))
  · show (sortI l)[p]?.getD default = _
    unfold sortI
    rw [List.getElem?_map, List.getElem?_eq_getElem hp]
    rfl
theorem sortI_ord (l : List Itm) (p q : Nat) (hpq : p < q) (hq : q < l.length) : ordT (atL (sortI l) p).s (atL (sortI l) q).s ≤ 0 := by
  obtain ⟨i, hi, hip, ei⟩ := sortI_get l p (by omega)
  obtain ⟨j, hj, hjq, ej⟩ := sortI_get l q hq
  rw [ei, ej]
  obtain ⟨hpl, hip⟩ := List.getElem?_eq_some_iff.1 hip
  obtain ⟨hql, hjq⟩ := List.getElem?_eq_some_iff.1 hjq
  have hle := List.pairwise_iff_getElem.1 (idxI_pw l) p q hpl hql hpq
  have hne : i ≠ j := by
    have hnd : (idxI l).Nodup := (idxI_perm l).nodup_iff.2 List.nodup_range
    have := List.pairwise_iff_getElem.1 hnd p q hpl hql hpq
    rw [hip, hjq] at this
    exact this
  rw [hip, hjq] at hle
  have hlt : rnk l i < rnk l j := by
    rcases Nat.lt_or_ge (rnk l i) (rnk l j) with h | h
    · exact h
    · exact absurd (rnk_inj hi hj (by omega)) hne
  have := of_decide_eq_true ((rnk_iff hi hj).1 hlt)
  omega
theorem sortI_sort (l : List Itm) : sortI (sortI l) = sortI l := by
  have hlen := sortI_len l
  have h := Is.srt_unique (sortI l) (List.range (sortI l).length) (List.Perm.refl _) ?_
  · rw [Is.idx_get] at h
    exact h.symm
  · intro p q h1 h2 h3
    rw [Is.at0_range _ _ (by omega), Is.at0_range _ _ (by omega)]
    by_cases e : p = q
    · subst e
      exact Nat.le_refl _
    refine Nat.le_of_lt ((rnk_iff (by omega) (by omega)).2 ?_)
    refine decide_eq_true ?_
    have := sortI_ord l p q (by omega) (by omega)
    omega
theorem sortI_mem (l : List Itm) (x : Itm) (h : x ∈ sortI l) : x ∈ l := by
  unfold sortI at h
  obtain ⟨i, hi, rfl⟩ := List.mem_map.1 h
  have hi := List.mem_range.1 ((idxI_perm l).mem_iff.1 hi)
  show l[i]?.getD default ∈ l
  rw [List.getElem?_eq_getElem hi]
  exact List.getElem_mem hi
end Go.Proofs.YtmeapijckncoeaaGreatDoor

namespace Go.Proofs.YtmeapijckncoeaaGreatDoor
set_option maxRecDepth 100000
set_option linter.unusedSimpArgs false
set_option linter.unusedVariables false
open Go.RowKit Go.Joins Go.Deep
open Go.Lib hiding intOf
theorem sortI_perm (l : List Itm) : (sortI l).Perm l := by
  have h := (idxI_perm l).map (atL l)
  rw [Is.idx_get] at h
  exact h
theorem ordT_self (a : ByteArray) : ordT a a = 0 := ordL_self _
theorem sortI_pw (l : List Itm) : (sortI l).Pairwise (fun a b => ordT a.s b.s ≤ 0) := by
  refine List.pairwise_iff_getElem.2 fun i j hi hj hij => ?_
  have h := sortI_ord l i j hij (by rw [← sortI_len]; exact hj)
  have e1 : atL (sortI l) i = (sortI l)[i] := by show (sortI l)[i]?.getD default = _; rw [List.getElem?_eq_getElem hi]; rfl
  have e2 : atL (sortI l) j = (sortI l)[j] := by show (sortI l)[j]?.getD default = _; rw [List.getElem?_eq_getElem hj]; rfl
  rw [e1, e2] at h
  exact h
/-- In strict order, one of a path alone. -/
theorem pw_one {m : List Itm} (hs : m.Pairwise (fun a b => ordT a.s b.s < 0)) {a b : Itm} (ha : a ∈ m) (hb : b ∈ m) (h : ordT a.s b.s = 0) : a = b := by
  obtain ⟨i, hi, rfl⟩ := List.getElem_of_mem ha
  obtain ⟨j, hj, rfl⟩ := List.getElem_of_mem hb
  rcases Nat.lt_trichotomy i j with h1 | h1 | h1
  · have := List.pairwise_iff_getElem.1 hs i j hi hj h1
    omega
  · subst h1
    rfl
  · have := List.pairwise_iff_getElem.1 hs j i hj hi h1
    rw [ordT_neg] at this
    omega
theorem eq_of_perm {α : Type} (r : α → α → Prop) : ∀ (l m : List α), (∀ a b, a ∈ m → b ∈ m → r a b → r b a → a = b) → l.Pairwise r → m.Pairwise r → l.Perm m → l = m
  | [], m, _, _, _, hp => (List.Perm.nil_eq hp)
  | a :: l, [], _, _, _, hp => by cases (List.Perm.eq_nil hp)
  | a :: l, b :: m, ha, h1, h2, hp => by
    rw [List.pairwise_cons] at h1 h2
    have hab : a = b := by
      have ha1 : a ∈ b :: m := hp.mem_iff.1 (List.mem_cons_self)
      have hb1 : b ∈ a :: l := hp.mem_iff.2 (List.mem_cons_self)
      rcases List.mem_cons.1 ha1 with e | e
      · exact e
      rcases List.mem_cons.1 hb1 with e2 | e2
      · exact e2.symm
      · exact ha a b ha1 (List.mem_cons_self) (h1.1 b e2) (h2.1 a e)
    subst hab
    rw [eq_of_perm r l m (fun x y hx hy => ha x y (List.mem_cons_of_mem _ hx) (List.mem_cons_of_mem _ hy)) h1.2 h2.2 hp.cons_inv]
theorem sortI_of {l m : List Itm} (hp : m.Perm l) (hs : m.Pairwise (fun a b => ordT a.s b.s < 0)) : sortI l = m := by
  refine eq_of_perm (fun a b => ordT a.s b.s ≤ 0) _ _ (fun a b ha hb h1 h2 => ?_) (sortI_pw l) (hs.imp fun h => Int.le_of_lt h) ((sortI_perm l).trans hp.symm)
  refine pw_one hs ha hb ?_
  rw [ordT_neg] at h2
  omega
/-- Has a tree a path? -/
def hasP (u : List Itm) (p : ByteArray) : Bool := u.any fun y => y.s.toList == p.toList
def leftL (t u : List Itm) : List Itm := t.filter fun x => !(hasP u x.s)
/-- One tree over another one. -/
def ovrL (t u : List Itm) : List Itm := sortI (leftL t u ++ u)
theorem ord_zero {a b : ByteArray} (h : ordT a b = 0) : a = b := toList_inj' (by
  have h := (ordL_zero _ _).1 h
  rw [Lib.toList_data, Lib.toList_data]
  exact (List.map_inj_right (fun x y h => UInt8.toNat_inj.1 h)).1 h)
theorem hasP_iff {u : List Itm} {p : ByteArray} : hasP u p = true ↔ ∃ y ∈ u, y.s = p := by
  unfold hasP
  rw [List.any_eq_true]
  constructor
  · rintro ⟨y, hy, h⟩
    exact ⟨y, hy, toList_inj' (eq_of_beq h)⟩
  · rintro ⟨y, hy, h⟩
    exact ⟨y, hy, by rw [h]; simp⟩
theorem ovr_ne {t u : List Itm} (ht : t.Pairwise (fun a b => ordT a.s b.s < 0)) (hu : u.Pairwise (fun a b => ordT a.s b.s < 0)) : (leftL t u ++ u).Pairwise (fun a b => ordT a.s b.s ≠ 0) := by
  rw [List.pairwise_append]
  refine ⟨((ht.sublist List.filter_sublist).imp fun h => by omega), hu.imp fun h => by omega, fun a ha b hb h => ?_⟩
  have h1 := (List.mem_filter.1 ha).2
  have h2 : hasP u a.s = true := hasP_iff.2 ⟨b, hb, (ord_zero h).symm⟩
  rw [h2] at h1
  cases h1
theorem ovr_pw {t u : List Itm} (ht : t.Pairwise (fun a b => ordT a.s b.s < 0)) (hu : u.Pairwise (fun a b => ordT a.s b.s < 0)) : (ovrL t u).Pairwise (fun a b => ordT a.s b.s < 0) := by
  have h1 : (ovrL t u).Pairwise (fun a b => ordT a.s b.s ≠ 0) := ((sortI_perm (leftL t u ++ u)).pairwise_iff (fun h k => h (by rw [ordT_neg]; omega))).2 (ovr_ne ht hu)
  have h2 : (ovrL t u).Pairwise (fun a b => ordT a.s b.s ≤ 0) := sortI_pw (leftL t u ++ u)
  refine List.pairwise_iff_getElem.2 fun i j hi hj hij => ?_
  have a := List.pairwise_iff_getElem.1 h1 i j hi hj hij
  have b := List.pairwise_iff_getElem.1 h2 i j hi hj hij
  omega
theorem ovr_mem {t u : List Itm} {x : Itm} : x ∈ ovrL t u ↔ (x ∈ t ∧ hasP u x.s = false) ∨ x ∈ u := by
  unfold ovrL
  rw [(sortI_perm _).mem_iff, List.mem_append]
  unfold leftL
  rw [List.mem_filter]
  simp
theorem ovr_ovr {t u : List Itm} (ht : t.Pairwise (fun a b => ordT a.s b.s < 0)) (hu : u.Pairwise (fun a b => ordT a.s b.s < 0)) : ovrL (ovrL t u) u = ovrL t u := by
  refine sortI_of (l := leftL (ovrL t u) u ++ u) ?_ (ovr_pw ht hu)
  have h1 : (ovrL t u).Perm (leftL t u ++ u) := sortI_perm _
  have h2 : (leftL (ovrL t u) u).Perm (leftL (leftL t u ++ u) u) := h1.filter _
  have h3 : leftL (leftL t u ++ u) u = leftL t u := by
    unfold leftL
    rw [List.filter_append, List.filter_filter]
    have e1 : (List.filter (fun x => !(hasP u x.s)) u) = [] := List.filter_eq_nil_iff.2 fun x hx h => by
      rw [hasP_iff.2 ⟨x, hx, rfl⟩] at h
      cases h
    rw [e1, List.append_nil]
    simp
  rw [h3] at h2
  exact h1.trans (List.Perm.append_right _ h2.symm)
theorem ovr_nil {t : List Itm} (ht : t.Pairwise (fun a b => ordT a.s b.s < 0)) : ovrL t [] = t := by
  refine sortI_of (l := leftL t [] ++ []) ?_ ht
  rw [List.append_nil]
  have : leftL t [] = t := List.filter_eq_self.2 fun x _ => rfl
  rw [this]
def fndQ (l : List Itm) (p : ByteArray) : Option Itm := l.find? fun X => X.s.toList == p.toList
theorem fnd_self {m : List Itm} (hs : m.Pairwise (fun a b => ordT a.s b.s < 0)) {x : Itm} (hx : x ∈ m) : fndQ m x.s = some x := by
  cases h : fndQ m x.s with
  | none =>
    have := List.find?_eq_none.1 h x hx
    simp at this
  | some y =>
    have h1 := List.find?_some h
    have h2 := List.mem_of_find?_eq_some h
    have h3 : y.s = x.s := toList_inj' (eq_of_beq h1)
    rw [pw_one hs h2 hx (by rw [h3]; exact ordT_self _)]
theorem fnd_none {u : List Itm} {p : ByteArray} (h : hasP u p = false) : fndQ u p = none := List.find?_eq_none.2 fun x hx k => by
  have := (hasP_iff (u := u) (p := p)).2 ⟨x, hx, toList_inj' (eq_of_beq k)⟩
  rw [this] at h
  cases h
theorem ovr_find {t u : List Itm} (ht : t.Pairwise (fun a b => ordT a.s b.s < 0)) (hu : u.Pairwise (fun a b => ordT a.s b.s < 0)) {x : Itm} (hx : x ∈ ovrL t u) : fndQ u x.s = some x ∨ (fndQ u x.s = none ∧ fndQ t x.s = some x) := by
  rcases ovr_mem.1 hx with ⟨h1, h2⟩ | h
  · exact .inr ⟨fnd_none h2, fnd_self ht h1⟩
  · exact .inl (fnd_self hu h)
theorem ovr_has {t u : List Itm} {x : Itm} (hx : x ∈ t ++ u) : ∃ y, fndQ (ovrL t u) x.s = some y := by
  have h : hasP (ovrL t u) x.s = true := by
    rcases List.mem_append.1 hx with h | h
    · cases e : hasP u x.s with
      | false => exact hasP_iff.2 ⟨x, ovr_mem.2 (.inl ⟨h, e⟩), rfl⟩
      | true =>
        obtain ⟨y, hy, e2⟩ := hasP_iff.1 e
        exact hasP_iff.2 ⟨y, ovr_mem.2 (.inr hy), e2⟩
    · exact hasP_iff.2 ⟨x, ovr_mem.2 (.inr h), rfl⟩
  cases e : fndQ (ovrL t u) x.s with
  | some y => exact ⟨y, rfl⟩
  | none =>
    obtain ⟨y, hy, e2⟩ := hasP_iff.1 h
    have := List.find?_eq_none.1 e y hy
    rw [e2] at this
    simp at this
end Go.Proofs.YtmeapijckncoeaaGreatDoor
