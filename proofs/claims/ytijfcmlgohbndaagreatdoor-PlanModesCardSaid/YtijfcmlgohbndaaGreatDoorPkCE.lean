/-
  A stable sort of items: the order's ranks; tree.Sort.
  A stable sort of items: what compares; slices.SortStableFunc; tree.Sort.
  Trees: what is sorted stays so.
  Trees: one over another (mathematics).
  Items at odds (mathematics): what one pass over the items in order tells is the first place that is at odds with one ahead.
-/
import Derived.Test.YtijfcmlgohbndaaGreatDoorIsF
import Derived.Test.YtijfcmlgohbndaaGreatDoorPkBC
import Derived.Test.YtijfcmlgohbndaaGreatDoorPkAG
import Derived.Test.YtijfcmlgohbndaaGreatDoorPkCC

namespace Go.Proofs.YtijfcmlgohbndaaGreatDoor
set_option maxRecDepth 100000
set_option linter.unusedSimpArgs false
set_option linter.unusedVariables false
open Go.RowKit Go.Joins Go.Deep
/-- The items of a list, by place. -/
def atL (l : List Itm) (i : Nat) : Itm := l[i]?.getD default
/-- Does the item at i stand ahead of that at j: by path, then by place? -/
def ahd (l : List Itm) (i j : Nat) : Bool := decide (ordT (atL l i).s (atL l j).s < 0 ∨ (ordT (atL l i).s (atL l j).s = 0 ∧ i < j))
/-- Its rank: how many stand ahead. -/
def rnk (l : List Itm) (i : Nat) : Nat := ((List.range l.length).filter fun j => ahd l j i).length
theorem ahd_irr (l : List Itm) (i : Nat) : ahd l i i = false := by
  refine decide_eq_false ?_
  rintro (h | h)
  · have := ordL_self (nums (atL l i).s)
    unfold ordT at h
    omega
  · omega
theorem ahd_trans {l : List Itm} {i j k : Nat} (h1 : ahd l i j = true) (h2 : ahd l j k = true) : ahd l i k = true := by
  have h1 := of_decide_eq_true h1
  have h2 := of_decide_eq_true h2
  refine decide_eq_true ?_
  unfold ordT at *
  generalize nums (atL l i).s = a at *
  generalize nums (atL l j).s = b at *
  generalize nums (atL l k).s = c at *
  have t1 := ordL_trans a b c
  have z1 := ordL_zero a b
  have z2 := ordL_zero b c
  have z3 := ordL_zero a c
  rcases h1 with h1 | ⟨h1, h1'⟩
  · rcases h2 with h2 | ⟨h2, h2'⟩
    · have h3 := t1 (by omega) (by omega)
      by_cases e : ordL a c = 0
      · obtain rfl := z3.1 e
        have := ordL_neg a b
        omega
      · left; omega
    · obtain rfl := z2.1 h2
      left; exact h1
  · obtain rfl := z1.1 h1
    rcases h2 with h2 | ⟨h2, h2'⟩
    · left; exact h2
    · right; exact ⟨h2, by omega⟩
theorem ahd_total {l : List Itm} {i j : Nat} (h : i ≠ j) : ahd l i j = true ∨ ahd l j i = true := by
  have n := ordL_neg (nums (atL l i).s) (nums (atL l j).s)
  rcases ordL_three (nums (atL l i).s) (nums (atL l j).s) with h3 | h3 | h3
  · left; exact decide_eq_true (.inl (by unfold ordT; omega))
  · rcases Nat.lt_or_gt_of_ne h with h4 | h4
    · left; exact decide_eq_true (.inr ⟨h3, h4⟩)
    · right; exact decide_eq_true (.inr ⟨by unfold ordT; omega, h4⟩)
  · right; exact decide_eq_true (.inl (by unfold ordT; omega))
theorem filter_le {α : Type} (p q : α → Bool) : ∀ (R : List α), (∀ x ∈ R, p x = true → q x = true) → (R.filter p).length ≤ (R.filter q).length
  | [], _ => Nat.le_refl _
  | x :: R, h => by
    have ih := filter_le p q R fun y hy => h y (by simp [hy])
    have hx := h x (by simp)
    by_cases hp : p x = true
    · rw [List.filter_cons_of_pos hp, List.filter_cons_of_pos (hx hp)]; simp; exact ih
    · rw [List.filter_cons_of_neg hp]
      by_cases hq : q x = true
      · rw [List.filter_cons_of_pos hq]; simp; omega
      · rw [List.filter_cons_of_neg hq]; exact ih
theorem filter_lt {α : Type} (p q : α → Bool) : ∀ (R : List α), (∀ x ∈ R, p x = true → q x = true) → (∃ x ∈ R, q x = true ∧ p x = false) → (R.filter p).length < (R.filter q).length
  | [], _, h => by obtain ⟨x, hx, _⟩ := h; cases hx
  | x :: R, h, hw => by
    have hx := h x (by simp)
    obtain ⟨y, hy, hqy, hpy⟩ := hw
    rcases List.mem_cons.1 hy with rfl | hy
    · have := filter_le p q R fun z hz => h z (by simp [hz])
      rw [List.filter_cons_of_neg (by rw [hpy]; simp), List.filter_cons_of_pos hqy]
      simp
      omega
    · have ih := filter_lt p q R (fun z hz => h z (by simp [hz])) ⟨y, hy, hqy, hpy⟩
      by_cases hp : p x = true
      · rw [List.filter_cons_of_pos hp, List.filter_cons_of_pos (hx hp)]; simp; exact ih
      · rw [List.filter_cons_of_neg hp]
        by_cases hq : q x = true
        · rw [List.filter_cons_of_pos hq]; simp; omega
        · rw [List.filter_cons_of_neg hq]; exact ih
theorem rnk_lt {l : List Itm} {i j : Nat} (hi : i < l.length) (h : ahd l i j = true) : rnk l i < rnk l j :=
  filter_lt _ _ _ (fun x _ hx => ahd_trans hx h) ⟨i, List.mem_range.2 hi, h, ahd_irr l i⟩
theorem rnk_iff {l : List Itm} {i j : Nat} (hi : i < l.length) (hj : j < l.length) : rnk l i < rnk l j ↔ ahd l i j = true := by
  refine ⟨fun h => ?_, rnk_lt hi⟩
  by_cases e : i = j
  · subst e; omega
  · rcases ahd_total (l := l) e with k | k
    · exact k
    · have := rnk_lt hj k
      omega
theorem rnk_inj {l : List Itm} {i j : Nat} (hi : i < l.length) (hj : j < l.length) (h : rnk l i = rnk l j) : i = j := by
  by_cases e : i = j
  · exact e
  · rcases ahd_total (l := l) e with k | k
    · have := rnk_lt hi k; omega
    · have := rnk_lt hj k; omega
/-- The places in order. -/
def idxI (l : List Itm) : List Nat := (List.range l.length).mergeSort fun i j => decide (rnk l i ≤ rnk l j)
/-- The items in order. -/
def sortI (l : List Itm) : List Itm := (idxI l).map (atL l)
theorem idxI_perm (l : List Itm) : (idxI l).Perm (List.range l.length) := List.mergeSort_perm _ _
theorem idxI_pw (l : List Itm) : (idxI l).Pairwise (fun a b => rnk l a ≤ rnk l b) := by
  have h := List.pairwise_mergeSort (le := fun i j => decide (rnk l i ≤ rnk l j)) (fun a b c h1 h2 => decide_eq_true (Nat.le_trans (of_decide_eq_true h1) (of_decide_eq_true h2))) (fun a b => by
    rcases Nat.le_total (rnk l a) (rnk l b) with h | h
    · simp [h]
    · simp [h]) (List.range l.length)
  exact h.imp fun h => of_decide_eq_true h
end Go.Proofs.YtijfcmlgohbndaaGreatDoor

namespace Go.Proofs.YtijfcmlgohbndaaGreatDoor.Is
set_option maxRecDepth 100000
set_option linter.unusedSimpArgs false
set_option linter.unusedVariables false
open Go.RowKit Go.Joins Go.Deep
theorem fix_perm : ∀ (g : Nat → Nat) (S T : List Nat), (∀ x ∈ S, ∀ y ∈ S, g x = g y → x = y) → S.Pairwise (fun a b => g a ≤ g b) → T.Pairwise (fun a b => g a ≤ g b) → S.Perm T → S = T
  | g, [], T, _, _, _, hp => (List.nil_perm.1 hp).symm
  | g, x :: S, T, hi, hs, ht, hp => by
    match T, ht, hp with
    | [], _, hp => exact absurd hp.length_eq (by simp)
    | y :: T, ht, hp =>
      rw [List.pairwise_cons] at hs ht
      have hxm : x ∈ y :: T := hp.mem_iff.1 (by simp)
      have hym : y ∈ x :: S := hp.mem_iff.2 (by simp)
      have h1 : g y ≤ g x := by
        rcases List.mem_cons.1 hxm with h | h
        · rw [h]; exact Nat.le_refl _
        · exact ht.1 x h
      have h2 : g x ≤ g y := by
        rcases List.mem_cons.1 hym with h | h
        · rw [h]; exact Nat.le_refl _
        · exact hs.1 y h
      have h3 : x = y := hi x (by simp) y hym (by omega)
      subst h3
      rw [fix_perm g S T (fun a ha b hb => hi a (by simp [ha]) b (by simp [hb])) hs.2 ht.2 (List.Perm.cons_inv hp)]
theorem srt_pw (g : Nat → Nat) (S : List Nat) (hs : SrtOn g 0 S.length S) : S.Pairwise (fun a b => g a ≤ g b) := by
  rw [List.pairwise_iff_getElem]
  intro i j hi hj hij
  have := hs i j (Nat.zero_le _) (by omega) hj
  rw [at0, at0, List.getElem?_eq_getElem hi, List.getElem?_eq_getElem hj] at this
  simpa using this

theorem idx_get (l : List Itm) : (List.range l.length).map (atL l) = l := by
  apply List.ext_getElem?
  intro i
  by_cases h : i < l.length
  · rw [List.getElem?_map, List.getElem?_range h, List.getElem?_eq_getElem h]
    simp [atL, List.getElem?_eq_getElem h]
  · rw [List.getElem?_eq_none (by simp; omega), List.getElem?_eq_none (by omega)]
theorem at0_range (m p : Nat) (h : p < m) : at0 (List.range m) p = p := by simp [at0, List.getElem?_range h]
/-- Whatever is sorted by the ranks is the list in order. -/
theorem srt_unique (l : List Itm) (S : List Nat) (hp : S.Perm (List.range l.length)) (hs : SrtOn (rnk l) 0 l.length S) : S.map (atL l) = sortI l := by
  unfold sortI
  congr 1
  have hl : S.length = l.length := by rw [hp.length_eq, List.length_range]
  refine fix_perm (rnk l) S (idxI l) (fun x hx y hy h => ?_) (srt_pw _ _ (by rw [hl]; exact hs)) (idxI_pw l) (hp.trans (idxI_perm l).symm)
  have h1 := List.mem_range.1 (hp.mem_iff.1 hx)
  have h2 := List.mem_range.1 (hp.mem_iff.1 hy)
  exact rnk_inj h1 h2 h
end Go.Proofs.YtijfcmlgohbndaaGreatDoor.Is
namespace Go.Proofs.YtijfcmlgohbndaaGreatDoor
open Go.RowKit Go.Joins Go.Deep
theorem sortI_nil : sortI [] = [] := List.eq_nil_of_length_eq_zero (by
  unfold sortI
  rw [List.length_map, (idxI_perm []).length_eq]
  rfl)
theorem sortI_len (l : List Itm) : (sortI l).length = l.length := by
  unfold sortI
  rw [List.length_map, (idxI_perm l).length_eq, List.length_range]
end Go.Proofs.YtijfcmlgohbndaaGreatDoor

namespace Go.Proofs.YtijfcmlgohbndaaGreatDoor
set_option maxRecDepth 100000
set_option linter.unusedSimpArgs false
set_option linter.unusedVariables false
open Go.RowKit Go.Joins Go.Deep
theorem sortI_get (l : List Itm) (p : Nat) (h : p < l.length) : ∃ i, i < l.length ∧ (idxI l)[p]? = some i ∧ atL (sortI l) p = atL l i := by
  have hp : p < (idxI l).length := by rw [(idxI_perm l).length_eq, List.length_range]; exact h
  refine ⟨(idxI l)[p], ?_, List.getElem?_eq_getElem hp, ?_⟩
  · exact List.mem_range.1 ((idxI_perm l).mem_iff.1 (List.getElem_mem hp))
  · show (sortI l)[p]?.getD default = _
    unfold sortI
    rw [List.getElem?_map, List.getElem?_eq_getElem hp]
    rfl
theorem sortI_ord (l : List Itm) (p q : Nat) (hpq : p < q) (hq : q < l.length) : ordT (atL (sortI l) p).s (atL (sortI l) q).s ≤ 0 := by
  obtain ⟨i, hi, hip, ei⟩ := sortI_get l p (by omega)
  obtain ⟨j, hj, hjq, ej⟩ := sortI_get l q hq
  rw [ei, ej]
  obtain ⟨hpl, hip⟩ := List.getElem?_eq_some_iff.1 hip
  obtain ⟨hql, hjq⟩ := List.getElem?_eq_some_iff.1 hjq
  have hle := List.pairwise_iff_getElem.1 (idxI_pw l) p q hpl hql hpq
  have hne : i ≠ j := by
    have hnd : (idxI l).Nodup := (idxI_perm l).nodup_iff.2 List.nodup_range
    have := List.pairwise_iff_getElem.1 hnd p q hpl hql hpq
    rw [hip, hjq] at this
    exact this
  rw [hip, hjq] at hle
  have hlt : rnk l i < rnk l j := by
    rcases Nat.lt_or_ge (rnk l i) (rnk l j) with h | h
    · exact h
    · exact absurd (rnk_inj hi hj (by omega)) hne
  have := of_decide_eq_true ((rnk_iff hi hj).1 hlt)
  omega
theorem sortI_sort (l : List Itm) : sortI (sortI l) = sortI l := by
  have hlen := sortI_len l
  have h := Is.srt_unique (sortI l) (List.range (sortI l).length) (List.Perm.refl _) ?_
  · rw [Is.idx_get] at h
    exact h.symm
  · intro p q h1 h2 h3
    rw [Is.at0_range _ _ (by omega), Is.at0_range _ _ (by omega)]
    by_cases e : p = q
    · subst e
      exact Nat.le_refl _
    refine Nat.le_of_lt ((rnk_iff (by omega) (by omega)).2 ?_)
    refine decide_eq_true ?_
    have := sortI_ord l p q (by omega) (by omega)
    omega
theorem sortI_mem (l : List Itm) (x : Itm) (h : x ∈ sortI l) : x ∈ l := by
  unfold sortI at h
  obtain ⟨i, hi, rfl⟩ := List.mem_map.1 h
  have hi := List.mem_range.1 ((idxI_perm l).mem_iff.1 hi)
  show l[i]?.getD default ∈ l
  rw [List.getElem?_eq_getElem hi]
  exact List.getElem_mem hi
end Go.Proofs.YtijfcmlgohbndaaGreatDoor

namespace Go.Proofs.YtijfcmlgohbndaaGreatDoor
set_option maxRecDepth 100000
set_option linter.unusedSimpArgs false
set_option linter.unusedVariables false
open Go.RowKit Go.Joins Go.Deep
open Go.Lib hiding intOf
theorem sortI_perm (l : List Itm) : (sortI l).Perm l := by
  have h := (idxI_perm l).map (atL l)
  rw [Is.idx_get] at h
  exact h
theorem ordT_self (a : ByteArray) : ordT a a = 0 := ordL_self _
theorem sortI_pw (l : List Itm) : (sortI l).Pairwise (fun a b => ordT a.s b.s ≤ 0) := by
  refine List.pairwise_iff_getElem.2 fun i j hi hj hij => ?_
  have h := sortI_ord l i j hij (by rw [← sortI_len]; exact hj)
  have e1 : atL (sortI l) i = (sortI l)[i] := by show (sortI l)[i]?.getD default = _; rw [List.getElem?_eq_getElem hi]; rfl
  have e2 : atL (sortI l) j = (sortI l)[j] := by show (sortI l)[j]?.getD default = _; rw [List.getElem?_eq_getElem hj]; rfl
  rw [e1, e2] at h
  exact h
/-- In strict order, one of a path alone. -/
theorem pw_one {m : List Itm} (hs : m.Pairwise (fun a b => ordT a.s b.s < 0)) {a b : Itm} (ha : a ∈ m) (hb : b ∈ m) (h : ordT a.s b.s = 0) : a = b := by
  obtain ⟨i, hi, rfl⟩ := List.getElem_of_mem ha
  obtain ⟨j, hj, rfl⟩ := List.getElem_of_mem hb
  rcases Nat.lt_trichotomy i j with h1 | h1 | h1
  · have := List.pairwise_iff_getElem.1 hs i j hi hj h1
    omega
  · subst h1
    rfl
  · have := List.pairwise_iff_getElem.1 hs j i hj hi h1
    rw [ordT_neg] at this
    omega
theorem eq_of_perm {α : Type} (r : α → α → Prop) : ∀ (l m : List α), (∀ a b, a ∈ m → b ∈ m → r a b → r b a → a = b) → l.Pairwise r → m.Pairwise r → l.Perm m → l = m
  | [], m, _, _, _, hp => (List.Perm.nil_eq hp)
  | a :: l, [], _, _, _, hp => by cases (List.Perm.eq_nil hp)
  | a :: l, b :: m, ha, h1, h2, hp => by
    rw [List.pairwise_cons] at h1 h2
    have hab : a = b := by
      have ha1 : a ∈ b :: m := hp.mem_iff.1 (List.mem_cons_self)
      have hb1 : b ∈ a :: l := hp.mem_iff.2 (List.mem_cons_self)
      rcases List.mem_cons.1 ha1 with e | e
      · exact e
      rcases List.mem_cons.1 hb1 with e2 | e2
      · exact e2.symm
      · exact ha a b ha1 (List.mem_cons_self) (h1.1 b e2) (h2.1 a e)
    subst hab
    rw [eq_of_perm r l m (fun x y hx hy => ha x y (List.mem_cons_of_mem _ hx) (List.mem_cons_of_mem _ hy)) h1.2 h2.2 hp.cons_inv]
theorem sortI_of {l m : List Itm} (hp : m.Perm l) (hs : m.Pairwise (fun a b => ordT a.s b.s < 0)) : sortI l = m := by
  refine eq_of_perm (fun a b => ordT a.s b.s ≤ 0) _ _ (fun a b ha hb h1 h2 => ?_) (sortI_pw l) (hs.imp fun h => Int.le_of_lt h) ((sortI_perm l).trans hp.symm)
  refine pw_one hs ha hb ?_
  rw [ordT_neg] at h2
  omega
/-- Has a tree a path? -/
def hasP (u : List Itm) (p : ByteArray) : Bool := u.any fun y => y.s.toList == p.toList
def leftL (t u : List Itm) : List Itm := t.filter fun x => !(hasP u x.s)
/-- One tree over another one. -/
def ovrL (t u : List Itm) : List Itm := sortI (leftL t u ++ u)
theorem ord_zero {a b : ByteArray} (h : ordT a b = 0) : a = b := toList_inj' (by
  have h := (ordL_zero _ _).1 h
  rw [Lib.toList_data, Lib.toList_data]
  exact (List.map_inj_right (fun x y h => UInt8.toNat_inj.1 h)).1 h)
theorem hasP_iff {u : List Itm} {p : ByteArray} : hasP u p = true ↔ ∃ y ∈ u, y.s = p := by
  unfold hasP
  rw [List.any_eq_true]
  constructor
  · rintro ⟨y, hy, h⟩
    exact ⟨y, hy, toList_inj' (eq_of_beq h)⟩
  · rintro ⟨y, hy, h⟩
    exact ⟨y, hy, by rw [h]; simp⟩
theorem ovr_ne {t u : List Itm} (ht : t.Pairwise (fun a b => ordT a.s b.s < 0)) (hu : u.Pairwise (fun a b => ordT a.s b.s < 0)) : (leftL t u ++ u).Pairwise (fun a b => ordT a.s b.s ≠ 0) := by
  rw [List.pairwise_append]
  refine ⟨((ht.sublist List.filter_sublist).imp fun h => by omega), hu.imp fun h => by omega, fun a ha b hb h => ?_⟩
  have h1 := (List.mem_filter.1 ha).2
  have h2 : hasP u a.s = true := hasP_iff.2 ⟨b, hb, (ord_zero h).symm⟩
  rw [h2] at h1
  cases h1
theorem ovr_pw {t u : List Itm} (ht : t.Pairwise (fun a b => ordT a.s b.s < 0)) (hu : u.Pairwise (fun a b => ordT a.s b.s < 0)) : (ovrL t u).Pairwise (fun a b => ordT a.s b.s < 0) := by
  have h1 : (ovrL t u).Pairwise (fun a b => ordT a.s b.s ≠ 0) := ((sortI_perm (leftL t u ++ u)).pairwise_iff (fun h k => h (by rw [ordT_neg]; omega))).2 (ovr_ne ht hu)
  have h2 : (ovrL t u).Pairwise (fun a b => ordT a.s b.s ≤ 0) := sortI_pw (leftL t u ++ u)
  refine List.pairwise_iff_getElem.2 fun i j hi hj hij => ?_
  have a := List.pairwise_iff_getElem.1 h1 i j hi hj hij
  have b := List.pairwise_iff_getElem.1 h2 i j hi hj hij
  omega
theorem ovr_mem {t u : List Itm} {x : Itm} : x ∈ ovrL t u ↔ (x ∈ t ∧ hasP u x.s = false) ∨ x ∈ u := by
  unfold ovrL
  rw [(sortI_perm _).mem_iff, List.mem_append]
  unfold leftL
  rw [List.mem_filter]
  simp
theorem ovr_ovr {t u : List Itm} (ht : t.Pairwise (fun a b => ordT a.s b.s < 0)) (hu : u.Pairwise (fun a b => ordT a.s b.s < 0)) : ovrL (ovrL t u) u = ovrL t u := by
  refine sortI_of (l := leftL (ovrL t u) u ++ u) ?_ (ovr_pw ht hu)
  have h1 : (ovrL t u).Perm (leftL t u ++ u) := sortI_perm _
  have h2 : (leftL (ovrL t u) u).Perm (leftL (leftL t u ++ u) u) := h1.filter _
  have h3 : leftL (leftL t u ++ u) u = leftL t u := by
    unfold leftL
    rw [List.filter_append, List.filter_filter]
    have e1 : (List.filter (fun x => !(hasP u x.s)) u) = [] := List.filter_eq_nil_iff.2 fun x hx h => by
      rw [hasP_iff.2 ⟨x, hx, rfl⟩] at h
      cases h
    rw [e1, List.append_nil]
    simp
  rw [h3] at h2
  exact h1.trans (List.Perm.append_right _ h2.symm)
theorem ovr_nil {t : List Itm} (ht : t.Pairwise (fun a b => ordT a.s b.s < 0)) : ovrL t [] = t := by
  refine sortI_of (l := leftL t [] ++ []) ?_ ht
  rw [List.append_nil]
  have : leftL t [] = t := List.filter_eq_self.2 fun x _ => rfl
  rw [this]
def fndQ (l : List Itm) (p : ByteArray) : Option Itm := l.find? fun X => X.s.toList == p.toList
theorem fnd_self {m : List Itm} (hs : m.Pairwise (fun a b => ordT a.s b.s < 0)) {x : Itm} (hx : x ∈ m) : fndQ m x.s = some x := by
  cases h : fndQ m x.s with
  | none =>
    have := List.find?_eq_none.1 h x hx
    simp at this
  | some y =>
    have h1 := List.find?_some h
    have h2 := List.mem_of_find?_eq_some h
    have h3 : y.s = x.s := toList_inj' (eq_of_beq h1)
    rw [pw_one hs h2 hx (by rw [h3]; exact ordT_self _)]
theorem fnd_none {u : List Itm} {p : ByteArray} (h : hasP u p = false) : fndQ u p = none := List.find?_eq_none.2 fun x hx k => by
  have := (hasP_iff (u := u) (p := p)).2 ⟨x, hx, toList_inj' (eq_of_beq k)⟩
  rw [this] at h
  cases h
theorem ovr_find {t u : List Itm} (ht : t.Pairwise (fun a b => ordT a.s b.s < 0)) (hu : u.Pairwise (fun a b => ordT a.s b.s < 0)) {x : Itm} (hx : x ∈ ovrL t u) : fndQ u x.s = some x ∨ (fndQ u x.s = none ∧ fndQ t x.s = some x) := by
  rcases ovr_mem.1 hx with ⟨h1, h2⟩ | h
  · exact .inr ⟨fnd_none h2, fnd_self ht h1⟩
  · exact .inl (fnd_self hu h)
theorem ovr_has {t u : List Itm} {x : Itm} (hx : x ∈ t ++ u) : ∃ y, fndQ (ovrL t u) x.s = some y := by
  have h : hasP (ovrL t u) x.s = true := by
    rcases List.mem_append.1 hx with h | h
    · cases e : hasP u x.s with
      | false => exact hasP_iff.2 ⟨x, ovr_mem.2 (.inl ⟨h, e⟩), rfl⟩
      | true =>
        obtain ⟨y, hy, e2⟩ := hasP_iff.1 e
        exact hasP_iff.2 ⟨y, ovr_mem.2 (.inr hy), e2⟩
    · exact hasP_iff.2 ⟨x, ovr_mem.2 (.inr h), rfl⟩
  cases e : fndQ (ovrL t u) x.s with
  | some y => exact ⟨y, rfl⟩
  | none =>
    obtain ⟨y, hy, e2⟩ := hasP_iff.1 h
    have := List.find?_eq_none.1 e y hy
    rw [e2] at this
    simp at this
end Go.Proofs.YtijfcmlgohbndaaGreatDoor

namespace Go.Proofs.YtijfcmlgohbndaaGreatDoor
set_option maxRecDepth 100000
set_option linter.unusedSimpArgs false
set_option linter.unusedVariables false
open Go.RowKit Go.Joins Go.Deep
open Go.Lib hiding intOf
/-! ### under -/
def undN (c r : List Nat) : Prop := r = [] ∨ c = r ∨ ∃ s, c = r ++ 47 :: s
theorem numsD (s : ByteArray) : nums s = s.data.toList.map UInt8.toNat := rfl
theorem undB_list (A R : List UInt8) : (Lib.hasPrefix A R && (R.isEmpty || (Lib.trimPrefix A R).isEmpty || Lib.hasPrefix (Lib.trimPrefix A R) [47])) = true ↔ (R = [] ∨ A = R ∨ ∃ s, A = R ++ 47 :: s) := by
  constructor
  · intro h
    rw [Bool.and_eq_true] at h
    obtain ⟨h1, h2⟩ := h
    obtain ⟨u, rfl⟩ := List.isPrefixOf_iff_prefix.1 (show R.isPrefixOf A = true from h1)
    have hp1 : Lib.hasPrefix (R ++ u) R = true := h1
    unfold Lib.trimPrefix at h2
    rw [if_pos hp1, List.drop_left'] at h2
    · cases u with
      | nil => right; left; simp
      | cons x u =>
        simp [Lib.hasPrefix] at h2
        rcases h2 with h2 | h2
        · left; simpa using h2
        · right; right; exact ⟨u, by rw [h2]⟩
    · rfl
  · have key : ∀ u, Lib.hasPrefix (R ++ u) R = true := fun u => by unfold Lib.hasPrefix; exact List.isPrefixOf_iff_prefix.2 ⟨u, rfl⟩
    have tr : ∀ u, Lib.trimPrefix (R ++ u) R = u := fun u => by unfold Lib.trimPrefix; rw [if_pos (key u)]; simp
    rintro (h | h | ⟨s, h⟩)
    · subst h
      have := key A
      have e : Lib.hasPrefix A [] = true := by simpa using (by unfold Lib.hasPrefix; simp : Lib.hasPrefix A [] = true)
      rw [e]
      rfl
    · subst h
      have k := key []
      have t := tr []
      rw [List.append_nil] at k t
      rw [k, t]
      simp
    · subst h
      rw [key, tr]
      simp [Lib.hasPrefix]
theorem und_iff (a r : ByteArray) : undB a r = true ↔ undN (nums a) (nums r) := by
  have inj : ∀ a b : List UInt8, a.map UInt8.toNat = b.map UInt8.toNat → a = b := fun a b h => (List.map_inj_right (fun x y h => UInt8.toNat_inj.1 h)).1 h
  unfold undB
  rw [undB_list, numsD, numsD]
  unfold undN
  constructor
  · rintro (h | h | ⟨s, h⟩)
    · left; rw [h]; rfl
    · right; left; rw [h]
    · right; right; exact ⟨s.map UInt8.toNat, by rw [h, List.map_append, List.map_cons]; rfl⟩
  · rintro (h | h | ⟨s, h⟩)
    · left; exact List.map_eq_nil_iff.1 h
    · right; left; exact inj _ _ h
    · obtain ⟨l1, l2, e, e1, e2⟩ := List.map_eq_append_iff.1 h
      obtain ⟨x, l3, e3, e4, e5⟩ := List.map_eq_cons_iff.1 e2
      right; right
      refine ⟨l3, ?_⟩
      rw [e, e3, inj _ _ e1, show x = 47 from UInt8.toNat_inj.1 e4]
theorem und_refl (a : List Nat) : undN a a := .inr (.inl rfl)
theorem und_trans {x a b : List Nat} (h1 : undN x a) (h2 : undN a b) : undN x b := by
  rcases h2 with h2 | h2 | ⟨s, h2⟩
  · exact .inl h2
  · subst h2; exact h1
  · subst h2
    rcases h1 with h1 | h1 | ⟨u, h1⟩
    · simp at h1
    · exact .inr (.inr ⟨s, h1⟩)
    · exact .inr (.inr ⟨s ++ 47 :: u, by rw [h1]; simp⟩)
theorem und_ord {x a : List Nat} (h : undN x a) : ordL a x ≤ 0 := by
  rcases h with h | h | ⟨s, h⟩
  · subst h
    cases x with
    | nil => exact Int.le_refl _
    | cons _ _ => show (-1 : Int) ≤ 0; decide
  · rw [h, ordL_self]; exact Int.le_refl _
  · rw [h]; exact ordL_prefix _ _
theorem und_mid : ∀ (r b s : List Nat), ordL r b ≤ 0 → ordL b (r ++ 47 :: s) ≤ 0 → undN b r
  | [], _, _, _, _ => .inl rfl
  | x :: r, [], _, h, _ => by simp [ordL] at h
  | x :: r, y :: b, s, h1, h2 => by
    rw [List.cons_append] at h2
    unfold ordL at h1 h2
    have e : x = y := by
      by_cases e : x = y
      · exact e
      · rw [if_neg e] at h1
        rw [if_neg (fun k => e k.symm)] at h2
        have l1 : rk x < rk y := by
          by_cases l : rk x < rk y
          · exact l
          · rw [if_neg l] at h1; omega
        have l2 : rk y < rk x := by
          by_cases l : rk y < rk x
          · exact l
          · rw [if_neg l] at h2; omega
        omega
    subst e
    rw [if_pos rfl] at h1 h2
    cases r with
    | nil =>
      cases b with
      | nil => exact .inr (.inl rfl)
      | cons z b =>
        rw [List.nil_append] at h2
        unfold ordL at h2
        have : z = 47 := by
          by_cases e : z = 47
          · exact e
          · rw [if_neg e] at h2
            have := rk_lt_47 e
            rw [if_neg (by omega)] at h2
            omega
        exact .inr (.inr ⟨b, by rw [this]; rfl⟩)
    | cons x2 r =>
      rcases und_mid (x2 :: r) b s h1 h2 with k | k | ⟨u, k⟩
      · cases k
      · exact .inr (.inl (by rw [k]))
      · exact .inr (.inr ⟨u, by rw [k]; rfl⟩)
theorem ord_anti {a b : List Nat} (h1 : ordL a b ≤ 0) (h2 : ordL b a ≤ 0) : a = b := (ordL_zero a b).1 (by rw [ordL_neg] at h2; omega)
/-- What stands between a path and what is under it is under it. -/
theorem und_contig {r b c : List Nat} (h1 : ordL r b ≤ 0) (h2 : ordL b c ≤ 0) (h : undN c r) : undN b r := by
  rcases h with h | h | ⟨s, h⟩
  · exact .inl h
  · subst h; exact .inr (.inl (ord_anti h2 h1))
  · subst h; exact und_mid r b s h1 h2
/-- Of two paths above one the later one is under the other one. -/
theorem und_chain {x a b : List Nat} (h1 : undN x a) (h2 : undN x b) (h : ordL a b ≤ 0) : undN b a := und_contig h (und_ord h2) h1
/-! ### the items, by their place in the order -/
/-- The place of the item that stands p-th. -/
def plc (t : List Itm) (p : Nat) : Nat := (idxI t)[p]?.getD 0
/-- The item that stands p-th. -/
def itP (t : List Itm) (p : Nat) : Itm := atL t (plc t p)
theorem idx_len (t : List Itm) : (idxI t).length = t.length := by rw [(idxI_perm t).length_eq, List.length_range]
theorem plc_get (t : List Itm) (p : Nat) (h : p < t.length) : ∃ h2 : p < (idxI t).length, (idxI t)[p] = plc t p := by
  have hp : p < (idxI t).length := by rw [idx_len]; exact h
  exact ⟨hp, by unfold plc; rw [List.getElem?_eq_getElem hp]; rfl⟩
theorem plc_lt (t : List Itm) (p : Nat) (h : p < t.length) : plc t p < t.length := by
  obtain ⟨h2, e⟩ := plc_get t p h
  rw [← e]
  exact List.mem_range.1 ((idxI_perm t).mem_iff.1 (List.getElem_mem h2))
theorem plc_onto (t : List Itm) (i : Nat) (h : i < t.length) : ∃ p, p < t.length ∧ plc t p = i := by
  obtain ⟨p, hp, e⟩ := List.getElem_of_mem ((idxI_perm t).mem_iff.2 (List.mem_range.2 h))
  rw [idx_len] at hp
  obtain ⟨_, e2⟩ := plc_get t p hp
  exact ⟨p, hp, by rw [← e2]; exact e⟩
theorem plc_rank (t : List Itm) (p q : Nat) (hpq : p < q) (hq : q < t.length) : ahd t (plc t p) (plc t q) = true := by
  obtain ⟨hp, e1⟩ := plc_get t p (by omega)
  obtain ⟨hq2, e2⟩ := plc_get t q hq
  have hle := List.pairwise_iff_getElem.1 (idxI_pw t) p q hp hq2 hpq
  have hnd : (idxI t).Nodup := (idxI_perm t).nodup_iff.2 List.nodup_range
  have hne := List.pairwise_iff_getElem.1 hnd p q hp hq2 hpq
  rw [e1, e2] at hle hne
  refine (rnk_iff (plc_lt t p (by omega)) (plc_lt t q hq)).1 ?_
  rcases Nat.lt_or_ge (rnk t (plc t p)) (rnk t (plc t q)) with h | h
  · exact h
  · exact absurd (rnk_inj (plc_lt t p (by omega)) (plc_lt t q hq) (by omega)) hne
theorem itP_ord (t : List Itm) (p q : Nat) (hpq : p ≤ q) (hq : q < t.length) : ordT (itP t p).s (itP t q).s ≤ 0 := by
  rcases Nat.lt_or_eq_of_le hpq with h | h
  · have := of_decide_eq_true (plc_rank t p q h hq)
    unfold itP
    omega
  · subst h; rw [ordT_self]; exact Int.le_refl _
theorem itP_same (t : List Itm) (p q : Nat) (hpq : p < q) (hq : q < t.length) (h : (itP t p).s = (itP t q).s) : plc t p < plc t q := by
  have := of_decide_eq_true (plc_rank t p q hpq hq)
  unfold itP at h
  rw [h, ordT_self] at this
  omega
theorem plc_ne (t : List Itm) (p q : Nat) (hp : p < t.length) (hq : q < t.length) (h : p ≠ q) : plc t p ≠ plc t q := by
  intro e
  rcases Nat.lt_or_gt_of_ne h with k | k
  · have := plc_rank t p q k hq
    rw [e, ahd_irr] at this
    cases this
  · have := plc_rank t q p k hp
    rw [e, ahd_irr] at this
    cases this
/-! ### at odds -/
/-- Are two items at odds? -/
def cfl (a b : Itm) : Bool := (a.s.toList == b.s.toList) || (undB a.s b.s && !(b.k == 1)) || (undB b.s a.s && !(a.k == 1))
theorem cfl_symm (a b : Itm) : cfl a b = cfl b a := by
  unfold cfl
  have e : (a.s.toList == b.s.toList) = (b.s.toList == a.s.toList) := by
    by_cases h : a.s.toList = b.s.toList
    · rw [h]
    · rw [beq_eq_false_iff_ne.2 h, beq_eq_false_iff_ne.2 (fun k => h k.symm)]
  rw [e]
  cases (b.s.toList == a.s.toList) <;> cases (undB a.s b.s && !(b.k == 1)) <;> cases (undB b.s a.s && !(a.k == 1)) <;> rfl
/-- Is an item at odds with one ahead? -/
def oddAt (t : List Itm) (i : Nat) : Bool := (List.range i).any fun k => cfl (atL t i) (atL t k)
theorem oddAt_of {t : List Itm} {i k : Nat} (h : i ≠ k) (hc : cfl (atL t i) (atL t k) = true) : oddAt t (max i k) = true := by
  unfold oddAt
  rw [List.any_eq_true]
  rcases Nat.lt_or_gt_of_ne h with e | e
  · rw [Nat.max_eq_right (by omega)]
    exact ⟨i, List.mem_range.2 e, by rw [cfl_symm]; exact hc⟩
  · rw [Nat.max_eq_left (by omega)]
    exact ⟨k, List.mem_range.2 e, hc⟩
/-- The first place of an item that is at odds with one ahead; how many there are, where there is none. -/
def oddN (t : List Itm) : Nat := (List.range t.length).findIdx (oddAt t)
theorem oddN_of {t : List Itm} {F : Nat} (hF : F ≤ t.length) (h1 : F < t.length → oddAt t F = true) (h2 : ∀ i, i < t.length → oddAt t i = true → F ≤ i) : oddN t = F := by
  unfold oddN
  rcases Nat.lt_or_eq_of_le hF with h | h
  · refine (List.findIdx_eq (by simpa using h)).2 ⟨by simpa using h1 h, fun j hj => ?_⟩
    rcases Bool.eq_false_or_eq_true (oddAt t j) with e | e
    · have := h2 j (by omega) e
      omega
    · simpa using e
  · have : (List.range t.length).findIdx (oddAt t) = (List.range t.length).length := List.findIdx_eq_length.2 fun x hx => by
      have hx := List.mem_range.1 hx
      rcases Bool.eq_false_or_eq_true (oddAt t x) with e | e
      · have := h2 x hx e
        omega
      · exact e
    rw [this, List.length_range]
    exact h.symm
/-! ### the pass -/
def ndP (t : List Itm) (p : Nat) : Bool := !((itP t p).k == 1)
/-- Of the first p those that are no directories and above an item. -/
def abvP (t : List Itm) (p : Nat) (x : ByteArray) : List Nat := (List.range p).filter fun r => ndP t r && undB x (itP t r).s
/-- The least place of these; how many items there are, where there is none. -/
def minP (t : List Itm) (l : List Nat) : Nat := l.foldr (fun r m => min (plc t r) m) t.length
theorem minP_le (t : List Itm) : ∀ (l : List Nat) (r : Nat), r ∈ l → minP t l ≤ plc t r
  | a :: l, r, h => by
    show min (plc t a) (minP t l) ≤ _
    rcases List.mem_cons.1 h with e | e
    · subst e; omega
    · have := minP_le t l r e; omega
theorem minP_at (t : List Itm) : ∀ (l : List Nat), minP t l = t.length ∨ ∃ r ∈ l, minP t l = plc t r
  | [] => .inl rfl
  | a :: l => by
    have h : minP t (a :: l) = min (plc t a) (minP t l) := rfl
    by_cases e : plc t a ≤ minP t l
    · exact .inr ⟨a, List.mem_cons_self, by omega⟩
    · rcases minP_at t l with k | ⟨r, hr, k⟩
      · exact .inl (by omega)
      · exact .inr ⟨r, List.mem_cons_of_mem _ hr, by omega⟩
theorem minP_app (t : List Itm) : ∀ (l : List Nat) (p : Nat), p < t.length → minP t (l ++ [p]) = min (plc t p) (minP t l)
  | [], p, hp => rfl
  | a :: l, p, hp => by
    show min (plc t a) (minP t (l ++ [p])) = min (plc t p) (min (plc t a) (minP t l))
    rw [minP_app t l p hp]
    omega
/-- The first place at odds, behind p items. -/
def oF (t : List Itm) : Nat → Nat
  | 0 => t.length
  | p + 1 => min (if 0 < p ∧ (itP t (p - 1)).s = (itP t p).s then min (oF t p) (plc t p) else oF t p) (max (plc t p) (minP t (abvP t p (itP t p).s)))
theorem oF_le (t : List Itm) : ∀ p, oF t p ≤ t.length
  | 0 => Nat.le_refl _
  | p + 1 => by
    have := oF_le t p
    unfold oF
    split <;> omega
theorem oF_mono (t : List Itm) (p : Nat) : oF t (p + 1) ≤ oF t p := by
  rw [oF]
  split <;> omega
theorem oF_mono_le (t : List Itm) {p q : Nat} (h : p ≤ q) : oF t q ≤ oF t p := by
  obtain ⟨d, rfl⟩ : ∃ d, q = p + d := ⟨q - p, by omega⟩
  clear h
  induction d with
  | zero => exact Nat.le_refl _
  | succ d ih => exact Nat.le_trans (oF_mono t _) ih
theorem abv_mem {t : List Itm} {p r : Nat} {x : ByteArray} : r ∈ abvP t p x ↔ r < p ∧ (itP t r).k ≠ 1 ∧ undB x (itP t r).s = true := by
  unfold abvP ndP
  rw [List.mem_filter, List.mem_range, Bool.and_eq_true]
  simp
theorem oF_sound (t : List Itm) : ∀ p, p ≤ t.length → oF t p < t.length → oddAt t (oF t p) = true
  | 0, _, h => absurd h (by show ¬ t.length < t.length; omega)
  | p + 1, hp, h => by
    have ih := oF_sound t p (by omega)
    have hA : 0 < p ∧ (itP t (p - 1)).s = (itP t p).s → oddAt t (plc t p) = true := fun ⟨h0, he⟩ => by
      have h1 := itP_same t (p - 1) p (by omega) (by omega) he
      have h2 : cfl (atL t (plc t p)) (atL t (plc t (p - 1))) = true := by
        unfold cfl
        have : (atL t (plc t p)).s = (atL t (plc t (p - 1))).s := he.symm
        rw [this]
        simp
      have := oddAt_of (by omega) h2
      rw [Nat.max_eq_left (by omega)] at this
      exact this
    have hB : max (plc t p) (minP t (abvP t p (itP t p).s)) < t.length → oddAt t (max (plc t p) (minP t (abvP t p (itP t p).s))) = true := fun hm => by
      rcases minP_at t (abvP t p (itP t p).s) with e | ⟨r, hr, e⟩
      · omega
      · rw [e]
        obtain ⟨h1, h2, h3⟩ := abv_mem.1 hr
        refine oddAt_of (plc_ne t p r (by omega) (by omega) (by omega)) ?_
        have h3 : undB (atL t (plc t p)).s (atL t (plc t r)).s = true := h3
        have h2 : ((atL t (plc t r)).k == 1) = false := beq_eq_false_iff_ne.2 h2
        unfold cfl
        rw [h3, h2]
        simp
    rw [oF] at h ⊢
    generalize max (plc t p) (minP t (abvP t p (itP t p).s)) = M at *
    by_cases hc : 0 < p ∧ (itP t (p - 1)).s = (itP t p).s
    · rw [if_pos hc] at h ⊢
      have hA := hA hc
      by_cases h1 : oF t p ≤ plc t p
      · by_cases h2 : oF t p ≤ M
        · rw [show min (min (oF t p) (plc t p)) M = oF t p by omega] at h ⊢
          exact ih h
        · rw [show min (min (oF t p) (plc t p)) M = M by omega] at h ⊢
          exact hB h
      · by_cases h2 : plc t p ≤ M
        · rw [show min (min (oF t p) (plc t p)) M = plc t p by omega]
          exact hA
        · rw [show min (min (oF t p) (plc t p)) M = M by omega] at h ⊢
          exact hB h
    · rw [if_neg hc] at h ⊢
      by_cases h2 : oF t p ≤ M
      · rw [show min (oF t p) M = oF t p by omega] at h ⊢
        exact ih h
      · rw [show min (oF t p) M = M by omega] at h ⊢
        exact hB h
theorem oF_same (t : List Itm) (r q : Nat) (hrq : r < q) (hq : q < t.length) (h : (itP t r).s = (itP t q).s) : oF t t.length ≤ plc t q := by
  have hs : (itP t r).s = (itP t (r + 1)).s := by
    have h1 := itP_ord t r (r + 1) (by omega) (by omega)
    have h2 := itP_ord t (r + 1) q (by omega) hq
    rw [← h] at h2
    refine ord_zero ?_
    rw [ordT_neg] at h2
    omega
  have h1 : oF t (r + 1 + 1) ≤ plc t (r + 1) := by
    rw [oF, if_pos ⟨by omega, by rw [Nat.add_sub_cancel]; exact hs⟩]
    omega
  have h2 : plc t (r + 1) ≤ plc t q := by
    rcases Nat.lt_or_eq_of_le (show r + 1 ≤ q by omega) with e | e
    · exact Nat.le_of_lt (itP_same t (r + 1) q e hq (by rw [← hs]; exact h))
    · rw [e]; exact Nat.le_refl _
  have h3 := oF_mono_le t (show r + 1 + 1 ≤ t.length by omega)
  omega
theorem oF_under (t : List Itm) (r q : Nat) (hne : r ≠ q) (hr : r < t.length) (hq : q < t.length) (hu : undB (itP t q).s (itP t r).s = true) (hk : (itP t r).k ≠ 1) : oF t t.length ≤ max (plc t q) (plc t r) := by
  rcases Nat.lt_or_gt_of_ne hne with e | e
  · have h1 : oF t (q + 1) ≤ max (plc t q) (minP t (abvP t q (itP t q).s)) := by
      rw [oF]
      omega
    have h2 := minP_le t (abvP t q (itP t q).s) r (abv_mem.2 ⟨e, hk, hu⟩)
    have h3 := oF_mono_le t (show q + 1 ≤ t.length by omega)
    omega
  · have h1 := itP_ord t q r (by omega) hr
    have h2 := und_ord ((und_iff _ _).1 hu)
    have h3 : (itP t q).s = (itP t r).s := by
      refine ord_zero ?_
      have h2 : ordT (itP t r).s (itP t q).s ≤ 0 := h2
      rw [ordT_neg] at h2
      omega
    have := oF_same t q r e hr h3
    omega
theorem oF_all (t : List Itm) : oF t t.length = oddN t := by
  refine (oddN_of (oF_le t _) (oF_sound t _ (Nat.le_refl _)) fun i hi h => ?_).symm
  unfold oddAt at h
  rw [List.any_eq_true] at h
  obtain ⟨k, hk, hc⟩ := h
  have hk := List.mem_range.1 hk
  obtain ⟨q, hq, rfl⟩ := plc_onto t i hi
  obtain ⟨r, hr, rfl⟩ := plc_onto t k (by omega)
  have hne : r ≠ q := by intro e; subst e; omega
  have hmx : max (plc t q) (plc t r) = plc t q := by omega
  have hmx2 : max (plc t r) (plc t q) = plc t q := by omega
  unfold cfl at hc
  rw [Bool.or_eq_true, Bool.or_eq_true, Bool.and_eq_true, Bool.and_eq_true] at hc
  rcases hc with (hc | ⟨h1, h2⟩) | ⟨h1, h2⟩
  · have he : (itP t q).s = (itP t r).s := toList_inj' (eq_of_beq hc)
    rcases Nat.lt_or_gt_of_ne hne with e | e
    · exact oF_same t r q e hq he.symm
    · have := itP_same t q r e hr he
      omega
  · have h2 : (!((itP t r).k == 1)) = true := h2
    have := oF_under t r q hne hr hq h1 (by simpa using h2)
    omega
  · have h2 : (!((itP t q).k == 1)) = true := h2
    have := oF_under t q r (Ne.symm hne) hq hr h1 (by simpa using h2)
    omega
/-! ### the barriers at hand -/
/-- The path and the least place of a barrier. -/
def barP (t : List Itm) (q : Nat) : ByteArray × Nat := ((itP t q).s, minP t (abvP t (q + 1) (itP t q).s))
def bars (t : List Itm) (l : List Nat) : List (ByteArray × Nat) := l.map (barP t)
/-- Without those at the end under which a path isn't. -/
def popB (x : ByteArray) (l : List (ByteArray × Nat)) : List (ByteArray × Nat) := (l.reverse.dropWhile fun b => !(undB x b.1)).reverse
theorem und_lift {t : List Itm} {x : ByteArray} {r q : Nat} (hrq : r ≤ q) (hq : q < t.length) (hx : undB x (itP t q).s = true) : undB x (itP t r).s = undB (itP t q).s (itP t r).s := by
  have ho := itP_ord t r q hrq hq
  rw [Bool.eq_iff_iff, und_iff, und_iff]
  rw [und_iff] at hx
  exact ⟨fun h => und_chain h hx ho, fun h => und_trans hx h⟩
theorem abv_cut {t : List Itm} {x : ByteArray} {q p : Nat} (hqp : q < p) (hp : p ≤ t.length) (hx : undB x (itP t q).s = true) (hl : ∀ r, q < r → r < p → ndP t r = true → undB x (itP t r).s = false) : abvP t p x = abvP t (q + 1) (itP t q).s := by
  unfold abvP
  obtain ⟨d, rfl⟩ : ∃ d, p = q + 1 + d := ⟨p - q - 1, by omega⟩
  rw [List.range_add, List.filter_append]
  have e1 : List.filter (fun r => ndP t r && undB x (itP t r).s) (List.map (fun k => q + 1 + k) (List.range d)) = [] := by
    rw [List.filter_eq_nil_iff]
    intro r hr h
    obtain ⟨k, hk, rfl⟩ := List.mem_map.1 hr
    have hk := List.mem_range.1 hk
    rw [Bool.and_eq_true] at h
    have := hl (q + 1 + k) (by omega) (by omega) h.1
    rw [this] at h
    cases h.2
  rw [e1, List.append_nil]
  refine List.filter_congr fun r hr => ?_
  have hr := List.mem_range.1 hr
  rw [und_lift (by omega) (by omega) hx]
theorem abv_snoc (t : List Itm) (p : Nat) (x : ByteArray) : abvP t (p + 1) x = abvP t p x ++ (if ndP t p = true ∧ undB x (itP t p).s = true then [p] else []) := by
  unfold abvP
  rw [List.range_succ, List.filter_append]
  congr 1
  by_cases h : ndP t p = true ∧ undB x (itP t p).s = true
  · rw [if_pos h, List.filter_cons_of_pos (by rw [h.1, h.2]; rfl)]
    rfl
  · rw [if_neg h, List.filter_cons_of_neg (by rw [Bool.and_eq_true]; exact h)]
    rfl
/-- The least place of the last barrier is the least of all. -/
theorem bar_last {t : List Itm} {p q : Nat} {x : ByteArray} {l : List Nat} (hp : p ≤ t.length) (h : abvP t p x = l ++ [q]) : (barP t q).2 = minP t (abvP t p x) := by
  have hq : q ∈ abvP t p x := by rw [h]; simp
  obtain ⟨h1, h2, h3⟩ := abv_mem.1 hq
  have : abvP t p x = abvP t (q + 1) (itP t q).s := abv_cut h1 hp h3 fun r hr1 hr2 hr3 => by
    rcases Bool.eq_false_or_eq_true (undB x (itP t r).s) with e | e
    · exfalso
      have hr : r ∈ abvP t p x := by
        unfold abvP
        rw [List.mem_filter, List.mem_range, hr3, e]
        exact ⟨hr2, rfl⟩
      have hs : (abvP t p x).Pairwise (· < ·) := List.pairwise_lt_range.sublist List.filter_sublist
      rw [h] at hs hr
      rw [List.pairwise_append] at hs
      rcases List.mem_append.1 hr with k | k
      · have := hs.2.2 r k q (by simp)
        omega
      · have := List.mem_singleton.1 k
        omega
    · exact e
  show minP t (abvP t (q + 1) (itP t q).s) = _
  rw [this]
theorem dropWhile_rev {α : Type} (f : α → Bool) : ∀ (l m : List α), (∀ x ∈ l, f x = false) → (∀ x ∈ m, f x = true) → ((l ++ m).reverse.dropWhile f).reverse = l := by
  intro l m h1 h2
  rw [List.reverse_append]
  have e : ∀ (a b : List α), (∀ x ∈ a, f x = true) → (a ++ b).dropWhile f = b.dropWhile f := by
    intro a
    induction a with
    | nil => intro b _; rfl
    | cons x a ih =>
      intro b h
      rw [List.cons_append, List.dropWhile_cons_of_pos (h x List.mem_cons_self)]
      exact ih b fun y hy => h y (List.mem_cons_of_mem _ hy)
  rw [e m.reverse l.reverse fun x hx => h2 x (List.mem_reverse.1 hx)]
  have e2 : l.reverse.dropWhile f = l.reverse := by
    cases hl : l.reverse with
    | nil => rfl
    | cons x k =>
      have : x ∈ l := List.mem_reverse.1 (by rw [hl]; exact List.mem_cons_self)
      rw [List.dropWhile_cons_of_neg (by rw [h1 x this]; decide)]
  rw [e2, List.reverse_reverse]
theorem split_at {α : Type} (f : α → Bool) : ∀ (l : List α), l.Pairwise (fun a b => f b = true → f a = true) → l = l.filter f ++ l.filter (fun x => !f x)
  | [], _ => rfl
  | a :: l, h => by
    rw [List.pairwise_cons] at h
    have ih := split_at f l h.2
    by_cases e : f a = true
    · rw [List.filter_cons_of_pos e, List.filter_cons_of_neg (by rw [e]; decide), List.cons_append, ← ih]
    · have e1 : l.filter f = [] := List.filter_eq_nil_iff.2 fun x hx k => e (h.1 x hx k)
      rw [List.filter_cons_of_neg e, List.filter_cons_of_pos (by rw [Bool.eq_false_iff.2 e]; rfl), e1, List.nil_append]
      rw [e1, List.nil_append] at ih
      rw [← ih]
/-- Behind the pass over p items the barriers above the last one are at hand; of these those above the next one are left. -/
theorem pop_next (t : List Itm) (p : Nat) (hp : p < t.length) (h0 : 0 < p) : popB (itP t p).s (bars t (abvP t p (itP t (p - 1)).s)) = bars t (abvP t p (itP t p).s) := by
  have hY : ∀ r, r < p → undB (itP t p).s (itP t r).s = true → undB (itP t (p - 1)).s (itP t r).s = true := fun r hr hu => by
    rw [und_iff] at hu ⊢
    exact und_contig (itP_ord t r (p - 1) (by omega) (by omega)) (itP_ord t (p - 1) p (by omega) hp) hu
  have hZ : abvP t p (itP t p).s = (abvP t p (itP t (p - 1)).s).filter fun r => undB (itP t p).s (itP t r).s := by
    unfold abvP
    rw [List.filter_filter]
    refine List.filter_congr fun r hr => ?_
    have hr := List.mem_range.1 hr
    rcases Bool.eq_false_or_eq_true (undB (itP t p).s (itP t r).s) with e | e
    · rw [e, hY r hr e, Bool.true_and]
    · rw [e, Bool.false_and, Bool.and_false]
  have hsp := split_at (fun r => undB (itP t p).s (itP t r).s) (abvP t p (itP t (p - 1)).s) (by
    have hs : (abvP t p (itP t (p - 1)).s).Pairwise (· < ·) := List.pairwise_lt_range.sublist List.filter_sublist
    refine hs.imp_of_mem fun {a b} ha hb hab h => ?_
    have ha := abv_mem.1 ha
    have hb := abv_mem.1 hb
    have h3 := und_lift (t := t) (x := (itP t (p - 1)).s) (Nat.le_of_lt hab) (by omega) hb.2.2
    rw [ha.2.2] at h3
    rw [und_iff] at h ⊢
    exact und_trans h ((und_iff _ _).1 h3.symm))
  rw [hZ]
  unfold popB bars
  generalize abvP t p (itP t (p - 1)).s = Y at *
  rw [← hZ]
  conv => lhs; rw [hsp, List.map_append]
  rw [hZ]
  refine dropWhile_rev (fun b : ByteArray × Nat => !(undB (itP t p).s b.1)) _ _ (fun b hb => ?_) (fun b hb => ?_)
  · obtain ⟨r, hr, rfl⟩ := List.mem_map.1 hb
    have := (List.mem_filter.1 hr).2
    show (!(undB (itP t p).s (itP t r).s)) = false
    rw [this]
    rfl
  · obtain ⟨r, hr, rfl⟩ := List.mem_map.1 hb
    exact (List.mem_filter.1 hr).2
end Go.Proofs.YtijfcmlgohbndaaGreatDoor
