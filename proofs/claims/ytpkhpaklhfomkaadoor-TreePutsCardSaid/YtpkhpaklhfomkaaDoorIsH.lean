/-
  A stable sort of items: the order's ranks; tree.Sort.
-/
import Derived.Test.YtpkhpaklhfomkaaDoorIsF
import Derived.Test.YtpkhpaklhfomkaaDoorItC
import Derived.Test.YtpkhpaklhfomkaaDoorNamB
namespace Go.Proofs.YtpkhpaklhfomkaaDoor
set_option maxRecDepth 100000
set_option linter.unusedSimpArgs false
set_option linter.unusedVariables false
open Go.RowKit Go.Joins Go.Deep
/-- The items of a list, by place. -/
def atL (l : List Itm) (i : Nat) : Itm := l[i]?.getD default
/-- Does the item at i stand ahead of that at j: by path, then by place? -/
def ahd (l : List Itm) (i j : Nat) : Bool := decide (ordT (atL l i).s (atL l j).s < 0 ∨ (ordT (atL l i).s (atL l j).s = 0 ∧ i < j))
/-- Its rank: how many stand ahead. -/
def rnk (l : List Itm) (i : Nat) : Nat := ((List.range l.length).filter fun j => ahd l j i).length
theorem ahd_irr (l : List Itm) (i : Nat) : ahd l i i = false := by
  refine decide_eq_false ?_
  rintro (h | h)
  · have := ordL_self (nums (atL l i).s)
    unfold ordT at h
    omega
  · omega
theorem ahd_trans {l : List Itm} {i j k : Nat} (h1 : ahd l i j = true) (h2 : ahd l j k = true) : ahd l i k = true := by
  have h1 := of_decide_eq_true h1
  have h2 := of_decide_eq_true h2
  refine decide_eq_true ?_
  unfold ordT at *
  generalize nums (atL l i).s = a at *
  generalize nums (atL l j).s = b at *
  generalize nums (atL l k).s = c at *
  have t1 := ordL_trans a b c
  have z1 := ordL_zero a b
  have z2 := ordL_zero b c
  have z3 := ordL_zero a c
  rcases h1 with h1 | ⟨h1, h1'⟩
  · rcases h2 with h2 | ⟨h2, h2'⟩
    · have h3 := t1 (by omega) (by omega)
      by_cases e : ordL a c = 0
      · obtain rfl := z3.1 e
        have := ordL_neg a b
        omega
      · left; omega
    · obtain rfl := z2.1 h2
      left; exact h1
  · obtain rfl := z1.1 h1
    rcases h2 with h2 | ⟨h2, h2'⟩
    · left; exact h2
    · right; exact ⟨h2, by omega⟩
theorem ahd_total {l : List Itm} {i j : Nat} (h : i ≠ j) : ahd l i j = true ∨ ahd l j i = true := by
  have n := ordL_neg (nums (atL l i).s) (nums (atL l j).s)
  rcases ordL_three (nums (atL l i).s) (nums (atL l j).s) with h3 | h3 | h3
  · left; exact decide_eq_true (.inl (by unfold ordT; omega))
  · rcases Nat.lt_or_gt_of_ne h with h4 | h4
    · left; exact decide_eq_true (.inr ⟨h3, h4⟩)
    · right; exact decide_eq_true (.inr ⟨by unfold ordT; omega, h4⟩)
  · right; exact decide_eq_true (.inl (by unfold ordT; omega))
theorem filter_le {α : Type} (p q : α → Bool) : ∀ (R : List α), (∀ x ∈ R, p x = true → q x = true) → (R.filter p).length ≤ (R.filter q).length
  | [], _ => Nat.le_refl _
  | x :: R, h => by
    have ih := filter_le p q R fun y hy => h y (by simp [hy])
    have hx := h x (by simp)
    by_cases hp : p x = true
    · rw [List.filter_cons_of_pos hp, List.filter_cons_of_pos (hx hp)]; simp; exact ih
    · rw [List.filter_cons_of_neg hp]
      by_cases hq : q x = true
      · rw [List.filter_cons_of_pos hq]; simp; omega
      · rw [List.filter_cons_of_neg hq]; exact ih
theorem filter_lt {α : Type} (p q : α → Bool) : ∀ (R : List α), (∀ x ∈ R, p x = true → q x = true) → (∃ x ∈ R, q x = true ∧ p x = false) → (R.filter p).length < (R.filter q).length
  | [], _, h => by obtain ⟨x, hx, _⟩ := h; cases hx
  | x :: R, h, hw => by
    have hx := h x (by simp)
    obtain ⟨y, hy, hqy, hpy⟩ := hw
    rcases List.mem_cons.1 hy with rfl | hy
    · have := filter_le p q R fun z hz => h z (by simp [hz])
      rw [List.filter_cons_of_neg (by rw [hpy]; simp), List.filter_cons_of_pos hqy]
      simp
      omega
    · have ih := filter_lt p q R (fun z hz => h z (by simp [hz])) ⟨y, hy, hqy, hpy⟩
      by_cases hp : p x = true
      · rw [List.filter_cons_of_pos hp, List.filter_cons_of_pos (hx hp)]; simp; exact ih
      · rw [List.filter_cons_of_neg hp]
        by_cases hq : q x = true
        · rw [List.filter_cons_of_pos hq]; simp; omega
        · rw [List.filter_cons_of_neg hq]; exact ih
theorem rnk_lt {l : List Itm} {i j : Nat} (hi : i < l.length) (h : ahd l i j = true) : rnk l i < rnk l j :=
  filter_lt _ _ _ (fun x _ hx => ahd_trans hx h) ⟨i, List.mem_range.2 hi, h, ahd_irr l i⟩
theorem rnk_iff {l : List Itm} {i j : Nat} (hi : i < l.length) (hj : j < l.length) : rnk l i < rnk l j ↔ ahd l i j = true := by
  refine ⟨fun h => ?_, rnk_lt hi⟩
  by_cases e : i = j
  · subst e; omega
  · rcases ahd_total (l := l) e with k | k
    · exact k
    · have := rnk_lt hj k
      omega
theorem rnk_inj {l : List Itm} {i j : Nat} (hi : i < l.length) (hj : j < l.length) (h : rnk l i = rnk l j) : i = j := by
  by_cases e : i = j
  · exact e
  · rcases ahd_total (l := l) e with k | k
    · have := rnk_lt hi k; omega
    · have := rnk_lt hj k; omega
/-- The places in order. -/
def idxI (l : List Itm) : List Nat := (List.range l.length).mergeSort fun i j => decide (rnk l i ≤ rnk l j)
/-- The items in order. -/
def sortI (l : List Itm) : List Itm := (idxI l).map (atL l)
theorem idxI_perm (l : List Itm) : (idxI l).Perm (List.range l.length) := List.mergeSort_perm _ _
theorem idxI_pw (l : List Itm) : (idxI l).Pairwise (fun a b => rnk l a ≤ rnk l b) := by
  have h := List.pairwise_mergeSort (le := fun i j => decide (rnk l i ≤ rnk l j)) (fun a b c h1 h2 => decide_eq_true (Nat.le_trans (of_decide_eq_true h1) (of_decide_eq_true h2))) (fun a b => by
    rcases Nat.le_total (rnk l a) (rnk l b) with h | h
    · simp [h]
    · simp [h]) (List.range l.length)
  exact h.imp fun h => of_decide_eq_true h
end Go.Proofs.YtpkhpaklhfomkaaDoor
