/-
  A whole code: any bits begin with a word.
-/
import Derived.Test.YtfhbkidceombbaaPreG
namespace Go.Proofs.Ytfhbkidceombbaa
set_option maxRecDepth 100000

theorem cnt_hit (ls : Nat → Nat) (l r : Nat) : ∀ n, r < cntN ls l n → ∃ i, i < n ∧ ls i = l ∧ cntN ls l i = r
  | 0, h => by simp [cntN] at h
  | n + 1, h => by
    by_cases e : r < cntN ls l n
    · obtain ⟨i, h1, h2, h3⟩ := cnt_hit ls l r n e
      exact ⟨i, by omega, h2, h3⟩
    · rw [cntN] at h
      by_cases h2 : ls n = l
      · rw [if_pos h2] at h
        exact ⟨n, by omega, h2, by omega⟩
      · rw [if_neg h2] at h
        omega
theorem cnt_zero (ls : Nat → Nat) (l : Nat) : ∀ n, (∀ i, i < n → ls i ≠ l) → cntN ls l n = 0
  | 0, _ => rfl
  | n + 1, h => by rw [cntN, cnt_zero ls l n (fun i hi => h i (by omega)), if_neg (h n (by omega))]
theorem find_some (ls W : Nat → Nat) (l x : Nat) (hl : l ≠ 0) : ∀ n i, i < n → ls i = l → W i = x → findW ls W l x n ≠ none
  | 0, i, h, _, _ => by omega
  | n + 1, i, h, h1, h2 => by
    rw [findW]
    by_cases e : ls n ≠ 0 ∧ ls n = l ∧ W n = x
    · rw [if_pos e]
      simp
    · rw [if_neg e]
      by_cases e2 : i = n
      · subst e2
        exact absurd ⟨by omega, h1, h2⟩ e
      · exact find_some ls W l x hl n i (by omega) h1 h2
theorem find_is (ls W : Nat → Nat) (l x : Nat) : ∀ n i, findW ls W l x n = some i → i < n ∧ ls i = l ∧ W i = x
  | 0, i, h => by simp [findW] at h
  | n + 1, i, h => by
    rw [findW] at h
    by_cases e : ls n ≠ 0 ∧ ls n = l ∧ W n = x
    · rw [if_pos e] at h
      obtain rfl : n = i := by simpa using h
      exact ⟨by omega, e.2⟩
    · rw [if_neg e] at h
      obtain ⟨h1, h2⟩ := find_is ls W l x n i h
      exact ⟨by omega, h2⟩
theorem no_word_ge (ls : Nat → Nat) (n v : Nat) : ∀ l, NoWord ls (wordN ls n) n v l → firstN ls n l + (if l = 0 then 0 else cntN ls l n) ≤ rev v l
  | 0, _ => Nat.zero_le _
  | l + 1, h => by
    have ih := no_word_ge ls n v l (fun k h1 h2 => h k h1 (by omega))
    have e1 : rev v (l + 1) = rev v l * 2 + v / 2 ^ l % 2 := rfl
    have e2 : firstN ls n (l + 1) = (firstN ls n l + (if l = 0 then 0 else cntN ls l n)) * 2 := rfl
    rw [if_neg (by omega)]
    by_cases hc : rev v (l + 1) < firstN ls n (l + 1) + cntN ls (l + 1) n
    · exfalso
      obtain ⟨i, h1, h2, h3⟩ := cnt_hit ls (l + 1) (rev v (l + 1) - firstN ls n (l + 1)) n (by omega)
      refine find_some ls (wordN ls n) (l + 1) (rev v (l + 1)) (by omega) n i h1 h2 ?_ (h (l + 1) (by omega) (Nat.le_refl _))
      rw [wordN, if_neg (by omega), h2, h3]
      omega
    · omega
theorem sumS_top (ls : Nat → Nat) (n mx : Nat) (h : ∀ i, i < n → ls i ≤ mx) : ∀ d, sumS ls n (mx + d) = sumS ls n mx
  | 0 => rfl
  | d + 1 => by rw [← Nat.add_assoc, sumS, cnt_zero ls (mx + d + 1) n (fun i hi => by have := h i hi; omega), sumS_top ls n mx h d, Nat.zero_mul, Nat.add_zero]
theorem whole_any (ls : Nat → Nat) (n v mx : Nat) (h15 : ∀ i, i < n → ls i ≤ 15) (hf : fillN ls n = 32768) (hm : ∀ i, i < n → ls i ≤ mx) (hmx : mx ≤ 15) : ¬ NoWord ls (wordN ls n) n v mx := fun hno => by
  have h1 := no_word_ge ls n v mx hno
  have h2 := sumS_top ls n mx hm (15 - mx)
  rw [show mx + (15 - mx) = 15 by omega, sumS_fill ls n h15, hf] at h2
  cases mx with
  | zero => rw [sumS] at h2; omega
  | succ m =>
    rw [if_neg (by omega)] at h1
    have h3 := firstN_sum ls n m (by omega)
    rw [sumS, ← h3, show 15 - (m + 1) = 14 - m by omega, ← Nat.add_mul] at h2
    have h4 := rev_lt v (m + 1)
    have h5 : (2 : Nat) ^ (m + 1) * 2 ^ (14 - m) = 32768 := by rw [← Nat.pow_add, show m + 1 + (14 - m) = 15 by omega]
    have h6 : (firstN ls n (m + 1) + cntN ls (m + 1) n) * 2 ^ (14 - m) < 2 ^ (m + 1) * 2 ^ (14 - m) := Nat.mul_lt_mul_of_pos_right (Nat.lt_of_le_of_lt h1 h4) (Nat.two_pow_pos _)
    rw [h5, ← h2] at h6
    omega
/-- The greatest length. -/
theorem max_le (ls : Nat → Nat) (n : Nat) (h15 : ∀ i, i < n → ls i ≤ 15) : (if n = 0 then 0 else maxN ls (n - 1)) ≤ 15 := by
  split
  · omega
  · obtain ⟨i, h1, h2⟩ := maxN_mem ls (n - 1)
    rw [← h2]
    exact h15 i (by omega)
theorem le_max (ls : Nat → Nat) (n i : Nat) (hi : i < n) : ls i ≤ (if n = 0 then 0 else maxN ls (n - 1)) := by
  rw [if_neg (by omega)]
  exact maxN_ge ls _ i (by omega)
end Go.Proofs.Ytfhbkidceombbaa
