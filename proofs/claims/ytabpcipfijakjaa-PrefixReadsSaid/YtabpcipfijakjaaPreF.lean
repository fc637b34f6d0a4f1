/-
  No word begins another one: what is put is read again.
-/
import Derived.Test.YtabpcipfijakjaaPreM
namespace Go.Proofs.Ytabpcipfijakjaa
set_option maxRecDepth 100000

/-- Behind a word's length the first words lie beyond it. -/
theorem first_beyond (ls : Nat → Nat) (n l : Nat) (hl : 1 ≤ l) : ∀ d, (firstN ls n l + cntN ls l n) * 2 ^ (d + 1) ≤ firstN ls n (l + (d + 1))
  | 0 => by
    rw [show l + (0 + 1) = l + 1 from rfl, firstN, if_neg (by omega)]
    omega
  | d + 1 => by
    have ih := first_beyond ls n l hl d
    rw [show l + (d + 1 + 1) = (l + (d + 1)) + 1 from rfl, firstN, Nat.pow_succ, ← Nat.mul_assoc]
    exact Nat.mul_le_mul_right 2 (Nat.le_trans ih (Nat.le_add_right _ _))
theorem cnt_lt (ls : Nat → Nat) (l : Nat) : ∀ n i, i < n → ls i = l → cntN ls l i < cntN ls l n
  | 0, i, h, _ => by omega
  | n + 1, i, h, e => by
    rw [cntN]
    by_cases h2 : i = n
    · subst h2
      rw [if_pos e]
      omega
    · have := cnt_lt ls l n i (by omega) e
      omega
theorem word_inj (ls : Nat → Nat) (n i p : Nat) (h : ls i = ls p) (h0 : ls p ≠ 0) (hw : wordN ls n i = wordN ls n p) : i = p := by
  rw [wordN, wordN, if_neg (by omega), if_neg h0, h] at hw
  rcases Nat.lt_trichotomy i p with h1 | h1 | h1
  · have := cnt_lt ls (ls p) p i h1 h
    omega
  · exact h1
  · have := cnt_lt ls (ls p) i p h1 rfl
    omega
theorem sign_right (ls : Nat → Nat) (n v p mx many l e : Nat) (x : Int) (hp : p < n) (h1 : 1 ≤ ls p) (hv : rev v (ls p) = wordN ls n p) (hmx : ls p ≤ mx) (hmany : ls p ≤ many)
    (hs : SignIs ls (wordN ls n) n mx v many x e l) : x = (p : Nat) ∧ e = 0 ∧ l = ls p := by
  have hno : ∀ k, ls p ≤ k → ¬ NoWord ls (wordN ls n) n v k := fun k hk h =>
    find_some ls (wordN ls n) (ls p) (rev v (ls p)) (by omega) n p hp rfl hv.symm (h (ls p) h1 hk)
  rcases hs with ⟨i, rfl, rfl, hl1, _, _, hfi, hn⟩ | ⟨_, _, _, _, hn⟩ | ⟨_, _, _, _, hn⟩
  · obtain ⟨hi, hli, hwi⟩ := find_is ls (wordN ls n) l _ n i hfi
    rcases Nat.lt_trichotomy l (ls p) with h | h | h
    · exfalso
      obtain ⟨d, hd⟩ : ∃ d, ls p = l + (d + 1) := ⟨ls p - l - 1, by omega⟩
      have a1 := first_beyond ls n l hl1 d
      have a2 := rev_div v (d + 1) l
      have a3 : firstN ls n (ls p) ≤ wordN ls n p := by
        rw [wordN, if_neg (by omega)]
        exact Nat.le_add_right _ _
      have a4 : wordN ls n i < firstN ls n l + cntN ls l n := by
        have := cnt_lt ls l n i hi hli
        rw [wordN, if_neg (by omega), hli]
        omega
      rw [← hd, hv] at a2
      rw [← hd] at a1
      have a5 : firstN ls n l + cntN ls l n ≤ wordN ls n p / 2 ^ (d + 1) := (Nat.le_div_iff_mul_le (Nat.two_pow_pos _)).2 (Nat.le_trans a1 a3)
      rw [a2, ← hwi] at a5
      omega
    · subst h
      rw [hv] at hwi
      obtain rfl := word_inj ls n i p (by omega) (by omega) hwi
      exact ⟨rfl, rfl, rfl⟩
    · exact absurd hn (hno _ (by omega))
  · exact absurd hn (hno _ hmany)
  · exact absurd hn (hno _ hmx)
end Go.Proofs.Ytabpcipfijakjaa
