/-
  A whole code: any bits begin with a word.
  No word begins another one: what is put is read again.
  The walk of BitsTurns: it returns true, whatever the bits, the count and the place.
  What is put, as one number: a word behind the other.
  The program's Sign and the document's answer alike, by any code that New lets be; Length and Put of any int.
-/
import Derived.Test.YtopjmagbcnglhaaPkAE
import Derived.Test.YtopjmagbcnglhaaPkAD
import Derived.Test.YtopjmagbcnglhaaPkAG

namespace Go.Proofs.Ytopjmagbcnglhaa
set_option maxRecDepth 100000

theorem cnt_hit (ls : Nat → Nat) (l r : Nat) : ∀ n, r < cntN ls l n → ∃ i, i < n ∧ ls i = l ∧ cntN ls l i = r
  | 0, h => by simp [cntN] at h
  | n + 1, h => by
    by_cases e : r < cntN ls l n
    · obtain ⟨i, h1, h2, h3⟩ := cnt_hit ls l r n e
      exact ⟨i, by omega, h2, h3⟩
    · rw [cntN] at h
      by_cases h2 : ls n = l
      · rw [if_pos h2] at h
        exact ⟨n, by omega, h2, by omega⟩
      · rw [if_neg h2] at h
        omega
theorem cnt_zero (ls : Nat → Nat) (l : Nat) : ∀ n, (∀ i, i < n → ls i ≠ l) → cntN ls l n = 0
  | 0, _ => rfl
  | n + 1, h => by rw [cntN, cnt_zero ls l n (fun i hi => h i (by omega)), if_neg (h n (by omega))]
theorem find_some (ls W : Nat → Nat) (l x : Nat) (hl : l ≠ 0) : ∀ n i, i < n → ls i = l → W i = x → findW ls W l x n ≠ none
  | 0, i, h, _, _ => by omega
  | n + 1, i, h, h1, h2 => by
    rw [findW]
    by_cases e : ls n ≠ 0 ∧ ls n = l ∧ W n = x
    · rw [if_pos e]
      simp
    · rw [if_neg e]
      by_cases e2 : i = n
      · subst e2
        exact absurd ⟨by omega, h1, h2⟩ e
      · exact find_some ls W l x hl n i (by omega) h1 h2
theorem find_is (ls W : Nat → Nat) (l x : Nat) : ∀ n i, findW ls W l x n = some i → i < n ∧ ls i = l ∧ W i = x
  | 0, i, h => by simp [findW] at h
  | n + 1, i, h => by
    rw [findW] at h
    by_cases e : ls n ≠ 0 ∧ ls n = l ∧ W n = x
    · rw [if_pos e] at h
      obtain rfl : n = i := by simpa using h
      exact ⟨by omega, e.2⟩
    · rw [if_neg e] at h
      obtain ⟨h1, h2⟩ := find_is ls W l x n i h
      exact ⟨by omega, h2⟩
theorem no_word_ge (ls : Nat → Nat) (n v : Nat) : ∀ l, NoWord ls (wordN ls n) n v l → firstN ls n l + (if l = 0 then 0 else cntN ls l n) ≤ rev v l
  | 0, _ => Nat.zero_le _
  | l + 1, h => by
    have ih := no_word_ge ls n v l (fun k h1 h2 => h k h1 (by omega))
    have e1 : rev v (l + 1) = rev v l * 2 + v / 2 ^ l % 2 := rfl
    have e2 : firstN ls n (l + 1) = (firstN ls n l + (if l = 0 then 0 else cntN ls l n)) * 2 := rfl
    rw [if_neg (by omega)]
    by_cases hc : rev v (l + 1) < firstN ls n (l + 1) + cntN ls (l + 1) n
    · exfalso
      obtain ⟨i, h1, h2, h3⟩ := cnt_hit ls (l + 1) (rev v (l + 1) - firstN ls n (l + 1)) n (by omega)
      refine find_some ls (wordN ls n) (l + 1) (rev v (l + 1)) (by omega) n i h1 h2 ?_ (h (l + 1) (by omega) (Nat.le_refl _))
      rw [wordN, if_neg (by omega), h2, h3]
      omega
    · omega
theorem sumS_top (ls : Nat → Nat) (n mx : Nat) (h : ∀ i, i < n → ls i ≤ mx) : ∀ d, sumS ls n (mx + d) = sumS ls n mx
  | 0 => rfl
  | d + 1 => by rw [← Nat.add_assoc, sumS, cnt_zero ls (mx + d + 1) n (fun i hi => by have := h i hi; omega), sumS_top ls n mx h d, Nat.zero_mul, Nat.add_zero]
theorem whole_any (ls : Nat → Nat) (n v mx : Nat) (h15 : ∀ i, i < n → ls i ≤ 15) (hf : fillN ls n = 32768) (hm : ∀ i, i < n → ls i ≤ mx) (hmx : mx ≤ 15) : ¬ NoWord ls (wordN ls n) n v mx := fun hno => by
  have h1 := no_word_ge ls n v mx hno
  have h2 := sumS_top ls n mx hm (15 - mx)
  rw [show mx + (15 - mx) = 15 by omega, sumS_fill ls n h15, hf] at h2
  cases mx with
  | zero => rw [sumS] at h2; omega
  | succ m =>
    rw [if_neg (by omega)] at h1
    have h3 := firstN_sum ls n m (by omega)
    rw [sumS, ← h3, show 15 - (m + 1) = 14 - m by omega, ← Nat.add_mul] at h2
    have h4 := rev_lt v (m + 1)
    have h5 : (2 : Nat) ^ (m + 1) * 2 ^ (14 - m) = 32768 := by rw [← Nat.pow_add, show m + 1 + (14 - m) = 15 by omega]
    have h6 : (firstN ls n (m + 1) + cntN ls (m + 1) n) * 2 ^ (14 - m) < 2 ^ (m + 1) * 2 ^ (14 - m) := Nat.mul_lt_mul_of_pos_right (Nat.lt_of_le_of_lt h1 h4) (Nat.two_pow_pos _)
    rw [h5, ← h2] at h6
    omega
/-- The greatest length. -/
theorem max_le (ls : Nat → Nat) (n : Nat) (h15 : ∀ i, i < n → ls i ≤ 15) : (if n = 0 then 0 else maxN ls (n - 1)) ≤ 15 := by
  split
  · omega
  · obtain ⟨i, h1, h2⟩ := maxN_mem ls (n - 1)
    rw [← h2]
    exact h15 i (by omega)
theorem le_max (ls : Nat → Nat) (n i : Nat) (hi : i < n) : ls i ≤ (if n = 0 then 0 else maxN ls (n - 1)) := by
  rw [if_neg (by omega)]
  exact maxN_ge ls _ i (by omega)
end Go.Proofs.Ytopjmagbcnglhaa

namespace Go.Proofs.Ytopjmagbcnglhaa
set_option maxRecDepth 100000

/-- Behind a word's length the first words lie beyond it. -/
theorem first_beyond (ls : Nat → Nat) (n l : Nat) (hl : 1 ≤ l) : ∀ d, (firstN ls n l + cntN ls l n) * 2 ^ (d + 1) ≤ firstN ls n (l + (d + 1))
  | 0 => by
    rw [show l + (0 + 1) = l + 1 from rfl, firstN, if_neg (by omega)]
    omega
  | d + 1 => by
    have ih := first_beyond ls n l hl d
    rw [show l + (d + 1 + 1) = (l + (d + 1)) + 1 from rfl, firstN, Nat.pow_succ, ← Nat.mul_assoc]
    exact Nat.mul_le_mul_right 2 (Nat.le_trans ih (Nat.le_add_right _ _))
theorem cnt_lt (ls : Nat → Nat) (l : Nat) : ∀ n i, i < n → ls i = l → cntN ls l i < cntN ls l n
  | 0, i, h, _ => by omega
  | n + 1, i, h, e => by
    rw [cntN]
    by_cases h2 : i = n
    · subst h2
      rw [if_pos e]
      omega
    · have := cnt_lt ls l n i (by omega) e
      omega
theorem word_inj (ls : Nat → Nat) (n i p : Nat) (h : ls i = ls p) (h0 : ls p ≠ 0) (hw : wordN ls n i = wordN ls n p) : i = p := by
  rw [wordN, wordN, if_neg (by omega), if_neg h0, h] at hw
  rcases Nat.lt_trichotomy i p with h1 | h1 | h1
  · have := cnt_lt ls (ls p) p i h1 h
    omega
  · exact h1
  · have := cnt_lt ls (ls p) i p h1 rfl
    omega
theorem sign_right (ls : Nat → Nat) (n v p mx many l e : Nat) (x : Int) (hp : p < n) (h1 : 1 ≤ ls p) (hv : rev v (ls p) = wordN ls n p) (hmx : ls p ≤ mx) (hmany : ls p ≤ many)
    (hs : SignIs ls (wordN ls n) n mx v many x e l) : x = (p : Nat) ∧ e = 0 ∧ l = ls p := by
  have hno : ∀ k, ls p ≤ k → ¬ NoWord ls (wordN ls n) n v k := fun k hk h =>
    find_some ls (wordN ls n) (ls p) (rev v (ls p)) (by omega) n p hp rfl hv.symm (h (ls p) h1 hk)
  rcases hs with ⟨i, rfl, rfl, hl1, _, _, hfi, hn⟩ | ⟨_, _, _, _, hn⟩ | ⟨_, _, _, _, hn⟩
  · obtain ⟨hi, hli, hwi⟩ := find_is ls (wordN ls n) l _ n i hfi
    rcases Nat.lt_trichotomy l (ls p) with h | h | h
    · exfalso
      obtain ⟨d, hd⟩ : ∃ d, ls p = l + (d + 1) := ⟨ls p - l - 1, by omega⟩
      have a1 := first_beyond ls n l hl1 d
      have a2 := rev_div v (d + 1) l
      have a3 : firstN ls n (ls p) ≤ wordN ls n p := by
        rw [wordN, if_neg (by omega)]
        exact Nat.le_add_right _ _
      have a4 : wordN ls n i < firstN ls n l + cntN ls l n := by
        have := cnt_lt ls l n i hi hli
        rw [wordN, if_neg (by omega), hli]
        omega
      rw [← hd, hv] at a2
      rw [← hd] at a1
      have a5 : firstN ls n l + cntN ls l n ≤ wordN ls n p / 2 ^ (d + 1) := (Nat.le_div_iff_mul_le (Nat.two_pow_pos _)).2 (Nat.le_trans a1 a3)
      rw [a2, ← hwi] at a5
      omega
    · subst h
      rw [hv] at hwi
      obtain rfl := word_inj ls n i p (by omega) (by omega) hwi
      exact ⟨rfl, rfl, rfl⟩
    · exact absurd hn (hno _ (by omega))
  · exact absurd hn (hno _ hmany)
  · exact absurd hn (hno _ hmx)
end Go.Proofs.Ytopjmagbcnglhaa

namespace Go.Proofs.Ytopjmagbcnglhaa
open Go.RowKit Go.Joins

theorem rev_rev (v n : Nat) : rev (rev v n) n = v % 2 ^ n := by
  apply Nat.eq_of_testBit_eq
  intro i
  rw [rev_bit, rev_bit, Nat.testBit_mod_two_pow]
  by_cases h : i < n
  · rw [show n - 1 - (n - 1 - i) = i by omega]
    simp [h, show n - 1 - i < n by omega]
  · simp [h]
theorem rev_atT (v n k : Nat) (h : k < n) : rev v n / 2 ^ k % 2 = v / 2 ^ (n - 1 - k) % 2 := by
  have hb := rev_bit v n k
  rw [Nat.testBit_eq_decide_div_mod_eq, Nat.testBit_eq_decide_div_mod_eq] at hb
  simp only [h, decide_true, Bool.true_and] at hb
  have := decide_eq_decide.mp hb
  omega

end Go.Proofs.Ytopjmagbcnglhaa

namespace Go.Proofs.Ytopjmagbcnglhaa
set_option maxRecDepth 100000

/-- The bits and how many they are, behind the first j of the signs q. -/
def btE (ls W q : Nat → Nat) : Nat → Nat × Nat
  | 0 => (0, 0)
  | j + 1 => ((btE ls W q j).1 + rev (W (q j)) (ls (q j)) * 2 ^ (btE ls W q j).2, (btE ls W q j).2 + ls (q j))
theorem btE_ext (ls W q q' : Nat → Nat) : ∀ j, (∀ i, i < j → q i = q' i) → btE ls W q j = btE ls W q' j
  | 0, _ => rfl
  | j + 1, h => by rw [btE, btE, btE_ext ls W q q' j (fun i hi => h i (by omega)), h j (by omega)]
theorem btE_lt (ls W q : Nat → Nat) : ∀ j, (btE ls W q j).1 < 2 ^ (btE ls W q j).2
  | 0 => Nat.one_pos
  | j + 1 => put_lt _ _ _ _ (btE_lt ls W q j) (rev_lt _ _)
theorem btE_mono1 (ls W q : Nat → Nat) (j : Nat) : (btE ls W q j).2 ≤ (btE ls W q (j + 1)).2 ∧ (btE ls W q (j + 1)).1 % 2 ^ (btE ls W q j).2 = (btE ls W q j).1 := by
  have ih := btE_lt ls W q j
  exact ⟨by show _ ≤ _ + _; omega, by show (_ + _ * 2 ^ _) % _ = _; rw [Nat.add_mul_mod_self_right, Nat.mod_eq_of_lt ih]⟩
theorem btE_mono (ls W q : Nat → Nat) (k : Nat) : ∀ d, (btE ls W q k).2 ≤ (btE ls W q (k + d)).2 ∧ (btE ls W q (k + d)).1 % 2 ^ (btE ls W q k).2 = (btE ls W q k).1
  | 0 => ⟨Nat.le_refl _, Nat.mod_eq_of_lt (btE_lt ls W q k)⟩
  | d + 1 => by
    obtain ⟨h1, h2⟩ := btE_mono ls W q k d
    obtain ⟨h3, h4⟩ := btE_mono1 ls W q (k + d)
    refine ⟨Nat.le_trans h1 h3, ?_⟩
    rw [← Nat.mod_mod_of_dvd _ (Nat.pow_dvd_pow 2 h1), ← Nat.add_assoc, h4, h2]
/-- The bits at a place are the word that was put there. -/
theorem btE_at (ls W q : Nat → Nat) (j m : Nat) (hj : j < m) : (btE ls W q m).1 / 2 ^ (btE ls W q j).2 % 2 ^ ls (q j) = rev (W (q j)) (ls (q j)) ∧ (btE ls W q j).2 + ls (q j) ≤ (btE ls W q m).2 := by
  obtain ⟨d, rfl⟩ : ∃ d, m = (j + 1) + d := ⟨m - j - 1, by omega⟩
  obtain ⟨h1, h2⟩ := btE_mono ls W q (j + 1) d
  have hl := btE_lt ls W q j
  rw [show btE ls W q (j + 1) = ((btE ls W q j).1 + rev (W (q j)) (ls (q j)) * 2 ^ (btE ls W q j).2, (btE ls W q j).2 + ls (q j)) from rfl] at h1 h2
  refine ⟨?_, h1⟩
  simp only at h2
  rw [Nat.pow_add] at h2
  have e := congrArg (· / 2 ^ (btE ls W q j).2) h2
  simp only [Nat.mod_mul_right_div_self] at e
  rw [e, Nat.add_mul_div_right _ _ (Nat.two_pow_pos _), Nat.div_eq_of_lt hl, Nat.zero_add]
theorem rev_mod (v l : Nat) : rev v l = rev (v % 2 ^ l) l := by
  apply Nat.eq_of_testBit_eq
  intro i
  rw [rev_bit, rev_bit, Nat.testBit_mod_two_pow]
  by_cases h : i < l
  · simp [h, show l - 1 - i < l by omega]
  · simp [h]
theorem word_lt (ls : Nat → Nat) (n p : Nat) (h15 : ∀ i, i < n → ls i ≤ 15) (hf : fillN ls n ≤ 32768) (hp : p < n) (h1 : 1 ≤ ls p) : wordN ls n p < 2 ^ ls p := by
  have h2 := h15 p hp
  obtain ⟨l, hl⟩ : ∃ l, ls p = l + 1 := ⟨ls p - 1, by omega⟩
  have h3 := firstN_lt ls n h15 hf l (by omega)
  have h4 := cnt_lt ls (ls p) n p hp rfl
  rw [wordN, if_neg (by omega)]
  rw [hl] at h4 ⊢
  omega
/-- A sign that was put is read. -/
theorem back_sign (ls q : Nat → Nat) (n j m mx many N l e : Nat) (x : Int) (h15 : ∀ i, i < n → ls i ≤ 15) (hf : fillN ls n ≤ 32768) (hj : j < m) (hp : q j < n) (h1 : 1 ≤ ls (q j)) (hmx : ls (q j) ≤ mx) (hmany : ls (q j) ≤ many)
    (hN : N = (btE ls (wordN ls n) q m).1) (hs : SignIs ls (wordN ls n) n mx (bitsAt N (btE ls (wordN ls n) q j).2 many) many x e l) : x = (q j : Nat) ∧ e = 0 ∧ l = ls (q j) := by
  refine sign_right ls n _ (q j) mx many l e x hp h1 ?_ hmx hmany hs
  have h2 := (btE_at ls (wordN ls n) q j m hj).1
  rw [rev_mod, bitsAt, Nat.mod_mod_of_dvd _ (Nat.pow_dvd_pow 2 hmany), hN, h2, rev_rev, Nat.mod_eq_of_lt (word_lt ls n _ h15 hf hp h1)]
end Go.Proofs.Ytopjmagbcnglhaa

namespace Go.Proofs.Ytopjmagbcnglhaa
open Go.RowKit Go.Joins

theorem word_lt0 (ls : Nat → Nat) (n : Nat) (h15 : ∀ i, i < n → ls i ≤ 15) (hf : fillN ls n ≤ 32768) (i : Nat) (hi : i < n) : wordN ls n i < 2 ^ ls i := by
  by_cases h : 1 ≤ ls i
  · exact word_lt ls n i h15 hf hi h
  · have h0 : ls i = 0 := by omega
    rw [wordN, if_pos h0, h0]
    decide
theorem rev_low (v m l : Nat) (h : l ≤ m) : rev (v % 2 ^ m) l = rev v l := by
  rw [rev_mod v l, rev_mod (v % 2 ^ m) l, Nat.mod_mod_of_dvd _ (Nat.pow_dvd_pow 2 h)]
theorem noWord_low (ls W : Nat → Nat) (n v m k : Nat) (h : k ≤ m) (hn : NoWord ls W n (v % 2 ^ m) k) : NoWord ls W n v k := fun l h1 h2 => by
  have := hn l h1 h2
  rwa [rev_low v m l (by omega)] at this
theorem signIs_low (ls W : Nat → Nat) (n mx v m : Nat) (x : Int) (e l : Nat) (h : SignIs ls W n mx (v % 2 ^ m) m x e l) : SignIs ls W n mx v m x e l := by
  rcases h with ⟨i, h1, h2, h3, h4, h5, h6, h7⟩ | ⟨h1, h2, h3, h4, h5⟩ | ⟨h1, h2, h3, h4, h5⟩
  · rw [rev_low v m l h5] at h6
    exact .inl ⟨i, h1, h2, h3, h4, h5, h6, noWord_low ls W n v m _ (by omega) h7⟩
  · exact .inr (.inl ⟨h1, h2, h3, h4, noWord_low ls W n v m _ (Nat.le_refl _) h5⟩)
  · exact .inr (.inr ⟨h1, h2, h3, h4, noWord_low ls W n v m _ h4 h5⟩)
theorem noWord_of (ls W : Nat → Nat) (n v k : Nat) (h : NoW ls W n v k) : NoWord ls W n v k := fun l h1 h2 => by
  cases he : findW ls W l (rev v l) n with
  | none => rfl
  | some i =>
    obtain ⟨a, b, c⟩ := find_is ls W l _ n i he
    subst b
    exact absurd c (h i a h1 h2)
theorem noW_of (ls W : Nat → Nat) (n v k : Nat) (h : NoWord ls W n v k) : NoW ls W n v k := fun i hi h1 h2 e =>
  absurd (h (ls i) h1 h2) (find_some ls W (ls i) _ (by omega) n i hi rfl e)
/-- Of a whole code, bits that are fewer than the longest word's and begin with no word begin one. -/
theorem begins_whole (ls : Nat → Nat) (n v mx q : Nat) (h15 : ∀ i, i < n → ls i ≤ 15) (hf : fillN ls n = 32768) (hm : ∀ i, i < n → ls i ≤ mx) (hmx : mx ≤ 15) (hno : NoWord ls (wordN ls n) n v q) : Begins ls (wordN ls n) n v q := by
  have h := whole_any ls n v mx h15 hf hm hmx
  have : ∃ l, 1 ≤ l ∧ l ≤ mx ∧ findW ls (wordN ls n) l (rev v l) n ≠ none := by
    apply Classical.byContradiction
    intro hc
    exact h fun l h1 h2 => Classical.byContradiction fun h3 => hc ⟨l, h1, h2, h3⟩
  obtain ⟨l, h1, h2, h3⟩ := this
  cases he : findW ls (wordN ls n) l (rev v l) n with
  | none => exact absurd he h3
  | some i =>
    obtain ⟨a, b, c⟩ := find_is ls _ l _ n i he
    by_cases hl : l ≤ q
    · rw [hno l h1 hl] at he
      cases he
    · subst b
      refine ⟨i, a, by omega, ?_⟩
      obtain ⟨d, hd⟩ : ∃ d, ls i = q + d := ⟨ls i - q, by omega⟩
      rw [c, hd, show q + d - q = d by omega, rev_div]
theorem begins_open (ls : Nat → Nat) (n v q : Nat) (h15 : ∀ i, i < n → ls i ≤ 15) (hs : sumN ls n ≤ 1) (hf : fillN ls n ≤ 32768) (hq : q < (if n = 0 then 0 else maxN ls (n - 1))) : Begins ls (wordN ls n) n v q := by
  by_cases h0 : n = 0
  · rw [if_pos h0] at hq
    omega
  rw [if_neg h0] at hq
  obtain ⟨i, h1, h2⟩ := maxN_mem ls (n - 1)
  have h3 := sumN_ge ls i n (by omega)
  have h4 := word_lt0 ls n h15 hf i (by omega)
  have h5 : ls i = 1 := by omega
  have h6 : q = 0 := by omega
  subst h6
  rw [h5] at h4
  exact ⟨i, by omega, by omega, by rw [h5]; show wordN ls n i / 2 = 0; omega⟩
theorem signs_alike (ls : Nat → Nat) (n mx v many : Nat) (x y : Int) (e l f k : Nat) (h15 : ∀ i, i < n → ls i ≤ 15) (hm : ∀ i, i < n → ls i ≤ mx) (hmx : mx ≤ 15)
    (hfew : ∀ q, q < mx → NoWord ls (wordN ls n) n v q → Begins ls (wordN ls n) n v q)
    (hs : SignIs ls (wordN ls n) n mx v (min 15 many) x e l) (hd : DSign ls (wordN ls n) n v many y f k) : x = y ∧ e = f ∧ l = k := by
  have hit : ∀ i, findW ls (wordN ls n) l (rev v l) n = some i → 1 ≤ l → ∀ q, l ≤ q → ¬ NoW ls (wordN ls n) n v q := fun i h1 h2 q hq hno => by
    obtain ⟨a, b, c⟩ := find_is ls _ l _ n i h1
    subst b
    exact hno i a h2 hq c
  rcases hd with ⟨i, rfl, rfl, hi, hli, h1, hlm, hw, hno⟩ | ⟨rfl, rfl, rfl, hm15, hno, hb⟩ | ⟨rfl, rfl, rfl, h⟩
  · subst hli
    have := h15 i hi
    exact sign_right ls n v i mx (min 15 many) l e x hi h1 hw.symm (hm i hi) (by omega) hs
  · rcases hs with ⟨i, _, _, h3, _, h5, h6, _⟩ | ⟨h1, h2, h3, _⟩ | ⟨h1, h2, h3, h4, h5⟩
    · exact absurd hno (hit i h6 h3 many (by omega))
    · exact ⟨h1, h2, h3⟩
    · obtain ⟨i, hi, hq, _⟩ := hb
      have := hm i hi
      omega
  · rcases hs with ⟨i, _, _, h3, _, h5, h6, _⟩ | ⟨h1, h2, h3, h4, h5⟩ | ⟨h1, h2, h3, h4, h5⟩
    · rcases h with ⟨_, hno, _⟩ | ⟨_, hno⟩
      · exact absurd hno (hit i h6 h3 many (by omega))
      · exact absurd hno (hit i h6 h3 15 (by omega))
    · rcases h with ⟨hm15, hno, hb⟩ | ⟨h15', _⟩
      · rw [show min 15 many = many by omega] at h4 h5
        exact absurd (hfew many h4 h5) hb
      · omega
    · exact ⟨h1, h2, h3⟩

theorem length_int (B g bm n mx : Nat) (x : Int) (ls W : Nat → Nat) (hls : ∀ i, i < n → ls i < 256) (w : World) (hcd : Cd0 w B g bm ls W n mx) :
    Calls Try.prog 58 #[.pointer (some ⟨g, 0, none⟩), .int .i64 x] w fun e w' => e = .returned (.int .i64 (if 0 ≤ x ∧ x < n then (ls x.toNat : Int) else 0)) ∧ w = w' := by
  by_cases h : 0 ≤ x ∧ x < n
  · obtain ⟨k, rfl⟩ := Int.eq_ofNat_of_zero_le h.1
    rw [if_pos h, Int.toNat_natCast]
    exact length_any B g bm n mx k ls W (by omega) (hls k (by omega)) w hcd
  · rw [if_neg h]
    have HS := Lib.hid (signs_any B g bm n mx ls W w hcd)
    by_cases h0 : x < 0
    · clear h hcd
      go_enter Try.func58, Try.ntmps58
      go_wp2_with (go_at_call 74; refine (HS.out).mono ?_; rintro e w' ⟨rfl, rfl⟩)
      go_ret
      exact ⟨rfl, rfl⟩
    · have h1 : (n : Int) ≤ x := by omega
      clear h hcd
      go_enter Try.func58, Try.ntmps58
      go_wp2_with (go_at_call 74; refine (HS.out).mono ?_; rintro e w' ⟨rfl, rfl⟩)
      go_ret
      exact ⟨rfl, rfl⟩
theorem put_no_int (B g bm n mx gw : Nat) (x : Int) (ls W : Nat → Nat) (hls : ∀ i, i < n → ls i < 256) (hx : x < 0 ∨ (n : Int) ≤ x ∨ ∃ k : Nat, x = (k : Nat) ∧ k < n ∧ ls k = 0) (w : World) (hcd : Cd0 w B g bm ls W n mx) :
    Calls Try.prog 42 #[.pointer (some ⟨g, 0, none⟩), .pointer (some ⟨gw, 0, none⟩), .int .i64 x] w fun e w' => e = .returned (.int .i64 2) ∧ w = w' := by
  have HL := Lib.hid (length_int B g bm n mx x ls W hls w hcd)
  have e0 : (if 0 ≤ x ∧ x < n then (ls x.toNat : Int) else 0) = 0 := by
    by_cases h : 0 ≤ x ∧ x < n
    · rw [if_pos h]
      rcases hx with h1 | h1 | ⟨k, rfl, _, h1⟩
      · omega
      · omega
      · rw [Int.toNat_natCast, h1]
        rfl
    · rw [if_neg h]
  rw [e0] at HL
  clear hcd hx e0
  go_enter Try.func42, Try.ntmps42
  go_wp2_with (go_at_call 58; refine (HL.out).mono ?_; rintro e w1 ⟨rfl, rfl⟩)
  go_ret
  exact ⟨rfl, rfl⟩
end Go.Proofs.Ytopjmagbcnglhaa
