/-
  What is put, as one number: a word behind the other.
-/
import Derived.Test.YtabpcipfijakjaaPreF
import Derived.Test.YtabpcipfijakjaaBitsTurnsWalk
namespace Go.Proofs.Ytabpcipfijakjaa
set_option maxRecDepth 100000

/-- The bits and how many they are, behind the first j of the signs q. -/
def bt (ls W q : Nat → Nat) : Nat → Nat × Nat
  | 0 => (0, 0)
  | j + 1 => ((bt ls W q j).1 + rev (W (q j)) (ls (q j)) * 2 ^ (bt ls W q j).2, (bt ls W q j).2 + ls (q j))
theorem bt_ext (ls W q q' : Nat → Nat) : ∀ j, (∀ i, i < j → q i = q' i) → bt ls W q j = bt ls W q' j
  | 0, _ => rfl
  | j + 1, h => by rw [bt, bt, bt_ext ls W q q' j (fun i hi => h i (by omega)), h j (by omega)]
theorem bt_lt (ls W q : Nat → Nat) : ∀ j, (bt ls W q j).1 < 2 ^ (bt ls W q j).2
  | 0 => Nat.one_pos
  | j + 1 => put_lt _ _ _ _ (bt_lt ls W q j) (rev_lt _ _)
theorem bt_mono1 (ls W q : Nat → Nat) (j : Nat) : (bt ls W q j).2 ≤ (bt ls W q (j + 1)).2 ∧ (bt ls W q (j + 1)).1 % 2 ^ (bt ls W q j).2 = (bt ls W q j).1 := by
  have ih := bt_lt ls W q j
  exact ⟨by show _ ≤ _ + _; omega, by show (_ + _ * 2 ^ _) % _ = _; rw [Nat.add_mul_mod_self_right, Nat.mod_eq_of_lt ih]⟩
theorem bt_mono (ls W q : Nat → Nat) (k : Nat) : ∀ d, (bt ls W q k).2 ≤ (bt ls W q (k + d)).2 ∧ (bt ls W q (k + d)).1 % 2 ^ (bt ls W q k).2 = (bt ls W q k).1
  | 0 => ⟨Nat.le_refl _, Nat.mod_eq_of_lt (bt_lt ls W q k)⟩
  | d + 1 => by
    obtain ⟨h1, h2⟩ := bt_mono ls W q k d
    obtain ⟨h3, h4⟩ := bt_mono1 ls W q (k + d)
    refine ⟨Nat.le_trans h1 h3, ?_⟩
    rw [← Nat.mod_mod_of_dvd _ (Nat.pow_dvd_pow 2 h1), ← Nat.add_assoc, h4, h2]
/-- The bits at a place are the word that was put there. -/
theorem bt_at (ls W q : Nat → Nat) (j m : Nat) (hj : j < m) : (bt ls W q m).1 / 2 ^ (bt ls W q j).2 % 2 ^ ls (q j) = rev (W (q j)) (ls (q j)) ∧ (bt ls W q j).2 + ls (q j) ≤ (bt ls W q m).2 := by
  obtain ⟨d, rfl⟩ : ∃ d, m = (j + 1) + d := ⟨m - j - 1, by omega⟩
  obtain ⟨h1, h2⟩ := bt_mono ls W q (j + 1) d
  have hl := bt_lt ls W q j
  rw [show bt ls W q (j + 1) = ((bt ls W q j).1 + rev (W (q j)) (ls (q j)) * 2 ^ (bt ls W q j).2, (bt ls W q j).2 + ls (q j)) from rfl] at h1 h2
  refine ⟨?_, h1⟩
  simp only at h2
  rw [Nat.pow_add] at h2
  have e := congrArg (· / 2 ^ (bt ls W q j).2) h2
  simp only [Nat.mod_mul_right_div_self] at e
  rw [e, Nat.add_mul_div_right _ _ (Nat.two_pow_pos _), Nat.div_eq_of_lt hl, Nat.zero_add]
theorem rev_mod (v l : Nat) : rev v l = rev (v % 2 ^ l) l := by
  apply Nat.eq_of_testBit_eq
  intro i
  rw [rev_bit, rev_bit, Nat.testBit_mod_two_pow]
  by_cases h : i < l
  · simp [h, show l - 1 - i < l by omega]
  · simp [h]
theorem word_lt (ls : Nat → Nat) (n p : Nat) (h15 : ∀ i, i < n → ls i ≤ 15) (hf : fillN ls n ≤ 32768) (hp : p < n) (h1 : 1 ≤ ls p) : wordN ls n p < 2 ^ ls p := by
  have h2 := h15 p hp
  obtain ⟨l, hl⟩ : ∃ l, ls p = l + 1 := ⟨ls p - 1, by omega⟩
  have h3 := firstN_lt ls n h15 hf l (by omega)
  have h4 := cnt_lt ls (ls p) n p hp rfl
  rw [wordN, if_neg (by omega)]
  rw [hl] at h4 ⊢
  omega
/-- A sign that was put is read. -/
theorem back_sign (ls q : Nat → Nat) (n j m mx many N l e : Nat) (x : Int) (h15 : ∀ i, i < n → ls i ≤ 15) (hf : fillN ls n ≤ 32768) (hj : j < m) (hp : q j < n) (h1 : 1 ≤ ls (q j)) (hmx : ls (q j) ≤ mx) (hmany : ls (q j) ≤ many)
    (hN : N = (bt ls (wordN ls n) q m).1) (hs : SignIs ls (wordN ls n) n mx (bitsAt N (bt ls (wordN ls n) q j).2 many) many x e l) : x = (q j : Nat) ∧ e = 0 ∧ l = ls (q j) := by
  refine sign_right ls n _ (q j) mx many l e x hp h1 ?_ hmx hmany hs
  have h2 := (bt_at ls (wordN ls n) q j m hj).1
  rw [rev_mod, bitsAt, Nat.mod_mod_of_dvd _ (Nat.pow_dvd_pow 2 hmany), hN, h2, rev_rev, Nat.mod_eq_of_lt (word_lt ls n _ h15 hf hp h1)]
end Go.Proofs.Ytabpcipfijakjaa
