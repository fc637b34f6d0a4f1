/-
  Contracts: digits, Text; the chapter's examples.
-/
import Derived.Test.YtmbifoockenniaaDoorStI
import Derived.Test.YtmbifoockenniaaDoorSDoor
import Derived.Test.YtmbifoockenniaaDoorBytesMath
namespace Go.Proofs.YtmbifoockenniaaDoor
set_option maxRecDepth 100000
open Go.RowKit Go.Joins Go.Deep Go.Sort
attribute [local go_sem ↓] Go.wp_at_zero Go.wp_at_succ

/-- The last k digits of a number. -/
def dgs (n : Nat) : Nat → List Nat
  | 0 => []
  | k + 1 => dgs (n / 10) k ++ [48 + n % 10]
theorem dgs_len (k : Nat) : ∀ n, (dgs n k).length = k := by
  induction k with
  | zero => intro n; rfl
  | succ k ih => intro n; simp [dgs, ih]
theorem dgs_lt (k : Nat) : ∀ n, ∀ x ∈ dgs n k, 48 ≤ x ∧ x < 58 := by
  induction k with
  | zero => intro n x hx; cases hx
  | succ k ih =>
    intro n x hx
    rw [dgs, List.mem_append] at hx
    rcases hx with hx | hx
    · exact ih _ x hx
    · simp at hx; omega
theorem dgs_zero (k : Nat) : dgs 0 k = List.replicate k 48 := by
  induction k with
  | zero => rfl
  | succ k ih => rw [dgs, Nat.zero_div, ih, List.replicate_succ']
/-- The shortest digits, as the library has them. -/
theorem dec_len (n : Nat) : 1 ≤ (Lib.decDigits n).length := by
  rw [Lib.decDigits]
  split
  · simp
  · simp
theorem dec_pad (k : Nat) : ∀ n, n < 10 ^ (k + 1) → (Lib.decDigits n).length ≤ k + 1 ∧ List.replicate (k + 1 - (Lib.decDigits n).length) 48 ++ (Lib.decDigits n).map UInt8.toNat = dgs n (k + 1) := by
  induction k with
  | zero =>
    intro n hn
    have h10 : n < 10 := by simpa using hn
    rw [Lib.decDigits, dif_pos h10]
    have : (UInt8.ofNat (48 + n)).toNat = 48 + n := Nat.mod_eq_of_lt (by omega)
    refine ⟨Nat.le_refl _, ?_⟩
    rw [List.map_cons, this, List.map_nil, dgs, dgs, Nat.mod_eq_of_lt h10]
    rfl
  | succ k ih =>
    intro n hn
    by_cases h10 : n < 10
    · rw [Lib.decDigits, dif_pos h10]
      have : (UInt8.ofNat (48 + n)).toNat = 48 + n := Nat.mod_eq_of_lt (by omega)
      refine ⟨by rw [List.length_singleton]; omega, ?_⟩
      rw [dgs, Nat.div_eq_of_lt h10, dgs_zero, List.map_cons, this, List.map_nil, Nat.mod_eq_of_lt h10]
      rfl
    · rw [Lib.decDigits, dif_neg h10]
      obtain ⟨h1, h2⟩ := ih (n / 10) (by rw [Nat.pow_succ] at hn; omega)
      have : (UInt8.ofNat (48 + n % 10)).toNat = 48 + n % 10 := Nat.mod_eq_of_lt (by omega)
      refine ⟨by rw [List.length_append, List.length_singleton]; omega, ?_⟩
      rw [dgs, ← h2, List.map_append, List.map_cons, this, List.map_nil, List.length_append, List.length_singleton, List.append_assoc]
      congr 2
      omega
theorem dec_head (n : Nat) : Lib.hasPrefix (Lib.decDigits n) [45] = false := by
  have key : ∀ k, ∀ n, n < 10 ^ (k + 1) → ∀ x, (Lib.decDigits n).head? = some x → x ≠ 45 := by
    intro k
    induction k with
    | zero =>
      intro n hn x hx
      have h10 : n < 10 := by simpa using hn
      rw [Lib.decDigits, dif_pos h10] at hx
      have hx' : UInt8.ofNat (48 + n) = x := Option.some.inj hx
      intro e
      have h1 := congrArg UInt8.toNat (hx'.trans e)
      rw [show (UInt8.ofNat (48 + n)).toNat = 48 + n from Nat.mod_eq_of_lt (by omega), show UInt8.toNat 45 = 45 from rfl] at h1
      omega
    | succ k ih =>
      intro n hn x hx
      by_cases h10 : n < 10
      · exact ih n (Nat.lt_of_lt_of_le h10 (Nat.pow_le_pow_right (n := 10) (by omega) (show 1 ≤ k + 1 by omega))) x hx
      · rw [Lib.decDigits, dif_neg h10] at hx
        have hl := dec_len (n / 10)
        cases hd : Lib.decDigits (n / 10) with
        | nil => rw [hd] at hl; simp at hl
        | cons a l =>
          rw [hd] at hx
          exact ih (n / 10) (by rw [Nat.pow_succ] at hn; omega) x (by rw [hd]; simpa using hx)
  have hp : n < 10 ^ (n + 1) := by
    have := Nat.lt_pow_self (n := n) (show 1 < 10 by omega)
    exact Nat.lt_of_lt_of_le this (Nat.pow_le_pow_right (n := 10) (by omega) (by omega))
  unfold Lib.hasPrefix
  cases hd : Lib.decDigits n with
  | nil => rfl
  | cons a l =>
    have := key n n hp a (by rw [hd]; rfl)
    simp [List.isPrefixOf, Ne.symm this]
theorem itoa_nat (n : Nat) : Lib.itoa (n : Int) = Lib.decDigits n := by
  unfold Lib.itoa
  rw [if_neg (by omega), Int.toNat_natCast]
theorem below_grow (w : World) (k : Nat) (os : Array Obj) : Below w.heap.size w (grow (w.drewN k) os) :=
  ⟨rfl, rfl, rfl, by simp [grow], fun i hi => by
    show (w.heap ++ os)[i]? = _
    rw [Array.getElem?_append_left hi]⟩
end Go.Proofs.YtmbifoockenniaaDoor
