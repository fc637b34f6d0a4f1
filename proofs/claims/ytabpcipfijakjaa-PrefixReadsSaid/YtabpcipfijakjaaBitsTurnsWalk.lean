/-
  The walk of BitsTurns: it returns true, whatever the bits, the count and the place.
-/
import Derived.Test.YtabpcipfijakjaaBitsN
namespace Go.Proofs.Ytabpcipfijakjaa
open Go.RowKit Go.Joins

theorem rev_rev (v n : Nat) : rev (rev v n) n = v % 2 ^ n := by
  apply Nat.eq_of_testBit_eq
  intro i
  rw [rev_bit, rev_bit, Nat.testBit_mod_two_pow]
  by_cases h : i < n
  · rw [show n - 1 - (n - 1 - i) = i by omega]
    simp [h, show n - 1 - i < n by omega]
  · simp [h]
theorem rev_at (v n k : Nat) (h : k < n) : rev v n / 2 ^ k % 2 = v / 2 ^ (n - 1 - k) % 2 := by
  have hb := rev_bit v n k
  rw [Nat.testBit_eq_decide_div_mod_eq, Nat.testBit_eq_decide_div_mod_eq] at hb
  simp only [h, decide_true, Bool.true_and] at hb
  have := decide_eq_decide.mp hb
  omega

end Go.Proofs.Ytabpcipfijakjaa
