/-
  Texts of 0 and 1: what the document's Sign compares.
-/
import Derived.Test.YtabpcipfijakjaaPreV
namespace Go.Proofs.Ytabpcipfijakjaa
set_option maxRecDepth 100000
open Go.RowKit Go.Deep Go.Joins

theorem nums_inj2 {s t : ByteArray} (h : nums s = nums t) : s = t := by rw [← text_nums s, ← text_nums t, h]
/-- One bit more, behind. -/
theorem tx_snoc (x b : Nat) (hb : b < 2) : ∀ q, tx (2 * x + b) (q + 1) = tx x q ++ text [48 + b]
  | 0 => by
    rw [tx, tx, Nat.pow_zero, Nat.div_one, show (2 * x + b) % 2 = b by omega, tx]
    apply ByteArray.ext
    simp [text]
  | q + 1 => by
    have ih := tx_snoc x b hb q
    have e : (2 * x + b) / 2 ^ (q + 1) = x / 2 ^ q := by
      rw [Nat.pow_succ, Nat.mul_comm (2 ^ q) 2, ← Nat.div_div_eq_div_mul, show (2 * x + b) / 2 = x by omega]
    rw [tx, ih, e, tx, ByteArray.append_assoc]
theorem nums_tx (v : Nat) : ∀ k, nums (tx v (k + 1)) = (48 + v / 2 ^ k % 2) :: nums (tx v k) := fun k => by
  have h : 48 + v / 2 ^ k % 2 < 256 := by omega
  rw [tx]
  unfold nums text
  simp
  omega
/-- Such texts are one and the same only where the numbers are. -/
theorem tx_inj (v v' : Nat) : ∀ k, tx v k = tx v' k → v % 2 ^ k = v' % 2 ^ k
  | 0, _ => by rw [Nat.pow_zero, Nat.mod_one, Nat.mod_one]
  | k + 1, h => by
    have h2 := congrArg nums h
    rw [nums_tx, nums_tx] at h2
    injection h2 with ha hb
    have ih := tx_inj v v' k (nums_inj2 hb)
    rw [Nat.mod_pow_succ, Nat.mod_pow_succ, ih, show v / 2 ^ k % 2 = v' / 2 ^ k % 2 by omega]
theorem tx_mod (v : Nat) : ∀ k m, k ≤ m → tx (v % 2 ^ m) k = tx v k
  | 0, _, _ => rfl
  | k + 1, m, h => by
    have e : v % 2 ^ m / 2 ^ k % 2 = v / 2 ^ k % 2 := by
      obtain ⟨d, rfl⟩ : ∃ d, m = k + 1 + d := ⟨m - (k + 1), by omega⟩
      rw [show 2 ^ (k + 1 + d) = 2 ^ k * (2 * 2 ^ d) by rw [Nat.pow_add, Nat.pow_succ, Nat.mul_assoc], Nat.mod_mul_right_div_self, Nat.mod_mul_right_mod]
    rw [tx, tx_mod v k m (by omega), e, tx]
/-- Two such texts. -/
theorem tx_eq (v v' l l' : Nat) (h : v < 2 ^ l) (h' : v' < 2 ^ l') : tx v l = tx v' l' ↔ l = l' ∧ v = v' := by
  constructor
  · intro e
    have hs := congrArg ByteArray.size e
    rw [tx_size, tx_size] at hs
    subst hs
    refine ⟨rfl, ?_⟩
    have := tx_inj v v' l e
    rwa [Nat.mod_eq_of_lt h, Nat.mod_eq_of_lt h'] at this
  · rintro ⟨rfl, rfl⟩
    rfl

/-- A text's beginning. -/
theorem tx_take_nums (v d : Nat) : ∀ q, (nums (tx v (q + d))).take q = nums (tx (v / 2 ^ d) q)
  | 0 => rfl
  | q + 1 => by
    rw [show q + 1 + d = (q + d) + 1 by omega, nums_tx, nums_tx, List.take_succ_cons, tx_take_nums v d q, Nat.div_div_eq_div_mul, ← Nat.pow_add, Nat.add_comm d q]
theorem nums_cut (T : ByteArray) (n : Nat) : nums (T.extract 0 n) = (nums T).take n := by
  unfold nums
  rw [ByteArray.data_extract, Array.toList_extract, List.extract_eq_take_drop, Nat.sub_zero, List.drop_zero, List.map_take]
theorem tx_cut (v l q : Nat) (h : q ≤ l) : (tx v l).extract 0 q = tx (v / 2 ^ (l - q)) q := by
  apply nums_inj2
  rw [nums_cut]
  have e := tx_take_nums v (l - q) q
  rwa [show q + (l - q) = l by omega] at e
/-- The words' texts: which of them is a given text. -/
theorem tx_word (ls W : Nat → Nat) (n q x : Nat) (hq : x < 2 ^ q) (hW : ∀ i, i < n → W i < 2 ^ ls i) (i : Nat) (hi : i < n) : tx (W i) (ls i) = tx x q ↔ ls i = q ∧ W i = x := tx_eq _ _ _ _ (hW i hi) hq
end Go.Proofs.Ytabpcipfijakjaa
