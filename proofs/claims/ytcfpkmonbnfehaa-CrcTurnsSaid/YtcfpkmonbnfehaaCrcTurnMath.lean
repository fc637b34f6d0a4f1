/-
  Plain facts on a text in which something is turned within four bytes in a row. No Go in sight.
-/
import Derived.Test.YtcfpkmonbnfehaaCrcMath
namespace Go.Proofs.Ytcfpkmonbnfehaa.Crc
theorem it_none (n : Nat) : it 0 n = n := rfl
theorem it8_low (m : Nat) : it 8 (256 * m) = m := it_pow 8 m
attribute [local irreducible] it st

/-- Bytes, turned by a number's bytes. -/
def turn (t : Nat) : List Nat → List Nat
  | [] => []
  | x :: l => (x ^^^ (t % 256)) :: turn (t / 256) l
theorem turn_len (t : Nat) (l : List Nat) : (turn t l).length = l.length := by
  induction l generalizing t with
  | nil => rfl
  | cons x l ih => simp [turn, ih]
theorem turn_at (t : Nat) (l : List Nat) (j : Nat) : (turn t l)[j]? = (l[j]?).map (· ^^^ (t / 256 ^ j % 256)) := by
  induction l generalizing t j with
  | nil => simp [turn]
  | cons x l ih =>
    cases j with
    | zero => simp [turn]
    | succ j =>
      show (turn (t / 256) l)[j]? = _
      rw [ih, Nat.div_div_eq_div_mul, Nat.pow_succ, Nat.mul_comm 256]
      rfl
theorem raw_cons (c x : Nat) (l : List Nat) : raw c (x :: l) = raw (it 8 (c ^^^ x)) l := rfl
theorem turn_cons (t x : Nat) (l : List Nat) : turn t (x :: l) = (x ^^^ (t % 256)) :: turn (t / 256) l := rfl
theorem it8_split (d t : Nat) : it 8 (d ^^^ t) = it 8 (d ^^^ (t % 256)) ^^^ (t / 256) := by
  have hp := it8_low (t / 256)
  have e : d ^^^ t = (d ^^^ (t % 256)) ^^^ (256 * (t / 256)) := (congrArg (d ^^^ ·) (split_byte t)).trans (Nat.xor_assoc d (t % 256) (256 * (t / 256))).symm
  have e2 := it_xor 8 (d ^^^ (t % 256)) (256 * (t / 256))
  rw [hp] at e2
  exact (congrArg (it 8) e).trans e2
theorem shuffle (c d x y : Nat) : (c ^^^ d) ^^^ (x ^^^ y) = (c ^^^ x) ^^^ (d ^^^ y) := by
  rw [Nat.xor_assoc, Nat.xor_assoc, ← Nat.xor_assoc d x, Nat.xor_comm d x, Nat.xor_assoc x d]
theorem pow_part (t n : Nat) (h : t < 256 ^ (n + 1)) : t / 256 < 256 ^ n := by
  rw [Nat.pow_succ] at h
  exact Nat.div_lt_of_lt_mul (by rw [Nat.mul_comm]; exact h)
theorem raw_turn0 (c d t : Nat) (ht : t < 1) : raw (c ^^^ d) (turn t []) = raw c [] ^^^ it (8 * 0) (d ^^^ t) := by
  have h0 : t = 0 := by omega
  rw [h0, Nat.xor_zero, Nat.mul_zero, it_none]
  rfl
theorem raw_turn1 (n : Nat) (l m : List Nat) (c d t x : Nat) (ih : raw (it 8 (c ^^^ x) ^^^ it 8 (d ^^^ (t % 256))) m = raw (it 8 (c ^^^ x)) l ^^^ it (8 * n) (it 8 (d ^^^ (t % 256)) ^^^ (t / 256))) :
    raw (c ^^^ d) ((x ^^^ (t % 256)) :: m) = raw c (x :: l) ^^^ it (8 * n + 8) (d ^^^ t) := by
  have h1 : raw (c ^^^ d) ((x ^^^ (t % 256)) :: m) = raw (it 8 ((c ^^^ d) ^^^ (x ^^^ (t % 256)))) m := rfl
  have h2 : raw c (x :: l) = raw (it 8 (c ^^^ x)) l := rfl
  rw [h1, h2, shuffle c d x (t % 256), it_xor 8 (c ^^^ x) (d ^^^ (t % 256)), ih, ← it8_split d t, ← it_add (8 * n) 8 (d ^^^ t)]
theorem raw_turn (l : List Nat) (c d t : Nat) (ht : t < 256 ^ l.length) : raw (c ^^^ d) (turn t l) = raw c l ^^^ it (8 * l.length) (d ^^^ t) := by
  induction l generalizing c d t with
  | nil => exact raw_turn0 c d t ht
  | cons x l ih =>
    rw [List.length_cons] at ht
    exact raw_turn1 l.length l (turn (t / 256) l) c d t x (ih _ _ _ (pow_part t l.length ht))

/-- Turned within four bytes, the sum is another one. -/
theorem raw_other (A X B : List Nat) (c t : Nat) (hX : X.length = 4) (ht : t < 4294967296) (h0 : t ≠ 0) (h : raw c (A ++ turn t X ++ B) = raw c (A ++ X ++ B)) : False := by
  rw [raw_append, raw_append, raw_append c (A ++ X), raw_append c A] at h
  have ht4 : t < 256 ^ X.length := by rw [hX]; exact ht
  have h1 := raw_turn X (raw c A) 0 t ht4
  rw [Nat.xor_zero, Nat.zero_xor] at h1
  rw [h1, raw_xor, ← it_add] at h
  have hz : it (8 * B.length + 8 * X.length) t = 0 := by
    have h2 := congrArg (raw (raw (raw c A) X) B ^^^ ·) h
    simp only [Nat.xor_self] at h2
    rw [← Nat.xor_assoc, Nat.xor_self, Nat.zero_xor] at h2
    exact h2
  exact h0 (it_inj0 _ _ ht hz)
end Go.Proofs.Ytcfpkmonbnfehaa.Crc
