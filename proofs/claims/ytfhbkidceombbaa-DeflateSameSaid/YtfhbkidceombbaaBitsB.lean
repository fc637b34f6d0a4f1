/-
  Contracts: the reader's calls: Peek, Skip, Read, Align, Bytes, At, Err.
-/
import Derived.Test.YtfhbkidceombbaaBitsA
namespace Go.Proofs.Ytfhbkidceombbaa
open Go.RowKit Go.Joins

/-- How many bits Peek tells of. -/
def peekM (s : ByteArray) (a e : Nat) (n : Int) : Nat := if e = 0 ∧ 0 ≤ n ∧ n ≤ 32 then min n.toNat (8 * s.size - a) else 0
theorem peekM_le (s : ByteArray) (a e : Nat) (n : Int) : peekM s a e n ≤ 32 := by unfold peekM; split <;> omega
/-- May n bits be gone by? -/
def maySkip (s : ByteArray) (a e : Nat) (n : Int) : Bool := decide (e = 0 ∧ 0 ≤ n ∧ n ≤ (8 * s.size - a : Nat))
def skipA (s : ByteArray) (a e : Nat) (n : Int) : Nat := if e = 0 ∧ 0 ≤ n ∧ n ≤ (8 * s.size - a : Nat) then a + n.toNat else a
def skipE (s : ByteArray) (a e : Nat) (n : Int) : Nat := if e ≠ 0 then e else if n < 0 then 2 else if n ≤ (8 * s.size - a : Nat) then 0 else 3
theorem skipA_le (s : ByteArray) (a e : Nat) (n : Int) (ha : a ≤ 8 * s.size) : skipA s a e n ≤ 8 * s.size := by unfold skipA; split <;> omega

/-- The place behind Align. -/
def alignA (a e : Nat) : Nat := if e = 0 then (a + 7) / 8 * 8 else a
theorem alignA_le (s : ByteArray) (a e : Nat) (ha : a ≤ 8 * s.size) : alignA a e ≤ 8 * s.size := by unfold alignA; split <;> omega
theorem i64_and7 (x : Int) : bits .and .i64 x 7 = x % 8 := by
  have e : (BitVec.ofInt 64 x &&& BitVec.ofInt 64 7).toNat = (x % 8).toNat := by
    rw [BitVec.toNat_and, BitVec.toNat_ofInt, show (BitVec.ofInt 64 7).toNat = 2 ^ 3 - 1 from rfl, Nat.and_two_pow_sub_one_eq_mod]
    omega
  have e2 : bits .and .i64 x 7 = IntKind.i64.wrap ((BitVec.ofInt 64 x &&& BitVec.ofInt 64 7).toNat : Int) := rfl
  rw [e2, e, IntKind.wrap_i64]
  omega
theorem neg_and7 (a : Nat) : bits .and .i64 (-(a : Int)) 7 = ((a + 7) / 8 * 8 - a : Nat) := by
  rw [i64_and7]
  omega

end Go.Proofs.Ytfhbkidceombbaa
