/-
  Contracts: the reader's Read and Bytes.
-/
import Derived.Test.YtfhbkidceombbaaBitsB
namespace Go.Proofs.Ytfhbkidceombbaa
open Go.RowKit Go.Joins

def readM (s : ByteArray) (a e : Nat) (n : Int) : Nat := if e = 0 ∧ 0 ≤ n ∧ n ≤ 32 ∧ n ≤ (8 * s.size - a : Nat) then n.toNat else 0
def readE (s : ByteArray) (a e : Nat) (n : Int) : Nat := if e ≠ 0 then e else if n < 0 ∨ 32 < n then 2 else if n ≤ (8 * s.size - a : Nat) then 0 else 3
theorem readM_le (s : ByteArray) (a e : Nat) (n : Int) : readM s a e n ≤ 32 := by unfold readM; split <;> omega
theorem readA_le (s : ByteArray) (a e : Nat) (n : Int) (ha : a ≤ 8 * s.size) : a + readM s a e n ≤ 8 * s.size := by unfold readM; split <;> omega

/-- What Bytes takes, from a byte's edge on. -/
def mayB (s : ByteArray) (b e : Nat) (n : Int) : Bool := decide (e = 0 ∧ 0 ≤ n ∧ n ≤ (s.size - b / 8 : Nat))
def pieceB (s : ByteArray) (b e : Nat) (n : Int) : ByteArray := if mayB s b e n then s.extract (b / 8) (b / 8 + n.toNat) else ⟨#[]⟩
def bytA (s : ByteArray) (b e : Nat) (n : Int) : Nat := if mayB s b e n then b + 8 * n.toNat else b
def bytE (s : ByteArray) (b e : Nat) (n : Int) : Nat := if e ≠ 0 then e else if n < 0 then 2 else if n ≤ (s.size - b / 8 : Nat) then 0 else 3
theorem align_8 (a : Nat) : alignA a 0 % 8 = 0 := by unfold alignA; rw [if_pos rfl]; omega
theorem bytA_le (s : ByteArray) (a e : Nat) (n : Int) (ha : a ≤ 8 * s.size) : bytA s (alignA a e) e n ≤ 8 * s.size := by
  have h := alignA_le s a e ha
  unfold bytA
  split
  · rename_i hm
    have hd := of_decide_eq_true hm
    obtain ⟨rfl, h0, h1⟩ := hd
    have := align_8 a
    omega
  · exact h

end Go.Proofs.Ytfhbkidceombbaa
