/-
  Contracts: the document's within and One.
-/
import Derived.Test.YtkakegeammajgaaDoorNamE
namespace Go.Proofs.YtkakegeammajgaaDoor
set_option maxRecDepth 100000
open Go.RowKit Go.Deep Go.Joins Go.Lib

/-- Is the byte at a place from low to high? -/
def wiB (s : ByteArray) (p lo hi : Nat) : Bool := if h : p < s.size then decide (lo ≤ s[p].toNat) && decide (s[p].toNat ≤ hi) else false
theorem wi_yes {s : ByteArray} {p lo hi : Nat} (h : wiB s p lo hi = true) : ∃ hp : p < s.size, lo ≤ s[p].toNat ∧ s[p].toNat ≤ hi := by
  unfold wiB at h
  by_cases hp : p < s.size
  · rw [dif_pos hp] at h
    simp at h
    exact ⟨hp, h⟩
  · rw [dif_neg hp] at h; cases h
end Go.Proofs.YtkakegeammajgaaDoor
