/-
  A slice of texts that came in; the walk of FilterMore as the frame wants it.
-/
import Derived.Test.YtkakegeammajgaaDoorFilterMoreWalk
import Derived.SliceStrings
import Derived.ChangeOld
import Derived.OpenShut
import Derived.Laws.Rows
namespace Go.Proofs.YtkakegeammajgaaDoor
set_option maxRecDepth 100000
set_option linter.unusedVariables false
open Go.RowKit Go.Joins Go.Deep Go.ChangeShapes Go.WideShapes Go.ChangeAt
theorem cells_str1 : Tryd.prog.cellsOf 9 = 1 := by kernel_rfl
theorem txs_row {H : Type} {enc : TypeId × Value → H} {W : World} {fuel : Nat} {a : Option Addr} {len cap : Nat} {x : DataW H × List MemPlace} (h : DataW.trod enc Tryd.prog W 0 (fun _ => true) true fuel 22 [.slice a len cap] = some x) :
    ∃ l : List ByteArray, len = l.length ∧ TxS W a l ∧ (a = none → l = []) ∧ l.length ≤ maxLen ∧ len ≤ cap := by
  rcases open_strings Tryd.underlying22 Tryd.underlying9 cells_str1 h with ⟨hcs, hx⟩ | ⟨ad, len', cap', ss, hcs, _, hl, hm, hz, hx, hcell, hws⟩
  · simp at hcs
    obtain ⟨rfl, rfl, rfl⟩ := hcs
    exact ⟨[], rfl, fun h => absurd h (by decide), fun _ => rfl, Nat.zero_le _, Nat.le_refl _⟩
  · simp at hcs
    obtain ⟨rfl, rfl, rfl⟩ := hcs
    simp only [if_true] at hz
    have hlt : (ss.take len).length = len := by rw [List.length_take]; omega
    refine ⟨ss.take len, hlt.symm, fun h0 => ?_, (fun e => by cases e), by omega, hl⟩
    rw [hlt] at h0
    obtain ⟨b, off, spot⟩ := ad
    have hspot : spot = none := by simpa [Addr.add] using World.cell?_spot (hcell 0 (by omega))
    subst hspot
    have hj : ∀ j y, (ss.take len)[j]? = some y → W.cell? ⟨b, off + j, none⟩ = some (.string y) := fun j y hy => by
      have hj : j < len := by
        have := (List.getElem?_eq_some_iff.1 hy).1
        omega
      rw [List.getElem?_take_of_lt hj] at hy
      have h := hcell j (by omega)
      rw [List.getD_eq_getElem?_getD, hy] at h
      exact (show (⟨b, off, none⟩ : Addr).add j = ⟨b, off + j, none⟩ by simp [Addr.add]) ▸ h
    exact ⟨b, off, rfl, block_lt_of_cell (hj 0 _ (List.getElem?_eq_getElem (by omega))), hj⟩
end Go.Proofs.YtkakegeammajgaaDoor
