/-
  The walk of MatchChains: it returns true, whatever the text and the bytes.
-/
import Derived.Test.YtfhbkidceombbaaMatI
import Derived.Deep.DeepMust
namespace Go.Proofs.Ytfhbkidceombbaa
set_option maxRecDepth 100000
open Go.Joins Go.RowKit Go.Deep Go.ChangeMaps Go.ChangeShapes Go.WideShapes
open Go.Maps (Keyed IsMap has)

theorem own_int {w : World} {B c : Nat} {A : Option Addr} {o : List Nat} (h : w.ownsRow B 3 1 (.slice A o.length c) o.length (cellsI o)) (h0 : 0 < o.length) :
    ∃ g, A = some ⟨g, 0, none⟩ ∧ B ≤ g ∧ g < w.heap.size ∧ ∀ i, i < o.length → w.cell? ⟨g, i, none⟩ = some (.int .i64 ((o.getD i 0 : Nat) : Int)) := by
  have hl := h.lt
  rcases ownsRow_forms h with ⟨hv, hn⟩ | ⟨g2, cap, hv⟩
  · omega
  · injection hv with hA _ _
    subst hA
    refine ⟨g2, rfl, (hl g2 rfl).1, (hl g2 rfl).2, fun i hi => ?_⟩
    have := h.cellAt i (by omega)
    rw [this]
    simp only [cellsI, List.getElem?_map, List.getElem?_eq_getElem hi, Option.map_some, List.getD_eq_getElem?_getD, Option.getD_some]
end Go.Proofs.Ytfhbkidceombbaa
