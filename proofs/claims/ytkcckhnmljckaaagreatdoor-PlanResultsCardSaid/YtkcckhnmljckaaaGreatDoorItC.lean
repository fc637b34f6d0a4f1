/-
  Items: slices.Clone.
-/
import Derived.Test.YtkcckhnmljckaaaGreatDoorItA
namespace Go.Proofs.YtkcckhnmljckaaaGreatDoor
set_option maxRecDepth 100000
set_option linter.unusedSimpArgs false
set_option linter.unusedVariables false
open Go.RowKit Go.Joins Go.Deep
theorem partsI : ∃ i0, Tryz.prog.info? 42 = some i0 ∧ i0.zero = some (.agg #[.string ⟨#[]⟩, .int .i64 0, .int .u32 0, .int .u32 0, .int .u32 0, .int .i64 0, .int .i64 0, .string ⟨#[]⟩]) ∧ i0.size = 8 ∧ i0.bytes = 72 := by
  have h := parts_item
  cases hq : Tryz.prog.info? 42 with
  | none => rw [hq] at h; cases h
  | some i =>
    rw [hq] at h
    simp only [Option.map_some, Option.some.injEq, Prod.mk.injEq] at h
    exact ⟨i, rfl, h.1, h.2.1, h.2.2⟩
/-- What a slice of items is that was made: nothing, or a block of its own. -/
def NewI (w : World) (B : Nat) (A : Option Addr) (l : List Itm) : Prop := l = [] ∨ ∃ g, A = some ⟨g, 0, none⟩ ∧ B ≤ g ∧ IO w g l
theorem NewI.itms {w : World} {B : Nat} {A : Option Addr} {l : List Itm} (h : NewI w B A l) : Itms w A l := by
  rcases h with rfl | ⟨g, rfl, _, h⟩
  · exact Itms.nil _ _
  · exact h.itms
end Go.Proofs.YtkcckhnmljckaaaGreatDoor
