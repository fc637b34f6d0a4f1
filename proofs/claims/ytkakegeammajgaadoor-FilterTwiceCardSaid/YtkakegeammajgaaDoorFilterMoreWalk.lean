/-
  The walk of FilterMore.
-/
import Derived.Test.YtkakegeammajgaaDoorFiG
namespace Go.Proofs.YtkakegeammajgaaDoor
set_option maxRecDepth 100000
set_option linter.unusedSimpArgs false
set_option linter.unusedVariables false
open Go.RowKit Go.Joins Go.Deep
open Go.Lib hiding intOf
/-- A filter in a block of its own. -/
def FilB (w : World) (f : Nat) (s1 s2 : Value) (ins outs : List (List Atm)) : Prop := w.heap[f]? = some (Obj.cells #[s1, s2] 29 (0, 0)) ∧ FilV w (.agg #[s1, s2]) ins outs
theorem FilB.below {w w' : World} {f : Nat} {s1 s2 : Value} {ins outs : List (List Atm)} (h : FilB w f s1 s2 ins outs) (hb : Below w.heap.size w w') : FilB w' f s1 s2 ins outs := ⟨(hb.block f (lt_of_block h.1)).trans h.1, h.2.below hb⟩
theorem FilB.c0 {w : World} {f : Nat} {s1 s2 : Value} {ins outs : List (List Atm)} (h : FilB w f s1 s2 ins outs) : w.cell? ⟨f, 0, none⟩ = some s1 := (cell_of_row _ _ 0 _ _ _ h.1).trans rfl
theorem FilB.c1 {w : World} {f : Nat} {s1 s2 : Value} {ins outs : List (List Atm)} (h : FilB w f s1 s2 ins outs) : w.cell? ⟨f, 1, none⟩ = some s2 := (cell_of_row _ _ 1 _ _ _ h.1).trans rfl
theorem filB_new {w : World} {s1 s2 : Value} {ins outs : List (List Atm)} (h : FilV w (.agg #[s1, s2]) ins outs) : FilB (w.alloc (.cells #[s1, s2] 29)) w.heap.size s1 s2 ins outs := ⟨heap_alloc_new w _, h.below (below_al w _)⟩
theorem below_grown {w w' : World} (h : w.grownBy w' none) : Below w.heap.size w w' := (Below.refl _ _).grown h (Nat.le_refl _) (fun j hj => by cases hj)
theorem mak_ok {w w' : World} {e : Ending} {ssi sso : List ByteArray} {ins outs : List (List Atm)} (h : MakR w ssi sso e w') (h1 : ssi.map cmp1 = ins.map some) (h2 : sso.map cmp1 = outs.map some) : ∃ A1 c1 A2 c2, e = .returned (.tuple #[.agg #[.slice A1 ins.length c1, .slice A2 outs.length c2], .int .i64 0]) ∧ FilV w' (.agg #[.slice A1 ins.length c1, .slice A2 outs.length c2]) ins outs ∧ Below w.heap.size w w' := by
  have no : ∀ (ss : List ByteArray) (ps : List (List Atm)), ss.map cmp1 = ps.map some → ∀ s ∈ ss, cmp1 s ≠ none := fun ss ps hh s hs hn => by
    have hm : cmp1 s ∈ ps.map some := by rw [← hh]; exact List.mem_map_of_mem hs
    rw [hn] at hm
    obtain ⟨y, _, hy⟩ := List.mem_map.1 hm
    cases hy
  rcases h with ⟨⟨s, hs, hn⟩, _⟩ | ⟨ins', outs', A1, c1, A2, c2, g1, g2, rfl, hF, hb⟩
  · rcases List.mem_append.1 hs with hs | hs
    · exact absurd hn (no _ _ h1 s hs)
    · exact absurd hn (no _ _ h2 s hs)
  · obtain rfl : ins' = ins := map_one (g1.symm.trans h1)
    obtain rfl : outs' = outs := map_one (g2.symm.trans h2)
    exact ⟨A1, c1, A2, c2, rfl, hF, hb⟩
theorem mak_no {w w' : World} {e : Ending} {ssi sso : List ByteArray} (h : MakR w ssi sso e w') (hs : ∃ s ∈ ssi ++ sso, cmp1 s = none) : e = .returned (.tuple #[.agg #[.slice none 0 0, .slice none 0 0], .int .i64 22]) ∧ Below w.heap.size w w' := by
  rcases h with ⟨_, h1, h2⟩ | ⟨ins', outs', A1, c1, A2, c2, g1, g2, rfl, hF, hb⟩
  · exact ⟨h1, h2⟩
  · exfalso
    obtain ⟨s, hs1, hs2⟩ := hs
    have hm : cmp1 s ∈ (ssi ++ sso).map cmp1 := List.mem_map_of_mem hs1
    rw [List.map_append, g1, g2, hs2] at hm
    rcases List.mem_append.1 hm with hm | hm
    · obtain ⟨y, _, hy⟩ := List.mem_map.1 hm; cases hy
    · obtain ⟨y, _, hy⟩ := List.mem_map.1 hm; cases hy
end Go.Proofs.YtkakegeammajgaaDoor
