/-
  Tokens as values: may one be; what is wrong with one.
-/
import Derived.Test.YtfhbkidceombbaaMatM
import Derived.Deep.DeepMust
namespace Go.Proofs.Ytfhbkidceombbaa
set_option maxRecDepth 100000
open Go.RowKit Go.Deep Go.Joins

/-- A token's cells. -/
def cellT (t : Tok) : List Value := [.int .u8 (t.b : Nat), .int .i64 t.l, .int .i64 t.d]
/-- A token as a value. -/
def valT (t : Tok) : Value := .agg #[.int .u8 (t.b : Nat), .int .i64 t.l, .int .i64 t.d]
/-- A token that Go holds. -/
def TokOk (t : Tok) : Prop := t.b < 256 ∧ -9223372036854775808 ≤ t.l ∧ t.l ≤ 9223372036854775807 ∧ -9223372036854775808 ≤ t.d ∧ t.d ≤ 9223372036854775807

theorem right_any (t : Tok) (w : World) : Calls Try.prog 54 #[valT t] w fun e w' => e = .returned (.bool (rightT t)) ∧ Below w.heap.size w w' := by
  obtain ⟨b, l, d⟩ := t
  unfold valT rightT
  go_enter Try.func54, Try.ntmps54
  by_cases h0 : l = 0
  · simp only [h0, if_true]
    go_wp2
    go_ret
    exact ⟨rfl, (Below.refl _ _).alloc (Nat.le_refl _) _⟩
  · simp only [h0, if_false]
    by_cases h1 : b = 0
    · go_wp2 <;> (go_ret; refine ⟨congrArg (fun x => Ending.returned (.bool x)) ?_, (Below.refl _ _).alloc (Nat.le_refl _) _⟩; rw [Bool.eq_iff_iff]; simp; try omega)
    · go_wp2 <;> (go_ret; refine ⟨congrArg (fun x => Ending.returned (.bool x)) ?_, (Below.refl _ _).alloc (Nat.le_refl _) _⟩; rw [Bool.eq_iff_iff]; simp; try omega)
theorem rright_any (t : Tok) (w : World) : Calls Try.prog 23 #[valT t] w fun e w' => e = .returned (.bool (rightT t)) ∧ Below w.heap.size w w' := by
  obtain ⟨b, l, d⟩ := t
  unfold valT rightT
  go_enter Try.func23, Try.ntmps23
  by_cases h0 : l = 0
  · simp only [h0, if_true]
    go_wp2
    go_ret
    exact ⟨rfl, (Below.refl _ _).alloc (Nat.le_refl _) _⟩
  · simp only [h0, if_false]
    by_cases h1 : b = 0
    · go_wp2 <;> (go_ret; refine ⟨congrArg (fun x => Ending.returned (.bool x)) ?_, (Below.refl _ _).alloc (Nat.le_refl _) _⟩; rw [Bool.eq_iff_iff]; simp; try omega)
    · go_wp2 <;> (go_ret; refine ⟨congrArg (fun x => Ending.returned (.bool x)) ?_, (Below.refl _ _).alloc (Nat.le_refl _) _⟩; rw [Bool.eq_iff_iff]; simp; try omega)
theorem wide_any (t : Tok) (w : World) : Calls Try.prog 76 #[valT t] w fun e w' => e = .returned (.int .i64 (widT t)) ∧ Below w.heap.size w w' := by
  obtain ⟨b, l, d⟩ := t
  unfold valT widT
  go_enter Try.func76, Try.ntmps76
  go_wp2 <;> (go_ret; refine ⟨congrArg (fun x => Ending.returned (.int .i64 x)) ?_, (Below.refl _ _).alloc (Nat.le_refl _) _⟩; show _ = max l 1; omega)
theorem box_cells (t : Tok) (w : World) (T : TypeId) (w1 : World) (h : w1 = w.alloc (.cells #[.int .u8 (t.b : Nat), .int .i64 t.l, .int .i64 t.d] T)) : w1.cell? ⟨w.heap.size, 0, none⟩ = some (.int .u8 (t.b : Nat)) ∧ w1.cell? ⟨w.heap.size, 1, none⟩ = some (.int .i64 t.l) ∧ w1.cell? ⟨w.heap.size, 2, none⟩ = some (.int .i64 t.d) ∧ Below w.heap.size w w1 ∧ w1.heap.size = w.heap.size + 1 := by
  subst h
  refine ⟨?_, ?_, ?_, (Below.refl _ _).alloc (Nat.le_refl _) _, by simp⟩
  · rw [cell_of_row _ _ 0 _ _ _ (heap_alloc_new w _)]; rfl
  · rw [cell_of_row _ _ 1 _ _ _ (heap_alloc_new w _)]; rfl
  · rw [cell_of_row _ _ 2 _ _ _ (heap_alloc_new w _)]; rfl
end Go.Proofs.Ytfhbkidceombbaa
