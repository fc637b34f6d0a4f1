/-
  Tokens as values: may one be; what is wrong with one.
-/
import Derived.Test.YtblojfgbdmnccaaMatM
import Derived.Deep.DeepMust
namespace Go.Proofs.Ytblojfgbdmnccaa
set_option maxRecDepth 100000
open Go.RowKit Go.Deep Go.Joins

/-- A token's cells. -/
def cellT (t : Tok) : List Value := [.int .u8 (t.b : Nat), .int .i64 t.l, .int .i64 t.d]
/-- A token as a value. -/
def valT (t : Tok) : Value := .agg #[.int .u8 (t.b : Nat), .int .i64 t.l, .int .i64 t.d]
/-- A token that Go holds. -/
def TokOk (t : Tok) : Prop := t.b < 256 ∧ -9223372036854775808 ≤ t.l ∧ t.l ≤ 9223372036854775807 ∧ -9223372036854775808 ≤ t.d ∧ t.d ≤ 9223372036854775807

theorem right_any (t : Tok) (w : World) : Calls Try.prog 27 #[valT t] w fun e w' => e = .returned (.bool (rightT t)) ∧ Below w.heap.size w w' := by
  obtain ⟨b, l, d⟩ := t
  unfold valT rightT
  go_enter Try.func27, Try.ntmps27
  by_cases h0 : l = 0
  · simp only [h0, if_true]
    go_wp2
    go_ret
    exact ⟨rfl, (Below.refl _ _).alloc (Nat.le_refl _) _⟩
  · simp only [h0, if_false]
    by_cases h1 : b = 0
    · go_wp2 <;> (go_ret; refine ⟨congrArg (fun x => Ending.returned (.bool x)) ?_, (Below.refl _ _).alloc (Nat.le_refl _) _⟩; rw [Bool.eq_iff_iff]; simp; try omega)
    · go_wp2 <;> (go_ret; refine ⟨congrArg (fun x => Ending.returned (.bool x)) ?_, (Below.refl _ _).alloc (Nat.le_refl _) _⟩; rw [Bool.eq_iff_iff]; simp; try omega)
theorem rright_any (t : Tok) (w : World) : Calls Try.prog 28 #[valT t] w fun e w' => e = .returned (.bool (rightT t)) ∧ Below w.heap.size w w' := by
  obtain ⟨b, l, d⟩ := t
  unfold valT rightT
  go_enter Try.func28, Try.ntmps28
  by_cases h0 : l = 0
  · simp only [h0, if_true]
    go_wp2
    go_ret
    exact ⟨rfl, (Below.refl _ _).alloc (Nat.le_refl _) _⟩
  · simp only [h0, if_false]
    by_cases h1 : b = 0
    · go_wp2 <;> (go_ret; refine ⟨congrArg (fun x => Ending.returned (.bool x)) ?_, (Below.refl _ _).alloc (Nat.le_refl _) _⟩; rw [Bool.eq_iff_iff]; simp; try omega)
    · go_wp2 <;> (go_ret; refine ⟨congrArg (fun x => Ending.returned (.bool x)) ?_, (Below.refl _ _).alloc (Nat.le_refl _) _⟩; rw [Bool.eq_iff_iff]; simp; try omega)
theorem wide_any (t : Tok) (w : World) : Calls Try.prog 68 #[valT t] w fun e w' => e = .returned (.int .i64 (widT t)) ∧ Below w.heap.size w w' := by
  obtain ⟨b, l, d⟩ := t
  unfold valT widT
  go_enter Try.func68, Try.ntmps68
  go_wp2 <;> (go_ret; refine ⟨congrArg (fun x => Ending.returned (.int .i64 x)) ?_, (Below.refl _ _).alloc (Nat.le_refl _) _⟩; show _ = max l 1; omega)
theorem box_cells (t : Tok) (w : World) (T : TypeId) (w1 : World) (h : w1 = w.alloc (.cells #[.int .u8 (t.b : Nat), .int .i64 t.l, .int .i64 t.d] T)) : w1.cell? ⟨w.heap.size, 0, none⟩ = some (.int .u8 (t.b : Nat)) ∧ w1.cell? ⟨w.heap.size, 1, none⟩ = some (.int .i64 t.l) ∧ w1.cell? ⟨w.heap.size, 2, none⟩ = some (.int .i64 t.d) ∧ Below w.heap.size w w1 ∧ w1.heap.size = w.heap.size + 1 := by
  subst h
  refine ⟨?_, ?_, ?_, (Below.refl _ _).alloc (Nat.le_refl _) _, by simp⟩
  · rw [cell_of_row _ _ 0 _ _ _ (heap_alloc_new w _)]; rfl
  · rw [cell_of_row _ _ 1 _ _ _ (heap_alloc_new w _)]; rfl
  · rw [cell_of_row _ _ 2 _ _ _ (heap_alloc_new w _)]; rfl
theorem fits_any (t : Tok) (ht : TokOk t) (m : Nat) (hm : m ≤ 1048576) (w : World) : Calls Try.prog 65 #[valT t, .int .i64 (m : Nat)] w fun e w' => e = .returned (.int .i64 (fitsT t m : Nat)) ∧ Below w.heap.size w w' := by
  have HR := Lib.hid (right_any t)
  have HW := Lib.hid (wide_any t)
  have hw1 : widT t ≤ 9223372036854775807 := by unfold widT; have := ht.2.2.1; omega
  have hw2 : 1 ≤ widT t := by unfold widT; omega
  have hd := ht.2.2.2
  have hbox := box_cells t w 56 _ rfl
  unfold fitsT
  obtain ⟨b, l, d⟩ := t
  unfold valT at *
  simp only at hd hbox ⊢
  generalize rightT ⟨b, l, d⟩ = r at *
  generalize widT ⟨b, l, d⟩ = x at *
  generalize hW1 : w.alloc (.cells #[.int .u8 (b : Nat), .int .i64 l, .int .i64 d] 56) = w1 at *
  have HW1 := Lib.hid hW1
  clear ht hW1
  obtain ⟨c0, c1, c2, hb1, hs1⟩ := hbox
  go_enter Try.func65, Try.ntmps65
  cases r with
  | false =>
    go_wp2_with (go_at_call 27; rw [HW1.out]; refine (HR.out _).mono ?_; rintro e w2 ⟨rfl, hb2⟩)
    go_ret
    exact ⟨rfl, hb1.trans (hb2.mono (by omega))⟩
  | true =>
    go_wp2_with first
      | (go_at_call 27; rw [HW1.out]; refine (HR.out _).mono ?_; rintro e w2 ⟨rfl, hb2⟩; have d0 := (hb2.cell (p := ⟨w.heap.size, 0, none⟩) (by show w.heap.size < _; omega)).trans c0; have d1 := (hb2.cell (p := ⟨w.heap.size, 1, none⟩) (by show w.heap.size < _; omega)).trans c1; have d2 := (hb2.cell (p := ⟨w.heap.size, 2, none⟩) (by show w.heap.size < _; omega)).trans c2)
      | (go_at_call 68; refine (HW.out _).mono ?_; rintro e w3 ⟨rfl, hb3⟩)
    · go_ret
      exact ⟨rfl, hb1.trans (hb2.mono (by omega))⟩
    · go_ret
      exact ⟨rfl, hb1.trans ((hb2.mono (by omega)).trans (hb3.mono (by have := hb2.size; omega)))⟩
    · go_ret
      exact ⟨rfl, hb1.trans ((hb2.mono (by omega)).trans (hb3.mono (by have := hb2.size; omega)))⟩
end Go.Proofs.Ytblojfgbdmnccaa
