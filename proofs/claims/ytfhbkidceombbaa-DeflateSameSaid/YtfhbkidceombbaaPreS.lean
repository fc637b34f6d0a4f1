/-
  Contracts: codes that are none, readers that are none; the chapter's example of layer 4.
-/
import Derived.Test.YtfhbkidceombbaaPreN
import Derived.Test.YtfhbkidceombbaaBitsN
namespace Go.Proofs.Ytfhbkidceombbaa
set_option maxRecDepth 100000
open Go.RowKit Go.Deep Go.Joins

theorem signs_nil (w : World) : Calls Try.prog 104 #[.pointer none] w fun e w' => e = .returned (.int .i64 0) ∧ w = w' := by
  go_enter Try.func104, Try.ntmps104
  go_wp2
  go_ret
  exact ⟨rfl, rfl⟩
theorem length_nil (w : World) : Calls Try.prog 86 #[.pointer none, .int .i64 0] w fun e w' => e = .returned (.int .i64 0) ∧ w = w' := by
  go_enter Try.func86, Try.ntmps86
  go_wp2_with (go_at_call 104; refine (signs_nil _).mono ?_; rintro e w' ⟨rfl, rfl⟩)
  go_ret
  exact ⟨rfl, rfl⟩
theorem put_nil (p : Value) (x : Int) (w : World) : Calls Try.prog 62 #[.pointer none, p, .int .i64 x] w fun e w' => e = .returned (.int .i64 1) ∧ w = w' := by
  go_enter Try.func62, Try.ntmps62
  go_wp2
  go_ret
  exact ⟨rfl, rfl⟩
theorem put_nil2 (g : Nat) (x : Int) (w : World) : Calls Try.prog 62 #[.pointer (some ⟨g, 0, none⟩), .pointer none, .int .i64 x] w fun e w' => e = .returned (.int .i64 1) ∧ w = w' := by
  go_enter Try.func62, Try.ntmps62
  go_wp2
  go_ret
  exact ⟨rfl, rfl⟩
/-- Lengths written out. -/
def lit (l : List Nat) (i : Nat) : Nat := l.getD i 0
theorem lens_lit (w : World) (l : List Nat) (n : Nat) (hn : l.length = n) (hl : ∀ x ∈ l, x < 256) :
    Lens (w.alloc (.cells (l.map fun x => Value.int .u8 (x : Nat)).toArray 5)) (some ⟨w.heap.size, 0, none⟩) n (lit l) := fun h0 =>
  ⟨w.heap.size, 0, rfl, by simp, fun i hi => by
    have hi' : i < l.length := by omega
    refine ⟨?_, ?_⟩
    · rw [Nat.zero_add, cell_of_row _ _ i _ _ _ (heap_alloc_new w _)]
      simp [lit, hi', List.getD]
    · unfold lit
      rw [List.getD_eq_getElem?_getD, List.getElem?_eq_getElem hi']
      exact hl _ (List.getElem_mem hi')⟩

theorem fill4 : fillN (lit [2, 1, 3, 3]) 4 = 32768 := by decide
theorem small4 : ∀ i, i < 4 → lit [2, 1, 3, 3] i ≤ 15 := by decide
theorem fill2 : fillN (lit [1, 1]) 2 = 32768 := by decide
theorem small2 : ∀ i, i < 2 → lit [1, 1] i ≤ 15 := by decide
theorem word4 : wordN (lit [2, 1, 3, 3]) 4 0 = 2 ∧ wordN (lit [2, 1, 3, 3]) 4 1 = 0 ∧ wordN (lit [2, 1, 3, 3]) 4 2 = 6 ∧ wordN (lit [2, 1, 3, 3]) 4 3 = 7 := by decide

theorem words_ex (w : World) :
    Calls Try.prog 100 #[.slice (some ⟨w.heap.size, 0, none⟩) 4 4] (w.alloc (.cells #[.int .u8 2, .int .u8 1, .int .u8 3, .int .u8 3] 5)) fun e w' => e = .returned (.tuple #[.slice (some ⟨w.heap.size + 1, 0, none⟩) 4 4, .int .i64 0]) ∧ IsRowU w' (w.heap.size + 1) 4 (wordN (lit [2, 1, 3, 3]) 4) ∧ Below (w.heap.size + 1) (w.alloc (.cells #[.int .u8 2, .int .u8 1, .int .u8 3, .int .u8 3] 5)) w' := by
  have h := words_ok (some ⟨w.heap.size, 0, none⟩) 4 4 (lit [2, 1, 3, 3]) (by omega) _ (lens_lit w [2, 1, 3, 3] 4 rfl (by decide)) small4 (by rw [fill4]; exact Nat.le_refl _)
  simp only [World.size_alloc] at h
  exact h
theorem new_ex4 (w : World) :
    Calls Try.prog 84 #[.slice (some ⟨w.heap.size, 0, none⟩) 4 4, .bool false] (w.alloc (.cells #[.int .u8 2, .int .u8 1, .int .u8 3, .int .u8 3] 5)) fun e w' => ∃ g, e = .returned (.tuple #[.pointer (some ⟨g, 0, none⟩), .int .i64 0]) ∧ Below (w.heap.size + 1) (w.alloc (.cells #[.int .u8 2, .int .u8 1, .int .u8 3, .int .u8 3] 5)) w' := by
  have h := new_ok (some ⟨w.heap.size, 0, none⟩) 4 4 false (lit [2, 1, 3, 3]) (by omega) _ (lens_lit w [2, 1, 3, 3] 4 rfl (by decide)) small4 (by rw [fill4]; exact Nat.le_refl _) (.inl fill4)
  simp only [World.size_alloc] at h
  exact h.mono fun e w' ⟨g, h1, _, h3⟩ => ⟨g, h1, h3⟩
theorem new_ex2 (w : World) :
    Calls Try.prog 84 #[.slice (some ⟨w.heap.size, 0, none⟩) 2 2, .bool false] (w.alloc (.cells #[.int .u8 1, .int .u8 1] 5)) fun e w' => ∃ g, e = .returned (.tuple #[.pointer (some ⟨g, 0, none⟩), .int .i64 0]) ∧ Below (w.heap.size + 1) (w.alloc (.cells #[.int .u8 1, .int .u8 1] 5)) w' := by
  have h := new_ok (some ⟨w.heap.size, 0, none⟩) 2 2 false (lit [1, 1]) (by omega) _ (lens_lit w [1, 1] 2 rfl (by decide)) small2 (by rw [fill2]; exact Nat.le_refl _) (.inl fill2)
  simp only [World.size_alloc] at h
  exact h.mono fun e w' ⟨g, h1, _, h3⟩ => ⟨g, h1, h3⟩

theorem below_lit {w0 w w1 : World} {o : Obj} (h : Below w0.heap.size w0 w) (k : Below (w.heap.size + 1) (w.alloc o) w1) : Below w0.heap.size w0 w1 := (h.alloc h.size o).trans (k.mono (by have := h.size; omega))

end Go.Proofs.Ytfhbkidceombbaa
