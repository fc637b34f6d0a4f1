/-
  Contracts: codes that are none, readers that are none; the chapter's example of layer 4.
-/
import Derived.Test.YtabpcipfijakjaaPreN
import Derived.Test.YtabpcipfijakjaaBitsN
namespace Go.Proofs.Ytabpcipfijakjaa
set_option maxRecDepth 100000
open Go.RowKit Go.Deep Go.Joins

theorem signs_nil (w : World) : Calls Try.prog 52 #[.pointer none] w fun e w' => e = .returned (.int .i64 0) ∧ w = w' := by
  go_enter Try.func52, Try.ntmps52
  go_wp2
  go_ret
  exact ⟨rfl, rfl⟩
theorem length_nil (w : World) : Calls Try.prog 18 #[.pointer none, .int .i64 0] w fun e w' => e = .returned (.int .i64 0) ∧ w = w' := by
  go_enter Try.func18, Try.ntmps18
  go_wp2_with (go_at_call 52; refine (signs_nil _).mono ?_; rintro e w' ⟨rfl, rfl⟩)
  go_ret
  exact ⟨rfl, rfl⟩
theorem put_nil (p : Value) (x : Int) (w : World) : Calls Try.prog 16 #[.pointer none, p, .int .i64 x] w fun e w' => e = .returned (.int .i64 1) ∧ w = w' := by
  go_enter Try.func16, Try.ntmps16
  go_wp2
  go_ret
  exact ⟨rfl, rfl⟩
theorem put_nil2 (g : Nat) (x : Int) (w : World) : Calls Try.prog 16 #[.pointer (some ⟨g, 0, none⟩), .pointer none, .int .i64 x] w fun e w' => e = .returned (.int .i64 1) ∧ w = w' := by
  go_enter Try.func16, Try.ntmps16
  go_wp2
  go_ret
  exact ⟨rfl, rfl⟩
theorem sign_nil (p : Value) (w : World) : Calls Try.prog 13 #[.pointer none, p] w fun e w' => e = .returned (.tuple #[.int .i64 (-1), .int .i64 1]) ∧ w = w' := by
  go_enter Try.func13, Try.ntmps13
  go_wp2
  go_ret2
  exact ⟨rfl, rfl⟩
theorem sign_nil2 (g : Nat) (w : World) : Calls Try.prog 13 #[.pointer (some ⟨g, 0, none⟩), .pointer none] w fun e w' => e = .returned (.tuple #[.int .i64 (-1), .int .i64 1]) ∧ w = w' := by
  go_enter Try.func13, Try.ntmps13
  go_wp2_with (go_at_call 45; refine (err_nil _).mono ?_; rintro e w' ⟨rfl, rfl⟩)
  go_ret2
  exact ⟨rfl, rfl⟩

/-- Lengths written out. -/
def lit (l : List Nat) (i : Nat) : Nat := l.getD i 0
theorem lens_lit (w : World) (l : List Nat) (n : Nat) (hn : l.length = n) (hl : ∀ x ∈ l, x < 256) :
    Lens (w.alloc (.cells (l.map fun x => Value.int .u8 (x : Nat)).toArray 5)) (some ⟨w.heap.size, 0, none⟩) n (lit l) := fun h0 =>
  ⟨w.heap.size, 0, rfl, by simp, fun i hi => by
    have hi' : i < l.length := by omega
    refine ⟨?_, ?_⟩
    · rw [Nat.zero_add, cell_of_row _ _ i _ _ _ (heap_alloc_new w _)]
      simp [lit, hi', List.getD]
    · unfold lit
      rw [List.getD_eq_getElem?_getD, List.getElem?_eq_getElem hi']
      exact hl _ (List.getElem_mem hi')⟩

theorem fill4 : fillN (lit [2, 1, 3, 3]) 4 = 32768 := by decide
theorem small4 : ∀ i, i < 4 → lit [2, 1, 3, 3] i ≤ 15 := by decide
theorem fill2 : fillN (lit [1, 1]) 2 = 32768 := by decide
theorem small2 : ∀ i, i < 2 → lit [1, 1] i ≤ 15 := by decide
theorem word4 : wordN (lit [2, 1, 3, 3]) 4 0 = 2 ∧ wordN (lit [2, 1, 3, 3]) 4 1 = 0 ∧ wordN (lit [2, 1, 3, 3]) 4 2 = 6 ∧ wordN (lit [2, 1, 3, 3]) 4 3 = 7 := by decide

theorem words_ex (w : World) :
    Calls Try.prog 39 #[.slice (some ⟨w.heap.size, 0, none⟩) 4 4] (w.alloc (.cells #[.int .u8 2, .int .u8 1, .int .u8 3, .int .u8 3] 5)) fun e w' => e = .returned (.tuple #[.slice (some ⟨w.heap.size + 1, 0, none⟩) 4 4, .int .i64 0]) ∧ IsRowU w' (w.heap.size + 1) 4 (wordN (lit [2, 1, 3, 3]) 4) ∧ Below (w.heap.size + 1) (w.alloc (.cells #[.int .u8 2, .int .u8 1, .int .u8 3, .int .u8 3] 5)) w' := by
  have h := words_ok (some ⟨w.heap.size, 0, none⟩) 4 4 (lit [2, 1, 3, 3]) (by omega) _ (lens_lit w [2, 1, 3, 3] 4 rfl (by decide)) small4 (by rw [fill4]; exact Nat.le_refl _)
  simp only [World.size_alloc] at h
  exact h
theorem new_ex4 (w : World) :
    Calls Try.prog 10 #[.slice (some ⟨w.heap.size, 0, none⟩) 4 4, .bool false] (w.alloc (.cells #[.int .u8 2, .int .u8 1, .int .u8 3, .int .u8 3] 5)) fun e w' => ∃ g, e = .returned (.tuple #[.pointer (some ⟨g, 0, none⟩), .int .i64 0]) ∧ Below (w.heap.size + 1) (w.alloc (.cells #[.int .u8 2, .int .u8 1, .int .u8 3, .int .u8 3] 5)) w' := by
  have h := new_ok (some ⟨w.heap.size, 0, none⟩) 4 4 false (lit [2, 1, 3, 3]) (by omega) _ (lens_lit w [2, 1, 3, 3] 4 rfl (by decide)) small4 (by rw [fill4]; exact Nat.le_refl _) (.inl fill4)
  simp only [World.size_alloc] at h
  exact h.mono fun e w' ⟨g, h1, _, h3⟩ => ⟨g, h1, h3⟩
theorem new_ex2 (w : World) :
    Calls Try.prog 10 #[.slice (some ⟨w.heap.size, 0, none⟩) 2 2, .bool false] (w.alloc (.cells #[.int .u8 1, .int .u8 1] 5)) fun e w' => ∃ g, e = .returned (.tuple #[.pointer (some ⟨g, 0, none⟩), .int .i64 0]) ∧ Below (w.heap.size + 1) (w.alloc (.cells #[.int .u8 1, .int .u8 1] 5)) w' := by
  have h := new_ok (some ⟨w.heap.size, 0, none⟩) 2 2 false (lit [1, 1]) (by omega) _ (lens_lit w [1, 1] 2 rfl (by decide)) small2 (by rw [fill2]; exact Nat.le_refl _) (.inl fill2)
  simp only [World.size_alloc] at h
  exact h.mono fun e w' ⟨g, h1, _, h3⟩ => ⟨g, h1, h3⟩

theorem below_lit {w0 w w1 : World} {o : Obj} (h : Below w0.heap.size w0 w) (k : Below (w.heap.size + 1) (w.alloc o) w1) : Below w0.heap.size w0 w1 := (h.alloc h.size o).trans (k.mono (by have := h.size; omega))

set_option maxHeartbeats 2000000 in
theorem awake4_any (w : World) :
    Calls Try.prog 9 #[] w fun e w' => e = .returned (.bool true) ∧ Below w.heap.size w w' := by
  obtain ⟨e0, e1, e2, e3⟩ := word4
  go_enter Try.func9, Try.ntmps9
  go_wp2_with fail
  refine (words_ex _).mono ?_; rintro e w1 ⟨rfl, hr1, hb1⟩
  have HR1 := Lib.hid hr1
  have HB1 := Lib.hid (below_lit (Below.refl w.heap.size w) hb1)
  clear hr1 hb1
  go_wp2_with fail
  refine (new_ex4 _).mono ?_; rintro e w2 ⟨g, rfl, hb2⟩
  have hr2 : IsRowU w2 (w.heap.size + 1) 4 (wordN (lit [2, 1, 3, 3]) 4) := (HR1.out.alloc _).below hb2 (Nat.lt_succ_of_lt HR1.out.lt)
  have HB2 := Lib.hid (below_lit HB1.out hb2)
  have c0 := hr2.cell 0 (by omega)
  have c1 := hr2.cell 1 (by omega)
  have c2 := hr2.cell 2 (by omega)
  have c3 := hr2.cell 3 (by omega)
  rw [e0] at c0
  rw [e1] at c1
  rw [e2] at c2
  rw [e3] at c3
  clear hr2 hb2 e0 e1 e2 e3
  go_wp2_with fail
  go_ret
  exact ⟨rfl, HB2.out⟩
end Go.Proofs.Ytabpcipfijakjaa
