/-
  The walk of CursorNil: it returns true.
-/
import Derived.Test.YtcfpkmonbnfehaaCurD
namespace Go.Proofs.Ytcfpkmonbnfehaa
open Go.RowKit Go.Joins

theorem cursorNil_walk (w : World) :
    Calls Try.prog 6 #[] w fun e w' => e = .returned (.bool true) ∧ Below w.heap.size w w' := by
  go_enter Try.func6, Try.ntmps6
  go_wp2_with (first | (go_at_call 12; refine (awake1_any _).mono ?_; rintro r wA ⟨rfl, hb⟩) | (go_at_call 29; refine (one_nil _).mono ?_; rintro r w1 ⟨rfl, rfl⟩) | (go_at_call 21; refine (two_nil _).mono ?_; rintro r w1 ⟨rfl, rfl⟩) | (go_at_call 23; refine (four_nil _).mono ?_; rintro r w1 ⟨rfl, rfl⟩) | (go_at_call 24; refine (eight_nil _).mono ?_; rintro r w1 ⟨rfl, rfl⟩) | (go_at_call 25; refine (take_nil _ _).mono ?_; rintro r w1 ⟨rfl, rfl⟩) | (go_at_call 27; refine (peek_nil _ _).mono ?_; rintro r w1 ⟨rfl, d, rfl⟩) | (go_at_call 28; refine (seek_nil _ _).mono ?_; rintro r w1 ⟨rfl, rfl⟩) | (go_at_call 30; refine (at_nil _).mono ?_; rintro r w1 ⟨rfl, rfl⟩) | (go_at_call 31; refine (left_nil _).mono ?_; rintro r w1 ⟨rfl, rfl⟩) | (go_at_call 32; refine (err_nil _).mono ?_; rintro r w1 ⟨rfl, rfl⟩))
  go_ret
  exact ⟨rfl, below_drewN hb d⟩
end Go.Proofs.Ytcfpkmonbnfehaa
