/-
  The walk of BitsNil: it returns true.
-/
import Derived.Test.YtmmcolfeboammaaBitsN
namespace Go.Proofs.Ytmmcolfeboammaa
open Go.RowKit Go.Joins

theorem bitsNil_walk (w : World) :
    Calls Try.prog 7 #[] w fun e w' => e = .returned (.bool true) ∧ Below w.heap.size w w' := by
  go_enter Try.func7, Try.ntmps7
  go_wp2_with (first | (go_at_call 12; refine (awake3_any _).mono ?_; rintro r wA ⟨rfl, hb⟩) | (go_at_call 16; refine (skip_nil _ _).mono ?_; rintro r w1 ⟨rfl, rfl⟩) | (go_at_call 18; refine (align_nil _).mono ?_; rintro r w1 ⟨rfl, rfl⟩) | (go_at_call 26; refine (write_nil _ _ _).mono ?_; rintro r w1 ⟨rfl, rfl⟩) | (go_at_call 28; refine (walign_nil _).mono ?_; rintro r w1 ⟨rfl, rfl⟩) | (go_at_call 30; refine (wbytes_nil _ _).mono ?_; rintro r w1 ⟨rfl, rfl⟩) | (go_at_call 14; refine (peek_nil _ _).mono ?_; rintro r w1 ⟨rfl, rfl⟩) | (go_at_call 22; refine (read_nil _).mono ?_; rintro r w1 ⟨rfl, rfl⟩) | (go_at_call 20; refine (bytes_nil _ _).mono ?_; rintro r w1 ⟨rfl, rfl⟩) | (go_at_call 24; refine (at_nil _).mono ?_; rintro r w1 ⟨rfl, rfl⟩) | (go_at_call 25; refine (err_nil _).mono ?_; rintro r w1 ⟨rfl, rfl⟩) | (go_at_call 32; refine (wlen_nil _).mono ?_; rintro r w1 ⟨rfl, rfl⟩) | (go_at_call 33; refine (wdone_nil _).mono ?_; rintro r w1 ⟨rfl, rfl⟩))
  go_ret
  exact ⟨rfl, hb⟩
end Go.Proofs.Ytmmcolfeboammaa
