/-
  Contracts: a cursor that is none; the chapter's examples.
-/
import Derived.Test.YtklmfncljebgnaaCurC
import Derived.Deep.RegionWith
namespace Go.Proofs.Ytklmfncljebgnaa
set_option maxRecDepth 100000
open Go.RowKit Go.Joins

theorem may_nil (n : Int) (w : World) : Calls Try.prog 78 #[.pointer none, .int .i64 n] w fun r w' => r = .returned (.bool false) ∧ ∃ d, w' = w.drewN d := by
  go_enter Try.func78, Try.ntmps78
  go_wp2
  go_quiet (fail)
  go_wp2
  go_ret
  exact ⟨rfl, _, rfl⟩
theorem peek_nil (n : Int) (w : World) : Calls Try.prog 79 #[.pointer none, .int .i64 n] w fun r w' => r = .returned (.string ⟨#[]⟩) ∧ ∃ d, w' = w.drewN d := by
  go_enter Try.func79, Try.ntmps79
  go_wp2_with (go_at_call 78; refine (may_nil _ _).mono ?_; rintro r w' ⟨rfl, d, rfl⟩)
  go_ret
  exact ⟨rfl, _, rfl⟩
theorem take_nil (n : Int) (w : World) : Calls Try.prog 37 #[.pointer none, .int .i64 n] w fun r w' => r = .returned (.string ⟨#[]⟩) ∧ w = w' := by
  go_enter Try.func37, Try.ntmps37
  go_wp2
  go_ret
  exact ⟨rfl, rfl⟩
theorem number_none (w : World) : Calls Try.prog 82 #[.string ⟨#[]⟩] w fun e w' => e = .returned (.tuple #[.int .u64 0, .int .i64 0]) ∧ w = w' :=
  number_any ⟨#[]⟩ (by decide) w
theorem number_nil (n : Int) (w : World) : Calls Try.prog 77 #[.pointer none, .int .i64 n] w fun r w' => r = .returned (.int .u64 0) ∧ w = w' := by
  go_enter Try.func77, Try.ntmps77
  go_wp2_with (first | (go_at_call 37; refine (take_nil _ _).mono ?_; rintro r w1 ⟨rfl, rfl⟩) | (go_at_call 82; refine (number_none _).mono ?_; rintro r w2 ⟨rfl, rfl⟩))
  go_ret
  exact ⟨rfl, rfl⟩
theorem two_nil (w : World) : Calls Try.prog 35 #[.pointer none] w fun r w' => r = .returned (.int .u16 0) ∧ w = w' := by
  go_enter Try.func35, Try.ntmps35
  go_wp2_with (go_at_call 77; refine (number_nil _ _).mono ?_; rintro r w1 ⟨rfl, rfl⟩)
  go_ret
  exact ⟨rfl, rfl⟩
theorem four_nil (w : World) : Calls Try.prog 36 #[.pointer none] w fun r w' => r = .returned (.int .u32 0) ∧ w = w' := by
  go_enter Try.func36, Try.ntmps36
  go_wp2_with (go_at_call 77; refine (number_nil _ _).mono ?_; rintro r w1 ⟨rfl, rfl⟩)
  go_ret
  exact ⟨rfl, rfl⟩
theorem eight_nil (w : World) : Calls Try.prog 43 #[.pointer none] w fun r w' => r = .returned (.int .u64 0) ∧ w = w' := by
  go_enter Try.func43, Try.ntmps43
  go_wp2_with (go_at_call 77; refine (number_nil _ _).mono ?_; rintro r w1 ⟨rfl, rfl⟩)
  go_ret
  exact ⟨rfl, rfl⟩
theorem at_nil (w : World) : Calls Try.prog 80 #[.pointer none] w fun r w' => r = .returned (.int .i64 0) ∧ w = w' := by
  go_enter Try.func80, Try.ntmps80
  go_wp2
  go_ret
  exact ⟨rfl, rfl⟩
theorem err_nil (w : World) : Calls Try.prog 76 #[.pointer none] w fun r w' => r = .returned (.int .i64 1) ∧ w = w' := by
  go_enter Try.func76, Try.ntmps76
  go_wp2
  go_ret
  exact ⟨rfl, rfl⟩

theorem number_ex (w : World) : Calls Try.prog 82 #[.string ⟨#[1, 0, 2]⟩] w fun e w' => e = .returned (.tuple #[.int .u64 131073, .int .i64 0]) ∧ w = w' :=
  number_any ⟨#[1, 0, 2]⟩ (by decide) w
theorem two_ex (w : World) : Calls Try.prog 47 #[.int .u16 258] w fun e w' => e = .returned (.string ⟨#[2, 1]⟩) ∧ Below w.heap.size w w' := two_any 258 (by omega) w
end Go.Proofs.Ytklmfncljebgnaa
