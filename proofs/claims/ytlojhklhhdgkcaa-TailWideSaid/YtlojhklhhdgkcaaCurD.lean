/-
  Contracts: a cursor that is none; the chapter's examples.
-/
import Derived.Test.YtlojhklhhdgkcaaCurC
import Derived.Deep.RegionWith
namespace Go.Proofs.Ytlojhklhhdgkcaa
set_option maxRecDepth 100000
open Go.RowKit Go.Joins

theorem may_nil (n : Int) (w : World) : Calls Try.prog 37 #[.pointer none, .int .i64 n] w fun r w' => r = .returned (.bool false) ∧ ∃ d, w' = w.drewN d := by
  go_enter Try.func37, Try.ntmps37
  go_wp2
  go_quiet (fail)
  go_wp2
  go_ret
  exact ⟨rfl, _, rfl⟩
theorem peek_nil (n : Int) (w : World) : Calls Try.prog 38 #[.pointer none, .int .i64 n] w fun r w' => r = .returned (.string ⟨#[]⟩) ∧ ∃ d, w' = w.drewN d := by
  go_enter Try.func38, Try.ntmps38
  go_wp2_with (go_at_call 37; refine (may_nil _ _).mono ?_; rintro r w' ⟨rfl, d, rfl⟩)
  go_ret
  exact ⟨rfl, _, rfl⟩
theorem take_nil (n : Int) (w : World) : Calls Try.prog 29 #[.pointer none, .int .i64 n] w fun r w' => r = .returned (.string ⟨#[]⟩) ∧ w = w' := by
  go_enter Try.func29, Try.ntmps29
  go_wp2
  go_ret
  exact ⟨rfl, rfl⟩
theorem number_none (w : World) : Calls Try.prog 25 #[.string ⟨#[]⟩] w fun e w' => e = .returned (.tuple #[.int .u64 0, .int .i64 0]) ∧ w = w' :=
  number_any ⟨#[]⟩ (by decide) w
theorem number_nil (n : Int) (w : World) : Calls Try.prog 36 #[.pointer none, .int .i64 n] w fun r w' => r = .returned (.int .u64 0) ∧ w = w' := by
  go_enter Try.func36, Try.ntmps36
  go_wp2_with (first | (go_at_call 29; refine (take_nil _ _).mono ?_; rintro r w1 ⟨rfl, rfl⟩) | (go_at_call 25; refine (number_none _).mono ?_; rintro r w2 ⟨rfl, rfl⟩))
  go_ret
  exact ⟨rfl, rfl⟩
theorem two_nil (w : World) : Calls Try.prog 27 #[.pointer none] w fun r w' => r = .returned (.int .u16 0) ∧ w = w' := by
  go_enter Try.func27, Try.ntmps27
  go_wp2_with (go_at_call 36; refine (number_nil _ _).mono ?_; rintro r w1 ⟨rfl, rfl⟩)
  go_ret
  exact ⟨rfl, rfl⟩
theorem four_nil (w : World) : Calls Try.prog 28 #[.pointer none] w fun r w' => r = .returned (.int .u32 0) ∧ w = w' := by
  go_enter Try.func28, Try.ntmps28
  go_wp2_with (go_at_call 36; refine (number_nil _ _).mono ?_; rintro r w1 ⟨rfl, rfl⟩)
  go_ret
  exact ⟨rfl, rfl⟩
theorem eight_nil (w : World) : Calls Try.prog 30 #[.pointer none] w fun r w' => r = .returned (.int .u64 0) ∧ w = w' := by
  go_enter Try.func30, Try.ntmps30
  go_wp2_with (go_at_call 36; refine (number_nil _ _).mono ?_; rintro r w1 ⟨rfl, rfl⟩)
  go_ret
  exact ⟨rfl, rfl⟩
theorem err_nil (w : World) : Calls Try.prog 39 #[.pointer none] w fun r w' => r = .returned (.int .i64 1) ∧ w = w' := by
  go_enter Try.func39, Try.ntmps39
  go_wp2
  go_ret
  exact ⟨rfl, rfl⟩

theorem number_ex (w : World) : Calls Try.prog 25 #[.string ⟨#[1, 0, 2]⟩] w fun e w' => e = .returned (.tuple #[.int .u64 131073, .int .i64 0]) ∧ w = w' :=
  number_any ⟨#[1, 0, 2]⟩ (by decide) w
theorem two_ex (w : World) : Calls Try.prog 20 #[.int .u16 258] w fun e w' => e = .returned (.string ⟨#[2, 1]⟩) ∧ Below w.heap.size w w' := two_any 258 (by omega) w
end Go.Proofs.Ytlojhklhhdgkcaa
