/-
  Contracts: a cursor that is none; the chapter's examples.
-/
import Derived.Test.YtkiecgcjnlgbnaaDoorCurC
import Derived.Deep.RegionWith
namespace Go.Proofs.YtkiecgcjnlgbnaaDoor
set_option maxRecDepth 100000
open Go.RowKit Go.Joins

theorem may_nil (n : Int) (w : World) : Calls Tryd.prog 36 #[.pointer none, .int .i64 n] w fun r w' => r = .returned (.bool false) ∧ ∃ d, w' = w.drewN d := by
  go_enter Tryd.func36, Tryd.ntmps36
  go_wp2
  go_quiet (fail)
  go_wp2
  go_ret
  exact ⟨rfl, _, rfl⟩
theorem peek_nil (n : Int) (w : World) : Calls Tryd.prog 37 #[.pointer none, .int .i64 n] w fun r w' => r = .returned (.string ⟨#[]⟩) ∧ ∃ d, w' = w.drewN d := by
  go_enter Tryd.func37, Tryd.ntmps37
  go_wp2_with (go_at_call 36; refine (may_nil _ _).mono ?_; rintro r w' ⟨rfl, d, rfl⟩)
  go_ret
  exact ⟨rfl, _, rfl⟩
theorem take_nil (n : Int) (w : World) : Calls Tryd.prog 18 #[.pointer none, .int .i64 n] w fun r w' => r = .returned (.string ⟨#[]⟩) ∧ w = w' := by
  go_enter Tryd.func18, Tryd.ntmps18
  go_wp2
  go_ret
  exact ⟨rfl, rfl⟩
theorem number_none (w : World) : Calls Tryd.prog 34 #[.string ⟨#[]⟩] w fun e w' => e = .returned (.tuple #[.int .u64 0, .int .i64 0]) ∧ w = w' :=
  number_any ⟨#[]⟩ (by decide) w
theorem number_nil (n : Int) (w : World) : Calls Tryd.prog 38 #[.pointer none, .int .i64 n] w fun r w' => r = .returned (.int .u64 0) ∧ w = w' := by
  go_enter Tryd.func38, Tryd.ntmps38
  go_wp2_with (first | (go_at_call 18; refine (take_nil _ _).mono ?_; rintro r w1 ⟨rfl, rfl⟩) | (go_at_call 34; refine (number_none _).mono ?_; rintro r w2 ⟨rfl, rfl⟩))
  go_ret
  exact ⟨rfl, rfl⟩
theorem one_nil (w : World) : Calls Tryd.prog 31 #[.pointer none] w fun r w' => r = .returned (.int .u8 0) ∧ w = w' := by
  go_enter Tryd.func31, Tryd.ntmps31
  go_wp2_with (go_at_call 38; refine (number_nil _ _).mono ?_; rintro r w1 ⟨rfl, rfl⟩)
  go_ret
  exact ⟨rfl, rfl⟩
theorem four_nil (w : World) : Calls Tryd.prog 19 #[.pointer none] w fun r w' => r = .returned (.int .u32 0) ∧ w = w' := by
  go_enter Tryd.func19, Tryd.ntmps19
  go_wp2_with (go_at_call 38; refine (number_nil _ _).mono ?_; rintro r w1 ⟨rfl, rfl⟩)
  go_ret
  exact ⟨rfl, rfl⟩
theorem eight_nil (w : World) : Calls Tryd.prog 28 #[.pointer none] w fun r w' => r = .returned (.int .u64 0) ∧ w = w' := by
  go_enter Tryd.func28, Tryd.ntmps28
  go_wp2_with (go_at_call 38; refine (number_nil _ _).mono ?_; rintro r w1 ⟨rfl, rfl⟩)
  go_ret
  exact ⟨rfl, rfl⟩
theorem left_nil (w : World) : Calls Tryd.prog 23 #[.pointer none] w fun r w' => r = .returned (.int .i64 0) ∧ w = w' := by
  go_enter Tryd.func23, Tryd.ntmps23
  go_wp2
  go_ret
  exact ⟨rfl, rfl⟩
theorem err_nil (w : World) : Calls Tryd.prog 20 #[.pointer none] w fun r w' => r = .returned (.int .i64 1) ∧ w = w' := by
  go_enter Tryd.func20, Tryd.ntmps20
  go_wp2
  go_ret
  exact ⟨rfl, rfl⟩

theorem number_ex (w : World) : Calls Tryd.prog 34 #[.string ⟨#[1, 0, 2]⟩] w fun e w' => e = .returned (.tuple #[.int .u64 131073, .int .i64 0]) ∧ w = w' :=
  number_any ⟨#[1, 0, 2]⟩ (by decide) w
theorem left_ex (g : Nat) (w : World) (hc : Cur w g ⟨#[97, 98]⟩ 0 0) : Calls Tryd.prog 23 #[.pointer (some ⟨g, 0, none⟩)] w fun r w' => r = .returned (.int .i64 2) ∧ ∃ d, w' = w.drewN d := left_any g ⟨#[97, 98]⟩ 0 0 (by decide) (by decide) w hc

end Go.Proofs.YtkiecgcjnlgbnaaDoor
