/-
  Contracts: a cursor that is none; the chapter's examples.
-/
import Derived.Test.YtmhalkkfpbkafaaDoorCurC
import Derived.Deep.RegionWith
namespace Go.Proofs.YtmhalkkfpbkafaaDoor
set_option maxRecDepth 100000
open Go.RowKit Go.Joins

theorem may_nil (n : Int) (w : World) : Calls Tryd.prog 70 #[.pointer none, .int .i64 n] w fun r w' => r = .returned (.bool false) ∧ ∃ d, w' = w.drewN d := by
  go_enter Tryd.func70, Tryd.ntmps70
  go_wp2
  go_quiet (fail)
  go_wp2
  go_ret
  exact ⟨rfl, _, rfl⟩
theorem peek_nil (n : Int) (w : World) : Calls Tryd.prog 71 #[.pointer none, .int .i64 n] w fun r w' => r = .returned (.string ⟨#[]⟩) ∧ ∃ d, w' = w.drewN d := by
  go_enter Tryd.func71, Tryd.ntmps71
  go_wp2_with (go_at_call 70; refine (may_nil _ _).mono ?_; rintro r w' ⟨rfl, d, rfl⟩)
  go_ret
  exact ⟨rfl, _, rfl⟩
theorem take_nil (n : Int) (w : World) : Calls Tryd.prog 56 #[.pointer none, .int .i64 n] w fun r w' => r = .returned (.string ⟨#[]⟩) ∧ w = w' := by
  go_enter Tryd.func56, Tryd.ntmps56
  go_wp2
  go_ret
  exact ⟨rfl, rfl⟩
theorem number_none (w : World) : Calls Tryd.prog 57 #[.string ⟨#[]⟩] w fun e w' => e = .returned (.tuple #[.int .u64 0, .int .i64 0]) ∧ w = w' :=
  number_any ⟨#[]⟩ (by decide) w
theorem number_nil (n : Int) (w : World) : Calls Tryd.prog 69 #[.pointer none, .int .i64 n] w fun r w' => r = .returned (.int .u64 0) ∧ w = w' := by
  go_enter Tryd.func69, Tryd.ntmps69
  go_wp2_with (first | (go_at_call 56; refine (take_nil _ _).mono ?_; rintro r w1 ⟨rfl, rfl⟩) | (go_at_call 57; refine (number_none _).mono ?_; rintro r w2 ⟨rfl, rfl⟩))
  go_ret
  exact ⟨rfl, rfl⟩
theorem one_nil (w : World) : Calls Tryd.prog 51 #[.pointer none] w fun r w' => r = .returned (.int .u8 0) ∧ w = w' := by
  go_enter Tryd.func51, Tryd.ntmps51
  go_wp2_with (go_at_call 69; refine (number_nil _ _).mono ?_; rintro r w1 ⟨rfl, rfl⟩)
  go_ret
  exact ⟨rfl, rfl⟩
theorem four_nil (w : World) : Calls Tryd.prog 47 #[.pointer none] w fun r w' => r = .returned (.int .u32 0) ∧ w = w' := by
  go_enter Tryd.func47, Tryd.ntmps47
  go_wp2_with (go_at_call 69; refine (number_nil _ _).mono ?_; rintro r w1 ⟨rfl, rfl⟩)
  go_ret
  exact ⟨rfl, rfl⟩
theorem eight_nil (w : World) : Calls Tryd.prog 46 #[.pointer none] w fun r w' => r = .returned (.int .u64 0) ∧ w = w' := by
  go_enter Tryd.func46, Tryd.ntmps46
  go_wp2_with (go_at_call 69; refine (number_nil _ _).mono ?_; rintro r w1 ⟨rfl, rfl⟩)
  go_ret
  exact ⟨rfl, rfl⟩
theorem left_nil (w : World) : Calls Tryd.prog 54 #[.pointer none] w fun r w' => r = .returned (.int .i64 0) ∧ w = w' := by
  go_enter Tryd.func54, Tryd.ntmps54
  go_wp2
  go_ret
  exact ⟨rfl, rfl⟩
theorem err_nil (w : World) : Calls Tryd.prog 53 #[.pointer none] w fun r w' => r = .returned (.int .i64 1) ∧ w = w' := by
  go_enter Tryd.func53, Tryd.ntmps53
  go_wp2
  go_ret
  exact ⟨rfl, rfl⟩

theorem number_ex (w : World) : Calls Tryd.prog 57 #[.string ⟨#[1, 0, 2]⟩] w fun e w' => e = .returned (.tuple #[.int .u64 131073, .int .i64 0]) ∧ w = w' :=
  number_any ⟨#[1, 0, 2]⟩ (by decide) w
theorem left_ex (g : Nat) (w : World) (hc : Cur w g ⟨#[97, 98]⟩ 0 0) : Calls Tryd.prog 54 #[.pointer (some ⟨g, 0, none⟩)] w fun r w' => r = .returned (.int .i64 2) ∧ ∃ d, w' = w.drewN d := left_any g ⟨#[97, 98]⟩ 0 0 (by decide) (by decide) w hc

end Go.Proofs.YtmhalkkfpbkafaaDoor
