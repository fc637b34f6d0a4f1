/-
  The walk of PrefixNil: it returns true.
-/
import Derived.Test.YtmmcolfeboammaaPreS
namespace Go.Proofs.Ytmmcolfeboammaa
open Go.RowKit Go.Joins

set_option maxHeartbeats 2000000 in
theorem prefixNil_walk (w : World) :
    Calls Try.prog 11 #[] w fun e w' => e = .returned (.bool true) ∧ Below w.heap.size w w' := by
  go_enter Try.func11, Try.ntmps11
  go_wp2_with fail
  refine (over_any _ _).mono ?_; rintro e w1 ⟨rfl, rfl⟩
  have hb1 : Below w.heap.size w (w.alloc (.cells #[.string ⟨#[97]⟩, .int .i64 0, .int .i64 0] 77)) := (Below.refl _ _).alloc (Nat.le_refl _) _
  generalize w.alloc (.cells #[.string ⟨#[97]⟩, .int .i64 0, .int .i64 0] 77) = w1 at *
  have HB1 := Lib.hid hb1
  clear hb1
  go_wp2_with fail
  refine (sign_nil _ _).mono ?_; rintro e w2 ⟨rfl, rfl⟩
  go_wp2_with fail
  refine (new_ex2 _).mono ?_; rintro e w3 ⟨g, rfl, hb3⟩
  have HB3 := Lib.hid (below_lit HB1.out hb3)
  clear hb3
  go_wp2_with fail
  refine (sign_nil2 _ _).mono ?_; rintro e w4 ⟨rfl, rfl⟩
  go_wp2_with fail
  refine (awake4_any _).mono ?_; rintro e w5 ⟨rfl, hb5⟩
  have HB5 := Lib.hid (below_then HB3.out hb5)
  clear hb5
  go_wp2_with fail
  refine (put_nil _ _ _).mono ?_; rintro e w6 ⟨rfl, rfl⟩
  have HB6 := Lib.hid (HB5.out.alloc HB5.out.size (.cells #[.slice none 0 0, .int .u64 0, .int .i64 0] 45))
  go_wp2_with fail
  refine (put_nil2 _ _ _).mono ?_; rintro e w7 ⟨rfl, rfl⟩
  go_wp2_with fail
  refine (length_nil _).mono ?_; rintro e w8 ⟨rfl, rfl⟩
  go_wp2_with fail
  refine (signs_nil _).mono ?_; rintro e w9 ⟨rfl, rfl⟩
  go_wp2_with fail
  go_ret
  exact ⟨rfl, HB6.out⟩
end Go.Proofs.Ytmmcolfeboammaa
