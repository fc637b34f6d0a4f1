/-
  The walk of FieldOwners: it returns true, whatever the bytes and the numbers.
-/
import Derived.Test.YtmbifoockenniaaFlD
namespace Go.Proofs.Ytmbifoockenniaa
set_option maxRecDepth 100000
open Go.RowKit Go.Joins

theorem oRes_form (s : ByteArray) : ∃ x y z : Nat, z ≤ 1000 ∧ oRes s = .tuple #[.int .u32 (x : Nat), .int .u32 (y : Nat), .int .i64 (z : Nat)] := by
  unfold oRes
  split
  · split
    · exact ⟨_, _, 0, by omega, rfl⟩
    · exact ⟨0, 0, 8, by omega, rfl⟩
  · exact ⟨0, 0, 24, by omega, rfl⟩
theorem oldRes_form (s : ByteArray) : ∃ x y z : Nat, z ≤ 1000 ∧ oldRes s = .tuple #[.int .u32 (x : Nat), .int .u32 (y : Nat), .int .i64 (z : Nat)] := by
  unfold oldRes
  split
  · exact ⟨0, 0, 0, by omega, rfl⟩
  · split
    · exact ⟨_, _, 0, by omega, rfl⟩
    · exact ⟨0, 0, 24, by omega, rfl⟩

theorem fieldOwners_walk (a0 : ByteArray) (a1 : Int) (a2 : Int) (w0 : a0.size ≤ maxLen) (w1 : (Lit.int .u32 a1).wf = true) (w2 : (Lit.int .u32 a2).wf = true) (w : World) :
    Calls Try.prog 8 #[.string a0, .int .u32 a1, .int .u32 a2] w fun e w' => e = .returned (.bool true) ∧ Below w.heap.size w w' := by
  obtain ⟨u, rfl, hu⟩ := nat_u32 w1
  obtain ⟨g, rfl, hg⟩ := nat_u32 w2
  clear w1 w2
  have HL := Lib.hid w0
  unfold maxLen at w0
  by_cases h : a0.size ≤ 1000
  · obtain ⟨x, y, z, hz, hr⟩ := oRes_form a0
    obtain ⟨x2, y2, z2, hz2, hr2⟩ := oldRes_form a0
    have H1 := Lib.hid (fun w => parseOwner_any a0 HL.out w)
    have H2 := Lib.hid (fun w => rparseOwner_any a0 HL.out w)
    have H3 := Lib.hid (fun w => parseOld_any a0 HL.out w)
    have H4 := Lib.hid (fun w => rparseOld_any a0 HL.out w)
    rw [hr] at H1 H2
    rw [hr2] at H3 H4
    clear hr hr2
    go_enter Try.func8, Try.ntmps8
    go_wp2_with fail
    refine (awake14_any _).mono ?_; rintro r wA ⟨rfl, hA⟩
    have B0 := Lib.hid hA; clear hA
    go_wp2_with fail
    refine (H1.out _).mono ?_; rintro r w1 ⟨rfl, h1⟩
    have B1 := Lib.hid (below_then B0.out h1); clear h1
    go_wp2_with fail
    refine (H2.out _).mono ?_; rintro r w2 ⟨rfl, h1⟩
    have B2 := Lib.hid (below_then B1.out h1); clear h1
    go_wp2_with fail
    refine (H3.out _).mono ?_; rintro r w3 ⟨rfl, h1⟩
    have B3 := Lib.hid (below_then B2.out h1); clear h1
    go_wp2_with fail
    refine (H4.out _).mono ?_; rintro r w4 ⟨rfl, h1⟩
    have B4 := Lib.hid (below_then B3.out h1); clear h1
    go_wp2_with fail
    refine (printOwner_any u g hu hg _).mono ?_; rintro r w5 ⟨rfl, h1⟩
    have B5 := Lib.hid (below_then B4.out h1); clear h1
    go_wp2_with fail
    refine (rprintOwner_any u g hu hg _).mono ?_; rintro r w6 ⟨rfl, h1⟩
    have B6 := Lib.hid (below_then B5.out h1); clear h1
    go_wp2_with fail
    go_ret
    exact ⟨rfl, B6.out⟩
  · go_enter Try.func8, Try.ntmps8
    go_wp2_with fail
    refine (awake14_any _).mono ?_; rintro r wA ⟨rfl, hA⟩
    have B0 := Lib.hid hA; clear hA
    go_wp2_with fail
    go_ret
    exact ⟨rfl, B0.out⟩
end Go.Proofs.Ytmbifoockenniaa
