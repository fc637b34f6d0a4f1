/-
  The walk of NameReads: it returns true, whatever the name and the flag.
-/
import Derived.Test.YtalfmepimhneoaaDoorNamAC
import Derived.Test.YtalfmepimhneoaaDoorNameOrdersWalk
namespace Go.Proofs.YtalfmepimhneoaaDoor
set_option maxRecDepth 100000
open Go.RowKit Go.Deep Go.Joins Go.Lib

theorem rdecode_utf8 (s : ByteArray) (w : World) (hs : s.size ≤ 100000) :
    Calls Tryd.prog 15 #[.string s, .bool true] w fun e w' => e = .returned (if straysB s = true then .tuple #[.string .empty, .int .i64 20] else .tuple #[.string s, .int .i64 0]) ∧ Below w.heap.size w w' := by
  have HS := Lib.hid (fun w => rstrays_any s w (by omega))
  cases hst : straysB s with
  | true =>
    rw [hst] at HS
    rw [if_pos rfl]
    go_enter Tryd.func15, Tryd.ntmps15
    go_wp2_with fail
    refine (HS.out _).mono ?_
    rintro e w1 ⟨rfl, rfl⟩
    go_wp2_with fail
    go_ret2
    exact ⟨rfl, Below.refl _ _⟩
  | false =>
    rw [hst] at HS
    rw [if_neg (by decide)]
    go_enter Tryd.func15, Tryd.ntmps15
    go_wp2_with fail
    refine (HS.out _).mono ?_
    rintro e w1 ⟨rfl, rfl⟩
    go_wp2_with fail
    go_ret2
    exact ⟨rfl, Below.refl _ _⟩

theorem both_decode (s : ByteArray) (u : Bool) (hs : s.size ≤ 100000) : ∃ (t : ByteArray) (k : Int), (∀ w : World, Upper w → Calls Tryd.prog 14 #[.string s, .bool u] w fun e w' => e = .returned (.tuple #[.string t, .int .i64 k]) ∧ Below w.heap.size w w') ∧ (∀ w : World, Calls Tryd.prog 15 #[.string s, .bool u] w fun e w' => e = .returned (.tuple #[.string t, .int .i64 k]) ∧ Below w.heap.size w w') := by
  cases u with
  | false => exact ⟨_, _, fun w h => decode_cp s w hs h, fun w => rdecode_cp s w hs⟩
  | true =>
    cases hst : straysB s with
    | true =>
      refine ⟨.empty, 20, fun w _ => ?_, fun w => ?_⟩
      · have h := decode_utf8 s w
        rw [hst, if_pos rfl] at h
        exact h
      · have h := rdecode_utf8 s w hs
        rw [hst, if_pos rfl] at h
        exact h
    | false =>
      refine ⟨s, 0, fun w _ => ?_, fun w => ?_⟩
      · have h := decode_utf8 s w
        rw [hst, if_neg (by decide)] at h
        exact h
      · have h := rdecode_utf8 s w hs
        rw [hst, if_neg (by decide)] at h
        exact h

set_option maxHeartbeats 4000000 in
theorem nameReads_walk (s : ByteArray) (u : Bool) (_ : s.size ≤ maxLen) (w : World) (hE : Env w) (hU : Upper w) :
    Calls Tryd.prog 3 #[.string s, .bool u] w fun e w' => e = .returned (.bool true) ∧ Below w.heap.size w w' := by
  have HA := Lib.hid (awake10_any w hE)
  have HU := Lib.hid hU
  clear hE hU
  by_cases h1 : 3000 < s.size
  · have g1 : decide ((3000 : Int) < (s.size : Int)) = true := decide_eq_true (by omega)
    go_enter Tryd.func3, Tryd.ntmps3
    go_wp2_with fail
    refine (HA.out).mono ?_
    rintro e w1 ⟨rfl, hb⟩
    go_wp2_with fail
    go_ret
    exact ⟨rfl, hb⟩
  · have g1 : decide ((3000 : Int) < (s.size : Int)) = false := decide_eq_false (by omega)
    obtain ⟨t, k, HD1, HD2⟩ := both_decode s u (by omega)
    have HD1 := Lib.hid HD1
    have HD2 := Lib.hid HD2
    have HE1 := Lib.hid (fun w h => encode_any s w (by omega) h)
    have HE2 := Lib.hid (fun w => rencode_any s w (by omega))
    generalize text ((encO s).getD []) = c at *
    generalize (encO s).isSome = b at *
    clear h1
    go_enter Tryd.func3, Tryd.ntmps3
    go_wp2_with fail
    refine (HA.out).mono ?_
    rintro e w1 ⟨rfl, hb⟩
    have HB1 := Lib.hid hb
    clear hb
    go_wp2_with fail
    refine (HD1.out _ (HU.out.below HB1.out)).mono ?_
    rintro e w2 ⟨rfl, hb⟩
    have HB2 := Lib.hid (below_then HB1.out hb)
    clear hb
    go_wp2_with fail
    refine (HD2.out _).mono ?_
    rintro e w3 ⟨rfl, hb⟩
    have HB3 := Lib.hid (below_then HB2.out hb)
    clear hb
    go_wp2_with fail
    refine (HE1.out _ (HU.out.below HB3.out)).mono ?_
    rintro e w4 ⟨rfl, hb⟩
    have HB4 := Lib.hid (below_then HB3.out hb)
    clear hb
    go_wp2_with fail
    refine (HE2.out _).mono ?_
    rintro e w5 ⟨rfl, hb⟩
    have HB5 := Lib.hid (below_then HB4.out hb)
    clear hb
    go_wp2_with fail
    go_ret
    exact ⟨by simp, HB5.out⟩
end Go.Proofs.YtalfmepimhneoaaDoor
