/-
  Contracts: the document's within and One.
-/
import Derived.Test.YtpkhpaklhfomkaaGreatDoorNamE
namespace Go.Proofs.YtpkhpaklhfomkaaGreatDoor
set_option maxRecDepth 100000
open Go.RowKit Go.Deep Go.Joins Go.Lib

/-- Is the byte at a place from low to high? -/
def wiB (s : ByteArray) (p lo hi : Nat) : Bool := if h : p < s.size then decide (lo ≤ s[p].toNat) && decide (s[p].toNat ≤ hi) else false
theorem within_any (s : ByteArray) (p lo hi : Nat) (w : World) :
    Calls Tryz.prog 168 #[.string s, .int .i64 (p : Nat), .int .u8 (lo : Nat), .int .u8 (hi : Nat)] w fun e w' => e = .returned (.bool (wiB s p lo hi)) ∧ w' = w := by
  by_cases h : p < s.size
  · have HW : Hid (wiB s p lo hi = (decide (lo ≤ s[p].toNat) && decide (s[p].toNat ≤ hi))) := by show _ = _; unfold wiB; rw [dif_pos h]
    by_cases h1 : lo ≤ s[p].toNat
    · by_cases h2 : s[p].toNat ≤ hi
      · have HX : Hid (wiB s p lo hi = true) := by show _ = _; rw [HW.out, decide_eq_true h1, decide_eq_true h2]; rfl
        go_enter Tryz.func168, Tryz.ntmps168
        go_wp2_with fail
        go_ret
        rw [HX.out]
        exact ⟨rfl, rfl⟩
      · have HX : Hid (wiB s p lo hi = false) := by show _ = _; rw [HW.out, decide_eq_true h1, decide_eq_false h2]; rfl
        have h3 : decide (s[p].toNat ≤ hi) = false := decide_eq_false h2
        clear h2
        go_enter Tryz.func168, Tryz.ntmps168
        go_wp2_with fail
        go_ret
        rw [HX.out]
        exact ⟨rfl, rfl⟩
    · have HX : Hid (wiB s p lo hi = false) := by show _ = _; rw [HW.out, decide_eq_false h1]; rfl
      have h3 : s[p].toNat < lo := by omega
      clear h1
      go_enter Tryz.func168, Tryz.ntmps168
      go_wp2_with fail
      go_ret
      rw [HX.out]
      exact ⟨rfl, rfl⟩
  · have HX : Hid (wiB s p lo hi = false) := by show _ = _; unfold wiB; rw [dif_neg h]
    go_enter Tryz.func168, Tryz.ntmps168
    go_wp2_with fail
    go_ret
    rw [HX.out]
    exact ⟨rfl, rfl⟩
theorem wi_yes {s : ByteArray} {p lo hi : Nat} (h : wiB s p lo hi = true) : ∃ hp : p < s.size, lo ≤ s[p].toNat ∧ s[p].toNat ≤ hi := by
  unfold wiB at h
  by_cases hp : p < s.size
  · rw [dif_pos hp] at h
    simp at h
    exact ⟨hp, h⟩
  · rw [dif_neg hp] at h; cases h
set_option maxHeartbeats 4000000 in
theorem one_ascii (s : ByteArray) (p : Nat) (hp : p < s.size) (_ : s.size ≤ 1000000) (w : World) (hc : s[p].toNat < 128) :
    Calls Tryz.prog 130 #[.string s, .int .i64 (p : Nat)] w fun e w' => e = .returned (.tuple #[.int .i64 (s[p].toNat : Nat), .int .i64 1]) ∧ w' = w := by
  obtain ⟨p1, e1, q1⟩ : ∃ q : Nat, p + 1 = q ∧ ((p : Int) + 1) = (q : Int) := ⟨p + 1, rfl, by omega⟩
  obtain ⟨p2, e2, q2⟩ : ∃ q : Nat, p + 2 = q ∧ ((p : Int) + 2) = (q : Int) := ⟨p + 2, rfl, by omega⟩
  obtain ⟨p3, e3, q3⟩ : ∃ q : Nat, p + 3 = q ∧ ((p : Int) + 3) = (q : Int) := ⟨p + 3, rfl, by omega⟩
  have hw : IntKind.i64.wrap (s[p].toNat : Int) = (s[p].toNat : Int) := by rw [IntKind.wrap_i64]; omega
  clear e1 q1 e2 q2 e3 q3
  go_enter Tryz.func130, Tryz.ntmps130
  go_wp2_with fail
  go_ret2
  exact ⟨rfl, rfl⟩
set_option maxHeartbeats 4000000 in
theorem one_low (s : ByteArray) (p : Nat) (hp : p < s.size) (_ : s.size ≤ 1000000) (w : World) (hc : 128 ≤ s[p].toNat) (hc2 : s[p].toNat < 194) :
    Calls Tryz.prog 130 #[.string s, .int .i64 (p : Nat)] w fun e w' => e = .returned (.tuple #[.int .i64 (-1), .int .i64 1]) ∧ w' = w := by
  obtain ⟨p1, e1, q1⟩ : ∃ q : Nat, p + 1 = q ∧ ((p : Int) + 1) = (q : Int) := ⟨p + 1, rfl, by omega⟩
  obtain ⟨p2, e2, q2⟩ : ∃ q : Nat, p + 2 = q ∧ ((p : Int) + 2) = (q : Int) := ⟨p + 2, rfl, by omega⟩
  obtain ⟨p3, e3, q3⟩ : ∃ q : Nat, p + 3 = q ∧ ((p : Int) + 3) = (q : Int) := ⟨p + 3, rfl, by omega⟩
  have hx : s[p].toNat < 256 := s[p].toNat_lt
  clear e1 q1 e2 q2 e3 q3
  go_enter Tryz.func130, Tryz.ntmps130
  go_wp2_with fail
  go_ret2
  exact ⟨rfl, rfl⟩
set_option maxHeartbeats 4000000 in
theorem one_great (s : ByteArray) (p : Nat) (hp : p < s.size) (_ : s.size ≤ 1000000) (w : World) (hc : 245 ≤ s[p].toNat) :
    Calls Tryz.prog 130 #[.string s, .int .i64 (p : Nat)] w fun e w' => e = .returned (.tuple #[.int .i64 (-1), .int .i64 1]) ∧ w' = w := by
  obtain ⟨p1, e1, q1⟩ : ∃ q : Nat, p + 1 = q ∧ ((p : Int) + 1) = (q : Int) := ⟨p + 1, rfl, by omega⟩
  obtain ⟨p2, e2, q2⟩ : ∃ q : Nat, p + 2 = q ∧ ((p : Int) + 2) = (q : Int) := ⟨p + 2, rfl, by omega⟩
  obtain ⟨p3, e3, q3⟩ : ∃ q : Nat, p + 3 = q ∧ ((p : Int) + 3) = (q : Int) := ⟨p + 3, rfl, by omega⟩
  have hx : s[p].toNat < 256 := s[p].toNat_lt
  clear e1 q1 e2 q2 e3 q3
  go_enter Tryz.func130, Tryz.ntmps130
  go_wp2_with fail
  go_ret2
  exact ⟨rfl, rfl⟩
end Go.Proofs.YtpkhpaklhfomkaaGreatDoor
