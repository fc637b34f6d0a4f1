/-
  Contracts: the document's One, more classes of lead bytes.
-/
import Derived.Test.YtjnoapbddifcpaaGreatDoorPkAC
namespace Go.Proofs.YtjnoapbddifcpaaGreatDoor
set_option maxRecDepth 100000
open Go.RowKit Go.Deep Go.Joins Go.Lib

set_option maxHeartbeats 4000000 in
theorem one_F0_0 (s : ByteArray) (p : Nat) (hp : p < s.size) (hs : s.size ≤ 1000000) (w : World) (hc : s[p].toNat = 240) (w1 : wiB s (p + 1) 144 191 = false) :
    Calls Tryz.prog 68 #[.string s, .int .i64 (p : Nat)] w fun e w' => e = .returned (.tuple #[.int .i64 (-1), .int .i64 1]) ∧ w' = w := by
  obtain ⟨p1, e1, q1⟩ : ∃ q : Nat, p + 1 = q ∧ ((p : Int) + 1) = (q : Int) := ⟨p + 1, rfl, by omega⟩
  obtain ⟨p2, e2, q2⟩ : ∃ q : Nat, p + 2 = q ∧ ((p : Int) + 2) = (q : Int) := ⟨p + 2, rfl, by omega⟩
  obtain ⟨p3, e3, q3⟩ : ∃ q : Nat, p + 3 = q ∧ ((p : Int) + 3) = (q : Int) := ⟨p + 3, rfl, by omega⟩
  have hx : s[p].toNat < 256 := s[p].toNat_lt
  have t224 : ((s[p].toNat : Int) == 224) = false := by rw [beq_eq_false_iff_ne]; omega
  have t237 : ((s[p].toNat : Int) == 237) = false := by rw [beq_eq_false_iff_ne]; omega
  have t240 : ((s[p].toNat : Int) == 240) = true := by rw [beq_iff_eq]; omega
  have t244 : ((s[p].toNat : Int) == 244) = false := by rw [beq_eq_false_iff_ne]; omega
  have hl1 : 240 ≤ s[p].toNat := by omega
  have hl2 : s[p].toNat ≤ 240 := by omega
  clear hc
  rw [e1] at w1
  have W1 := Lib.hid (fun w => within_any s p1 144 191 w)
  rw [w1] at W1
  clear w1
  clear e1 e2 e3
  go_enter Tryz.func68, Tryz.ntmps68
  go_wp2_with fail
  refine (W1.out _).mono ?_
  rintro e w1 ⟨rfl, rfl⟩
  go_wp2_with fail
  go_ret2
  exact ⟨rfl, rfl⟩
set_option maxHeartbeats 4000000 in
theorem one_F0_1 (s : ByteArray) (p : Nat) (hp : p < s.size) (hs : s.size ≤ 1000000) (w : World) (hc : s[p].toNat = 240) (w1 : wiB s (p + 1) 144 191 = true) (w2 : wiB s (p + 2) 128 191 = false) :
    Calls Tryz.prog 68 #[.string s, .int .i64 (p : Nat)] w fun e w' => e = .returned (.tuple #[.int .i64 (-1), .int .i64 1]) ∧ w' = w := by
  obtain ⟨p1, e1, q1⟩ : ∃ q : Nat, p + 1 = q ∧ ((p : Int) + 1) = (q : Int) := ⟨p + 1, rfl, by omega⟩
  obtain ⟨p2, e2, q2⟩ : ∃ q : Nat, p + 2 = q ∧ ((p : Int) + 2) = (q : Int) := ⟨p + 2, rfl, by omega⟩
  obtain ⟨p3, e3, q3⟩ : ∃ q : Nat, p + 3 = q ∧ ((p : Int) + 3) = (q : Int) := ⟨p + 3, rfl, by omega⟩
  have hx : s[p].toNat < 256 := s[p].toNat_lt
  have t224 : ((s[p].toNat : Int) == 224) = false := by rw [beq_eq_false_iff_ne]; omega
  have t237 : ((s[p].toNat : Int) == 237) = false := by rw [beq_eq_false_iff_ne]; omega
  have t240 : ((s[p].toNat : Int) == 240) = true := by rw [beq_iff_eq]; omega
  have t244 : ((s[p].toNat : Int) == 244) = false := by rw [beq_eq_false_iff_ne]; omega
  have hl1 : 240 ≤ s[p].toNat := by omega
  have hl2 : s[p].toNat ≤ 240 := by omega
  clear hc
  rw [e1] at w1
  have W1 := Lib.hid (fun w => within_any s p1 144 191 w)
  rw [w1] at W1
  rw [e2] at w2
  have W2 := Lib.hid (fun w => within_any s p2 128 191 w)
  rw [w2] at W2
  clear w1
  clear w2
  clear e1 e2 e3
  go_enter Tryz.func68, Tryz.ntmps68
  go_wp2_with fail
  refine (W1.out _).mono ?_
  rintro e w1 ⟨rfl, rfl⟩
  go_wp2_with fail
  refine (W2.out _).mono ?_
  rintro e w2 ⟨rfl, rfl⟩
  go_wp2_with fail
  go_ret2
  exact ⟨rfl, rfl⟩
set_option maxHeartbeats 4000000 in
theorem one_F0_2 (s : ByteArray) (p : Nat) (hp : p < s.size) (hs : s.size ≤ 1000000) (w : World) (hc : s[p].toNat = 240) (w1 : wiB s (p + 1) 144 191 = true) (w2 : wiB s (p + 2) 128 191 = true) (w3 : wiB s (p + 3) 128 191 = false) :
    Calls Tryz.prog 68 #[.string s, .int .i64 (p : Nat)] w fun e w' => e = .returned (.tuple #[.int .i64 (-1), .int .i64 1]) ∧ w' = w := by
  obtain ⟨p1, e1, q1⟩ : ∃ q : Nat, p + 1 = q ∧ ((p : Int) + 1) = (q : Int) := ⟨p + 1, rfl, by omega⟩
  obtain ⟨p2, e2, q2⟩ : ∃ q : Nat, p + 2 = q ∧ ((p : Int) + 2) = (q : Int) := ⟨p + 2, rfl, by omega⟩
  obtain ⟨p3, e3, q3⟩ : ∃ q : Nat, p + 3 = q ∧ ((p : Int) + 3) = (q : Int) := ⟨p + 3, rfl, by omega⟩
  have hx : s[p].toNat < 256 := s[p].toNat_lt
  have t224 : ((s[p].toNat : Int) == 224) = false := by rw [beq_eq_false_iff_ne]; omega
  have t237 : ((s[p].toNat : Int) == 237) = false := by rw [beq_eq_false_iff_ne]; omega
  have t240 : ((s[p].toNat : Int) == 240) = true := by rw [beq_iff_eq]; omega
  have t244 : ((s[p].toNat : Int) == 244) = false := by rw [beq_eq_false_iff_ne]; omega
  have hl1 : 240 ≤ s[p].toNat := by omega
  have hl2 : s[p].toNat ≤ 240 := by omega
  clear hc
  rw [e1] at w1
  have W1 := Lib.hid (fun w => within_any s p1 144 191 w)
  rw [w1] at W1
  rw [e2] at w2
  have W2 := Lib.hid (fun w => within_any s p2 128 191 w)
  rw [w2] at W2
  rw [e3] at w3
  have W3 := Lib.hid (fun w => within_any s p3 128 191 w)
  rw [w3] at W3
  clear w1
  clear w2
  clear w3
  clear e1 e2 e3
  go_enter Tryz.func68, Tryz.ntmps68
  go_wp2_with fail
  refine (W1.out _).mono ?_
  rintro e w1 ⟨rfl, rfl⟩
  go_wp2_with fail
  refine (W2.out _).mono ?_
  rintro e w2 ⟨rfl, rfl⟩
  go_wp2_with fail
  refine (W3.out _).mono ?_
  rintro e w3 ⟨rfl, rfl⟩
  go_wp2_with fail
  go_ret2
  exact ⟨rfl, rfl⟩
set_option maxHeartbeats 4000000 in
theorem one_F0_3 (s : ByteArray) (p : Nat) (hp : p < s.size) (hs : s.size ≤ 1000000) (w : World) (hc : s[p].toNat = 240) (w1 : wiB s (p + 1) 144 191 = true) (w2 : wiB s (p + 2) 128 191 = true) (w3 : wiB s (p + 3) 128 191 = true) :
    Calls Tryz.prog 68 #[.string s, .int .i64 (p : Nat)] w fun e w' => e = .returned (.tuple #[.int .i64 (((s.get! p).toNat % 8) * 64 ^ 3 + (s.get! (p + 1)).toNat % 64 * 64 ^ 2 + (s.get! (p + 2)).toNat % 64 * 64 ^ 1 + (s.get! (p + 3)).toNat % 64 * 64 ^ 0 : Nat), .int .i64 4]) ∧ w' = w := by
  obtain ⟨p1, e1, q1⟩ : ∃ q : Nat, p + 1 = q ∧ ((p : Int) + 1) = (q : Int) := ⟨p + 1, rfl, by omega⟩
  obtain ⟨p2, e2, q2⟩ : ∃ q : Nat, p + 2 = q ∧ ((p : Int) + 2) = (q : Int) := ⟨p + 2, rfl, by omega⟩
  obtain ⟨p3, e3, q3⟩ : ∃ q : Nat, p + 3 = q ∧ ((p : Int) + 3) = (q : Int) := ⟨p + 3, rfl, by omega⟩
  have hx : s[p].toNat < 256 := s[p].toNat_lt
  have t224 : ((s[p].toNat : Int) == 224) = false := by rw [beq_eq_false_iff_ne]; omega
  have t237 : ((s[p].toNat : Int) == 237) = false := by rw [beq_eq_false_iff_ne]; omega
  have t240 : ((s[p].toNat : Int) == 240) = true := by rw [beq_iff_eq]; omega
  have t244 : ((s[p].toNat : Int) == 244) = false := by rw [beq_eq_false_iff_ne]; omega
  have hl1 : 240 ≤ s[p].toNat := by omega
  have hl2 : s[p].toNat ≤ 240 := by omega
  clear hc
  rw [e1] at w1
  have W1 := Lib.hid (fun w => within_any s p1 144 191 w)
  rw [w1] at W1
  rw [e2] at w2
  have W2 := Lib.hid (fun w => within_any s p2 128 191 w)
  rw [w2] at W2
  rw [e3] at w3
  have W3 := Lib.hid (fun w => within_any s p3 128 191 w)
  rw [w3] at W3
  have HC := Lib.hid (get_bang s p hp)
  have hw : IntKind.i64.wrap (s[p].toNat : Int) = (s[p].toNat : Int) := by rw [IntKind.wrap_i64]; omega
  obtain ⟨h1, _, _⟩ := wi_yes w1
  have HC1 : Hid ((s.get! (p + 1)).toNat = s[p1].toNat) := by subst e1; exact get_bang s _ h1
  have hx1 : s[p1].toNat < 256 := s[p1].toNat_lt
  have hw1 : IntKind.i64.wrap (s[p1].toNat : Int) = (s[p1].toNat : Int) := by rw [IntKind.wrap_i64]; omega
  obtain ⟨h2, _, _⟩ := wi_yes w2
  have HC2 : Hid ((s.get! (p + 2)).toNat = s[p2].toNat) := by subst e2; exact get_bang s _ h2
  have hx2 : s[p2].toNat < 256 := s[p2].toNat_lt
  have hw2 : IntKind.i64.wrap (s[p2].toNat : Int) = (s[p2].toNat : Int) := by rw [IntKind.wrap_i64]; omega
  obtain ⟨h3, _, _⟩ := wi_yes w3
  have HC3 : Hid ((s.get! (p + 3)).toNat = s[p3].toNat) := by subst e3; exact get_bang s _ h3
  have hx3 : s[p3].toNat < 256 := s[p3].toNat_lt
  have hw3 : IntKind.i64.wrap (s[p3].toNat : Int) = (s[p3].toNat : Int) := by rw [IntKind.wrap_i64]; omega
  clear w1
  clear w2
  clear w3
  obtain ⟨a0, ha0, ma0⟩ : ∃ a : Nat, ((s[p].toNat : Int) % 8) = (a : Int) ∧ a < 8 := ⟨s[p].toNat % 8, by omega, by omega⟩
  have HA0 := Lib.hid ha0
  obtain ⟨c1, hc1, mc1⟩ : ∃ a : Nat, ((s[p1].toNat : Int) % 64) = (a : Int) ∧ a < 64 := ⟨s[p1].toNat % 64, by omega, by omega⟩
  have HD1 := Lib.hid hc1
  obtain ⟨a1, ha1, ma1⟩ : ∃ a : Nat, ((a0 : Int) * 64 + (c1 : Int)) = (a : Int) ∧ a < 512 := ⟨a0 * 64 + c1, by omega, by omega⟩
  have HA1 := Lib.hid ha1
  obtain ⟨c2, hc2, mc2⟩ : ∃ a : Nat, ((s[p2].toNat : Int) % 64) = (a : Int) ∧ a < 64 := ⟨s[p2].toNat % 64, by omega, by omega⟩
  have HD2 := Lib.hid hc2
  obtain ⟨a2, ha2, ma2⟩ : ∃ a : Nat, ((a1 : Int) * 64 + (c2 : Int)) = (a : Int) ∧ a < 32768 := ⟨a1 * 64 + c2, by omega, by omega⟩
  have HA2 := Lib.hid ha2
  obtain ⟨c3, hc3, mc3⟩ : ∃ a : Nat, ((s[p3].toNat : Int) % 64) = (a : Int) ∧ a < 64 := ⟨s[p3].toNat % 64, by omega, by omega⟩
  have HD3 := Lib.hid hc3
  obtain ⟨a3, ha3, ma3⟩ : ∃ a : Nat, ((a2 : Int) * 64 + (c3 : Int)) = (a : Int) ∧ a < 2097152 := ⟨a2 * 64 + c3, by omega, by omega⟩
  have HA3 := Lib.hid ha3
  clear e1 e2 e3
  go_enter Tryz.func68, Tryz.ntmps68
  go_wp2_with fail
  refine (W1.out _).mono ?_
  rintro e w1 ⟨rfl, rfl⟩
  go_wp2_with fail
  refine (W2.out _).mono ?_
  rintro e w2 ⟨rfl, rfl⟩
  go_wp2_with fail
  refine (W3.out _).mono ?_
  rintro e w3 ⟨rfl, rfl⟩
  go_wp2_with fail
  refine wp_loop_rounds 4 ?_
  rw [rounds_succ]
  go_wp2_with fail
  rw [rounds_succ]
  go_wp2_with fail
  rw [rounds_succ]
  go_wp2_with fail
  rw [rounds_succ]
  go_wp2_with fail
  go_ret2
  rw [HC.out, HC1.out, HC2.out, HC3.out]
  have hv : (a3 : Int) = (((s[p].toNat % 8) * 64 ^ 3 + s[p1].toNat % 64 * 64 ^ 2 + s[p2].toNat % 64 * 64 ^ 1 + s[p3].toNat % 64 * 64 ^ 0 : Nat) : Int) := by
    have := HA0.out
    have := HA1.out
    have := HD1.out
    have := HA2.out
    have := HD2.out
    have := HA3.out
    have := HD3.out
    omega
  refine ⟨?_, rfl⟩
  show Ending.returned (.tuple #[.int .i64 (a3 : Int), .int .i64 4]) = _
  rw [hv]
set_option maxHeartbeats 4000000 in
theorem one_F1_0 (s : ByteArray) (p : Nat) (hp : p < s.size) (hs : s.size ≤ 1000000) (w : World) (hc : 241 ≤ s[p].toNat) (hc2 : s[p].toNat ≤ 243) (w1 : wiB s (p + 1) 128 191 = false) :
    Calls Tryz.prog 68 #[.string s, .int .i64 (p : Nat)] w fun e w' => e = .returned (.tuple #[.int .i64 (-1), .int .i64 1]) ∧ w' = w := by
  obtain ⟨p1, e1, q1⟩ : ∃ q : Nat, p + 1 = q ∧ ((p : Int) + 1) = (q : Int) := ⟨p + 1, rfl, by omega⟩
  obtain ⟨p2, e2, q2⟩ : ∃ q : Nat, p + 2 = q ∧ ((p : Int) + 2) = (q : Int) := ⟨p + 2, rfl, by omega⟩
  obtain ⟨p3, e3, q3⟩ : ∃ q : Nat, p + 3 = q ∧ ((p : Int) + 3) = (q : Int) := ⟨p + 3, rfl, by omega⟩
  have hx : s[p].toNat < 256 := s[p].toNat_lt
  have t224 : ((s[p].toNat : Int) == 224) = false := by rw [beq_eq_false_iff_ne]; omega
  have t237 : ((s[p].toNat : Int) == 237) = false := by rw [beq_eq_false_iff_ne]; omega
  have t240 : ((s[p].toNat : Int) == 240) = false := by rw [beq_eq_false_iff_ne]; omega
  have t244 : ((s[p].toNat : Int) == 244) = false := by rw [beq_eq_false_iff_ne]; omega
  rw [e1] at w1
  have W1 := Lib.hid (fun w => within_any s p1 128 191 w)
  rw [w1] at W1
  clear w1
  clear e1 e2 e3
  go_enter Tryz.func68, Tryz.ntmps68
  go_wp2_with fail
  refine (W1.out _).mono ?_
  rintro e w1 ⟨rfl, rfl⟩
  go_wp2_with fail
  go_ret2
  exact ⟨rfl, rfl⟩
set_option maxHeartbeats 4000000 in
theorem one_F1_1 (s : ByteArray) (p : Nat) (hp : p < s.size) (hs : s.size ≤ 1000000) (w : World) (hc : 241 ≤ s[p].toNat) (hc2 : s[p].toNat ≤ 243) (w1 : wiB s (p + 1) 128 191 = true) (w2 : wiB s (p + 2) 128 191 = false) :
    Calls Tryz.prog 68 #[.string s, .int .i64 (p : Nat)] w fun e w' => e = .returned (.tuple #[.int .i64 (-1), .int .i64 1]) ∧ w' = w := by
  obtain ⟨p1, e1, q1⟩ : ∃ q : Nat, p + 1 = q ∧ ((p : Int) + 1) = (q : Int) := ⟨p + 1, rfl, by omega⟩
  obtain ⟨p2, e2, q2⟩ : ∃ q : Nat, p + 2 = q ∧ ((p : Int) + 2) = (q : Int) := ⟨p + 2, rfl, by omega⟩
  obtain ⟨p3, e3, q3⟩ : ∃ q : Nat, p + 3 = q ∧ ((p : Int) + 3) = (q : Int) := ⟨p + 3, rfl, by omega⟩
  have hx : s[p].toNat < 256 := s[p].toNat_lt
  have t224 : ((s[p].toNat : Int) == 224) = false := by rw [beq_eq_false_iff_ne]; omega
  have t237 : ((s[p].toNat : Int) == 237) = false := by rw [beq_eq_false_iff_ne]; omega
  have t240 : ((s[p].toNat : Int) == 240) = false := by rw [beq_eq_false_iff_ne]; omega
  have t244 : ((s[p].toNat : Int) == 244) = false := by rw [beq_eq_false_iff_ne]; omega
  rw [e1] at w1
  have W1 := Lib.hid (fun w => within_any s p1 128 191 w)
  rw [w1] at W1
  rw [e2] at w2
  have W2 := Lib.hid (fun w => within_any s p2 128 191 w)
  rw [w2] at W2
  clear w1
  clear w2
  clear e1 e2 e3
  go_enter Tryz.func68, Tryz.ntmps68
  go_wp2_with fail
  refine (W1.out _).mono ?_
  rintro e w1 ⟨rfl, rfl⟩
  go_wp2_with fail
  refine (W2.out _).mono ?_
  rintro e w2 ⟨rfl, rfl⟩
  go_wp2_with fail
  go_ret2
  exact ⟨rfl, rfl⟩
set_option maxHeartbeats 4000000 in
theorem one_F1_2 (s : ByteArray) (p : Nat) (hp : p < s.size) (hs : s.size ≤ 1000000) (w : World) (hc : 241 ≤ s[p].toNat) (hc2 : s[p].toNat ≤ 243) (w1 : wiB s (p + 1) 128 191 = true) (w2 : wiB s (p + 2) 128 191 = true) (w3 : wiB s (p + 3) 128 191 = false) :
    Calls Tryz.prog 68 #[.string s, .int .i64 (p : Nat)] w fun e w' => e = .returned (.tuple #[.int .i64 (-1), .int .i64 1]) ∧ w' = w := by
  obtain ⟨p1, e1, q1⟩ : ∃ q : Nat, p + 1 = q ∧ ((p : Int) + 1) = (q : Int) := ⟨p + 1, rfl, by omega⟩
  obtain ⟨p2, e2, q2⟩ : ∃ q : Nat, p + 2 = q ∧ ((p : Int) + 2) = (q : Int) := ⟨p + 2, rfl, by omega⟩
  obtain ⟨p3, e3, q3⟩ : ∃ q : Nat, p + 3 = q ∧ ((p : Int) + 3) = (q : Int) := ⟨p + 3, rfl, by omega⟩
  have hx : s[p].toNat < 256 := s[p].toNat_lt
  have t224 : ((s[p].toNat : Int) == 224) = false := by rw [beq_eq_false_iff_ne]; omega
  have t237 : ((s[p].toNat : Int) == 237) = false := by rw [beq_eq_false_iff_ne]; omega
  have t240 : ((s[p].toNat : Int) == 240) = false := by rw [beq_eq_false_iff_ne]; omega
  have t244 : ((s[p].toNat : Int) == 244) = false := by rw [beq_eq_false_iff_ne]; omega
  rw [e1] at w1
  have W1 := Lib.hid (fun w => within_any s p1 128 191 w)
  rw [w1] at W1
  rw [e2] at w2
  have W2 := Lib.hid (fun w => within_any s p2 128 191 w)
  rw [w2] at W2
  rw [e3] at w3
  have W3 := Lib.hid (fun w => within_any s p3 128 191 w)
  rw [w3] at W3
  clear w1
  clear w2
  clear w3
  clear e1 e2 e3
  go_enter Tryz.func68, Tryz.ntmps68
  go_wp2_with fail
  refine (W1.out _).mono ?_
  rintro e w1 ⟨rfl, rfl⟩
  go_wp2_with fail
  refine (W2.out _).mono ?_
  rintro e w2 ⟨rfl, rfl⟩
  go_wp2_with fail
  refine (W3.out _).mono ?_
  rintro e w3 ⟨rfl, rfl⟩
  go_wp2_with fail
  go_ret2
  exact ⟨rfl, rfl⟩
set_option maxHeartbeats 4000000 in
theorem one_F1_3 (s : ByteArray) (p : Nat) (hp : p < s.size) (hs : s.size ≤ 1000000) (w : World) (hc : 241 ≤ s[p].toNat) (hc2 : s[p].toNat ≤ 243) (w1 : wiB s (p + 1) 128 191 = true) (w2 : wiB s (p + 2) 128 191 = true) (w3 : wiB s (p + 3) 128 191 = true) :
    Calls Tryz.prog 68 #[.string s, .int .i64 (p : Nat)] w fun e w' => e = .returned (.tuple #[.int .i64 (((s.get! p).toNat % 8) * 64 ^ 3 + (s.get! (p + 1)).toNat % 64 * 64 ^ 2 + (s.get! (p + 2)).toNat % 64 * 64 ^ 1 + (s.get! (p + 3)).toNat % 64 * 64 ^ 0 : Nat), .int .i64 4]) ∧ w' = w := by
  obtain ⟨p1, e1, q1⟩ : ∃ q : Nat, p + 1 = q ∧ ((p : Int) + 1) = (q : Int) := ⟨p + 1, rfl, by omega⟩
  obtain ⟨p2, e2, q2⟩ : ∃ q : Nat, p + 2 = q ∧ ((p : Int) + 2) = (q : Int) := ⟨p + 2, rfl, by omega⟩
  obtain ⟨p3, e3, q3⟩ : ∃ q : Nat, p + 3 = q ∧ ((p : Int) + 3) = (q : Int) := ⟨p + 3, rfl, by omega⟩
  have hx : s[p].toNat < 256 := s[p].toNat_lt
  have t224 : ((s[p].toNat : Int) == 224) = false := by rw [beq_eq_false_iff_ne]; omega
  have t237 : ((s[p].toNat : Int) == 237) = false := by rw [beq_eq_false_iff_ne]; omega
  have t240 : ((s[p].toNat : Int) == 240) = false := by rw [beq_eq_false_iff_ne]; omega
  have t244 : ((s[p].toNat : Int) == 244) = false := by rw [beq_eq_false_iff_ne]; omega
  rw [e1] at w1
  have W1 := Lib.hid (fun w => within_any s p1 128 191 w)
  rw [w1] at W1
  rw [e2] at w2
  have W2 := Lib.hid (fun w => within_any s p2 128 191 w)
  rw [w2] at W2
  rw [e3] at w3
  have W3 := Lib.hid (fun w => within_any s p3 128 191 w)
  rw [w3] at W3
  have HC := Lib.hid (get_bang s p hp)
  have hw : IntKind.i64.wrap (s[p].toNat : Int) = (s[p].toNat : Int) := by rw [IntKind.wrap_i64]; omega
  obtain ⟨h1, _, _⟩ := wi_yes w1
  have HC1 : Hid ((s.get! (p + 1)).toNat = s[p1].toNat) := by subst e1; exact get_bang s _ h1
  have hx1 : s[p1].toNat < 256 := s[p1].toNat_lt
  have hw1 : IntKind.i64.wrap (s[p1].toNat : Int) = (s[p1].toNat : Int) := by rw [IntKind.wrap_i64]; omega
  obtain ⟨h2, _, _⟩ := wi_yes w2
  have HC2 : Hid ((s.get! (p + 2)).toNat = s[p2].toNat) := by subst e2; exact get_bang s _ h2
  have hx2 : s[p2].toNat < 256 := s[p2].toNat_lt
  have hw2 : IntKind.i64.wrap (s[p2].toNat : Int) = (s[p2].toNat : Int) := by rw [IntKind.wrap_i64]; omega
  obtain ⟨h3, _, _⟩ := wi_yes w3
  have HC3 : Hid ((s.get! (p + 3)).toNat = s[p3].toNat) := by subst e3; exact get_bang s _ h3
  have hx3 : s[p3].toNat < 256 := s[p3].toNat_lt
  have hw3 : IntKind.i64.wrap (s[p3].toNat : Int) = (s[p3].toNat : Int) := by rw [IntKind.wrap_i64]; omega
  clear w1
  clear w2
  clear w3
  obtain ⟨a0, ha0, ma0⟩ : ∃ a : Nat, ((s[p].toNat : Int) % 8) = (a : Int) ∧ a < 8 := ⟨s[p].toNat % 8, by omega, by omega⟩
  have HA0 := Lib.hid ha0
  obtain ⟨c1, hc1, mc1⟩ : ∃ a : Nat, ((s[p1].toNat : Int) % 64) = (a : Int) ∧ a < 64 := ⟨s[p1].toNat % 64, by omega, by omega⟩
  have HD1 := Lib.hid hc1
  obtain ⟨a1, ha1, ma1⟩ : ∃ a : Nat, ((a0 : Int) * 64 + (c1 : Int)) = (a : Int) ∧ a < 512 := ⟨a0 * 64 + c1, by omega, by omega⟩
  have HA1 := Lib.hid ha1
  obtain ⟨c2, hc2, mc2⟩ : ∃ a : Nat, ((s[p2].toNat : Int) % 64) = (a : Int) ∧ a < 64 := ⟨s[p2].toNat % 64, by omega, by omega⟩
  have HD2 := Lib.hid hc2
  obtain ⟨a2, ha2, ma2⟩ : ∃ a : Nat, ((a1 : Int) * 64 + (c2 : Int)) = (a : Int) ∧ a < 32768 := ⟨a1 * 64 + c2, by omega, by omega⟩
  have HA2 := Lib.hid ha2
  obtain ⟨c3, hc3, mc3⟩ : ∃ a : Nat, ((s[p3].toNat : Int) % 64) = (a : Int) ∧ a < 64 := ⟨s[p3].toNat % 64, by omega, by omega⟩
  have HD3 := Lib.hid hc3
  obtain ⟨a3, ha3, ma3⟩ : ∃ a : Nat, ((a2 : Int) * 64 + (c3 : Int)) = (a : Int) ∧ a < 2097152 := ⟨a2 * 64 + c3, by omega, by omega⟩
  have HA3 := Lib.hid ha3
  clear e1 e2 e3
  go_enter Tryz.func68, Tryz.ntmps68
  go_wp2_with fail
  refine (W1.out _).mono ?_
  rintro e w1 ⟨rfl, rfl⟩
  go_wp2_with fail
  refine (W2.out _).mono ?_
  rintro e w2 ⟨rfl, rfl⟩
  go_wp2_with fail
  refine (W3.out _).mono ?_
  rintro e w3 ⟨rfl, rfl⟩
  go_wp2_with fail
  refine wp_loop_rounds 4 ?_
  rw [rounds_succ]
  go_wp2_with fail
  rw [rounds_succ]
  go_wp2_with fail
  rw [rounds_succ]
  go_wp2_with fail
  rw [rounds_succ]
  go_wp2_with fail
  go_ret2
  rw [HC.out, HC1.out, HC2.out, HC3.out]
  have hv : (a3 : Int) = (((s[p].toNat % 8) * 64 ^ 3 + s[p1].toNat % 64 * 64 ^ 2 + s[p2].toNat % 64 * 64 ^ 1 + s[p3].toNat % 64 * 64 ^ 0 : Nat) : Int) := by
    have := HA0.out
    have := HA1.out
    have := HD1.out
    have := HA2.out
    have := HD2.out
    have := HA3.out
    have := HD3.out
    omega
  refine ⟨?_, rfl⟩
  show Ending.returned (.tuple #[.int .i64 (a3 : Int), .int .i64 4]) = _
  rw [hv]
end Go.Proofs.YtjnoapbddifcpaaGreatDoor
