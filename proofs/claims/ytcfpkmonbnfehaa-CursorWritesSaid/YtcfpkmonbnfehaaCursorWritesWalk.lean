/-
  The walk of CursorWrites: it returns true, whatever the number, the count and the text.
-/
import Derived.Test.YtcfpkmonbnfehaaCurD
namespace Go.Proofs.Ytcfpkmonbnfehaa
open Go.RowKit Go.Joins

theorem le2 (n : Nat) : le (n % 65536) 2 = le n 2 := le_mod n 2 2 (Nat.le_refl _)
theorem le4 (n : Nat) : le (n % 4294967296) 4 = le n 4 := le_mod n 4 4 (Nat.le_refl _)
theorem two_mod (n : Nat) (w : World) : Calls Try.prog 15 #[.int .u16 ((n : Int) % 65536)] w fun e w' => e = .returned (.string (text (le n 2))) ∧ Below w.heap.size w w' := by
  have h := two_any (n % 65536) (by omega) w
  rw [le2] at h
  exact h
theorem four_mod (n : Nat) (w : World) : Calls Try.prog 17 #[.int .u32 ((n : Int) % 4294967296)] w fun e w' => e = .returned (.string (text (le n 4))) ∧ Below w.heap.size w w' := by
  have h := four_any (n % 4294967296) (by omega) w
  rw [le4] at h
  exact h
theorem rof2 (n : Nat) (w : World) : Calls Try.prog 16 #[.int .u64 ((n : Int) % 65536), .int .i64 2] w fun e w' => e = .returned (.string (text (le n 2))) ∧ Below w.heap.size w w' := by
  have h := rof_any (n % 65536) (by omega) 2 (by decide) w
  rw [show (min (2 : Int) 64).toNat = 2 from rfl, le2] at h
  exact h
theorem rof4 (n : Nat) (w : World) : Calls Try.prog 16 #[.int .u64 ((n : Int) % 4294967296), .int .i64 4] w fun e w' => e = .returned (.string (text (le n 4))) ∧ Below w.heap.size w w' := by
  have h := rof_any (n % 4294967296) (by omega) 4 (by decide) w
  rw [show (min (4 : Int) 64).toNat = 4 from rfl, le4] at h
  exact h
theorem rof8 (n : Nat) (hn : n < 18446744073709551616) (w : World) : Calls Try.prog 16 #[.int .u64 (n : Int), .int .i64 8] w fun e w' => e = .returned (.string (text (le n 8))) ∧ Below w.heap.size w w' :=
  rof_any n hn 8 (by decide) w

theorem cursorWrites_walk (a0 : Int) (a1 : Int) (a2 : ByteArray) (w0 : (Lit.int .u64 a0).wf = true) (w1 : (Lit.int .i64 a1).wf = true) (w2 : a2.size ≤ maxLen) (w : World) :
    Calls Try.prog 3 #[.int .u64 a0, .int .i64 a1, .string a2] w fun e w' => e = .returned (.bool true) ∧ Below w.heap.size w w' := by
  obtain ⟨n, rfl, hn⟩ := nat_u64 w0
  clear w0
  by_cases h8 : a2.size ≤ 8
  · go_enter Try.func3, Try.ntmps3
    go_wp2_with (first | (go_at_call 12; refine (awake1_any _).mono ?_; rintro r wA ⟨rfl, hb⟩) | (go_at_call 13; refine (number_any a2 h8 _).mono ?_; rintro r w3 ⟨rfl, rfl⟩) | (go_at_call 14; refine (rnumber_any a2 h8 _).mono ?_; rintro r w3 ⟨rfl, rfl⟩))
    have HB := Lib.hid hb
    clear hb
    refine (two_mod n _).mono ?_; rintro r w3 ⟨rfl, hb3⟩
    have H3 := Lib.hid (below_then HB.out hb3)
    clear hb3
    go_wp2_with fail
    refine (rof2 n _).mono ?_; rintro r w4 ⟨rfl, hb4⟩
    have H4 := Lib.hid (below_then H3.out hb4)
    clear hb4
    go_wp2_with fail
    refine (four_mod n _).mono ?_; rintro r w5 ⟨rfl, hb5⟩
    have H5 := Lib.hid (below_then H4.out hb5)
    clear hb5
    go_wp2_with fail
    refine (rof4 n _).mono ?_; rintro r w6 ⟨rfl, hb6⟩
    have H6 := Lib.hid (below_then H5.out hb6)
    clear hb6
    go_wp2_with fail
    refine (eight_any n hn _).mono ?_; rintro r w7 ⟨rfl, hb7⟩
    have H7 := Lib.hid (below_then H6.out hb7)
    clear hb7
    go_wp2_with fail
    refine (rof8 n hn _).mono ?_; rintro r w8 ⟨rfl, hb8⟩
    have H8 := Lib.hid (below_then H7.out hb8)
    clear hb8
    go_wp2_with fail
    refine (of_any n hn a1 _).mono ?_; rintro r w9 ⟨rfl, hb9⟩
    have H9 := Lib.hid (below_then H8.out hb9)
    clear hb9
    go_wp2_with fail
    refine (rof_any n hn a1 w1 _).mono ?_; rintro r w10 ⟨rfl, hb10⟩
    have H10 := Lib.hid (below_then H9.out hb10)
    clear hb10
    go_wp2_with fail
    go_ret
    exact ⟨rfl, H10.out⟩
  · have h9 : 8 < a2.size := by omega
    go_enter Try.func3, Try.ntmps3
    go_wp2_with (first | (go_at_call 12; refine (awake1_any _).mono ?_; rintro r wA ⟨rfl, hb⟩) | (go_at_call 13; refine (number_long a2 w2 h9 _).mono ?_; rintro r w3 ⟨rfl, rfl⟩))
    have HB := Lib.hid hb
    clear hb
    refine (two_mod n _).mono ?_; rintro r w3 ⟨rfl, hb3⟩
    have H3 := Lib.hid (below_then HB.out hb3)
    clear hb3
    go_wp2_with fail
    refine (rof2 n _).mono ?_; rintro r w4 ⟨rfl, hb4⟩
    have H4 := Lib.hid (below_then H3.out hb4)
    clear hb4
    go_wp2_with fail
    refine (four_mod n _).mono ?_; rintro r w5 ⟨rfl, hb5⟩
    have H5 := Lib.hid (below_then H4.out hb5)
    clear hb5
    go_wp2_with fail
    refine (rof4 n _).mono ?_; rintro r w6 ⟨rfl, hb6⟩
    have H6 := Lib.hid (below_then H5.out hb6)
    clear hb6
    go_wp2_with fail
    refine (eight_any n hn _).mono ?_; rintro r w7 ⟨rfl, hb7⟩
    have H7 := Lib.hid (below_then H6.out hb7)
    clear hb7
    go_wp2_with fail
    refine (rof8 n hn _).mono ?_; rintro r w8 ⟨rfl, hb8⟩
    have H8 := Lib.hid (below_then H7.out hb8)
    clear hb8
    go_wp2_with fail
    refine (of_any n hn a1 _).mono ?_; rintro r w9 ⟨rfl, hb9⟩
    have H9 := Lib.hid (below_then H8.out hb9)
    clear hb9
    go_wp2_with fail
    refine (rof_any n hn a1 w1 _).mono ?_; rintro r w10 ⟨rfl, hb10⟩
    have H10 := Lib.hid (below_then H9.out hb10)
    clear hb10
    go_wp2_with fail
    go_ret
    exact ⟨rfl, H10.out⟩
end Go.Proofs.Ytcfpkmonbnfehaa
