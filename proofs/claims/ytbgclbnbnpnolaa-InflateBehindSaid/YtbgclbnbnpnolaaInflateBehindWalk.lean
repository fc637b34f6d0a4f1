/-
  The walk of InflateBehind: it returns true, whatever the bytes.
-/
import Derived.Test.YtbgclbnbnpnolaaInfV
namespace Go.Proofs.Ytbgclbnbnpnolaa
set_option maxRecDepth 100000
open Go.RowKit Go.Deep Go.Joins

set_option maxHeartbeats 4000000 in
theorem inflateBehind_walk (s t : ByteArray) (_w0 : s.size ≤ maxLen) (_w1 : t.size ≤ maxLen) (w : World) :
    Calls Try.prog 5 #[.string s, .string t] w fun e w' => e = .returned (.bool true) ∧ Below w.heap.size w w' := by
  unfold maxLen at *
  by_cases h1 : 3000 < s.size
  · have g1 : decide ((3000 : Int) < (s.size : Int)) = true := decide_eq_true (by omega)
    have g2 : decide (3000 < s.size) = true := decide_eq_true h1
    go_enter Try.func5, Try.ntmps5
    go_wp2_with fail
    refine (awake6_any _).mono ?_; rintro e w1 ⟨rfl, hb1⟩
    go_wp2
    go_ret
    exact ⟨rfl, hb1⟩
  · have g1 : decide ((3000 : Int) < (s.size : Int)) = false := decide_eq_false (by omega)
    have g2 : decide (3000 < s.size) = false := decide_eq_false h1
    by_cases h2 : 1000 < t.size
    · have g3 : decide ((1000 : Int) < (t.size : Int)) = true := decide_eq_true (by omega)
      have g4 : decide (1000 < t.size) = true := decide_eq_true h2
      go_enter Try.func5, Try.ntmps5
      go_wp2_with fail
      refine (awake6_any _).mono ?_; rintro e w1 ⟨rfl, hb1⟩
      go_wp2
      go_ret
      exact ⟨rfl, hb1⟩
    · have g3 : decide ((1000 : Int) < (t.size : Int)) = false := decide_eq_false (by omega)
      have g4 : decide (1000 < t.size) = false := decide_eq_false h2
      have HI1 := Lib.hid (fun w => inflate_all s 50000 (by omega) (by omega) w)
      cases hn : inflM (srcOf s 50000) 0 [] with
      | error k =>
        have HIE : Hid (∀ w, Calls Try.prog 26 #[.string s, .int .i64 50000] w fun e w' => e = .returned (.tuple #[.string ⟨#[]⟩, .int .i64 0, .int .i64 (k : Nat)]) ∧ Below w.heap.size w w') := fun w => by
          have h := HI1.out w
          rw [show (50000 : Int).toNat = 50000 from rfl, hn] at h
          exact h
        have hk := infl_err hn
        clear hn HI1
        · have hne : ((k : Int) == 0) = false := by rw [beq_eq_false_iff_ne]; omega
          go_enter Try.func5, Try.ntmps5
          go_wp2_with fail
          refine (awake6_any _).mono ?_; rintro e w1 ⟨rfl, hb1⟩
          have HB1 := Lib.hid hb1
          clear hb1
          go_wp2_with fail
          refine (HIE.out _).mono ?_; rintro e w2 ⟨rfl, hb2⟩
          have HB2 := Lib.hid (below_then HB1.out hb2)
          clear hb2
          go_wp2
          go_ret
          exact ⟨rfl, HB2.out⟩
      | ok q =>
        obtain ⟨u, A, o⟩ := q
        have hA := infl_grow hn
        have hbe := infl_behind t hn
        have hle := fun h0 => infl_less hn h0
        obtain ⟨n, hnn⟩ : ∃ n, (A + 7) / 8 = n := ⟨_, rfl⟩
        have hns : n ≤ s.size := by omega
        rw [hnn] at hbe
        have hol : o.length ≤ 50000 := infl_room hn
        have HI2 : Hid (∀ w, Calls Try.prog 26 #[.string s, .int .i64 50000] w fun e w' => e = .returned (.tuple #[.string (text o), .int .i64 (n : Nat), .int .i64 0]) ∧ Below w.heap.size w w') := fun w => by
          have h := HI1.out w
          rw [show (50000 : Int).toNat = 50000 from rfl, hn] at h
          rw [infV_ok o hnn] at h
          exact h
        have HI3 : Hid (∀ w, Calls Try.prog 26 #[.string (s.extract 0 n ++ t), .int .i64 (o.length : Nat)] w fun e w' => e = .returned (.tuple #[.string (text o), .int .i64 (n : Nat), .int .i64 0]) ∧ Below w.heap.size w w') := fun w => by
          have h := inflate_all (s.extract 0 n ++ t) (o.length : Nat) (by rw [ByteArray.size_append, size_take0 s n hns]; omega) (by omega) w
          rw [Int.toNat_natCast, hbe] at h
          rw [infV_ok o hnn] at h
          exact h
        have HI4 := Lib.hid (fun w => inflate_all s ((o.length : Int) - 1) (by omega) (by omega) w)
        have hsz : (text o).size = o.length := text_size o
        have HLE : Hid (0 < o.length → infV (inflM (srcOf s (((o.length : Int) - 1).toNat)) 0 []) = .tuple #[.string ⟨#[]⟩, .int .i64 0, .int .i64 14]) := fun h0 => by
          rw [show ((o.length : Int) - 1).toNat = o.length - 1 by omega, hle h0]
          rfl
        clear hn hbe hle hA hnn HI1
        generalize hT : text o = T at *
        generalize o.length = m at *
        go_enter Try.func5, Try.ntmps5
        go_wp2_with fail
        refine (awake6_any _).mono ?_; rintro e w1 ⟨rfl, hb1⟩
        have HB1 := Lib.hid hb1
        clear hb1
        go_wp2_with fail
        refine (HI2.out _).mono ?_; rintro e w2 ⟨rfl, hb2⟩
        have HB2 := Lib.hid (below_then HB1.out hb2)
        clear hb2
        go_wp2_with fail
        refine (HI3.out _).mono ?_; rintro e w3 ⟨rfl, hb3⟩
        have HB3 := Lib.hid (below_then HB2.out hb3)
        clear hb3
        go_wp2_with fail
        refine (HI4.out _).mono ?_; rintro e w4 ⟨rfl, hb4⟩
        have HB4 := Lib.hid (below_then HB3.out hb4)
        clear hb4
        have hni : (n : Int) ≤ (s.size : Int) := by omega
        by_cases hm0 : m = 0
        · subst hm0
          obtain ⟨b5, k5, e5, h5⟩ := infV_form (inflM (srcOf s ((((0 : Nat) : Int) - 1).toNat)) 0 [])
          rw [h5]
          clear h5
          go_wp2
          go_ret
          exact ⟨rfl, HB4.out⟩
        · rw [HLE.out (by omega)]
          have hmz : ((m : Int) == 0) = false := by rw [beq_eq_false_iff_ne]; omega
          go_wp2
          go_ret
          exact ⟨rfl, HB4.out⟩
end Go.Proofs.Ytbgclbnbnpnolaa
