/-
  Contracts: leaps, monthDays, daysAhead, yearOf, within.
-/
import Derived.Test.YtmbifoockenniaaDoorStM
import Derived.Deep.QuietTactic
import Derived.BigQuiet
import Derived.Lib.SmallJoins
namespace Go.Proofs.YtmbifoockenniaaDoor
set_option maxRecDepth 100000
open Go.RowKit Go.Joins

theorem leaps_any (y : Nat) (hy : y ≤ 20000) (w : World) :
    Calls Tryd.prog 61 #[.int .i64 y] w fun e w' => e = .returned (.bool (leapB y)) ∧ w = w' := by
  have h4 : (((y : Nat) : Int) % 4 == 0) = decide (y % 4 = 0) := by rw [Bool.eq_iff_iff, beq_iff_eq, decide_eq_true_iff]; omega
  have h100 : (((y : Nat) : Int) % 100 != 0) = !decide (y % 100 = 0) := by rw [Bool.eq_iff_iff, bne_iff_ne, Bool.not_eq_true', decide_eq_false_iff_not]; omega
  have h400 : (((y : Nat) : Int) % 400 == 0) = decide (y % 400 = 0) := by rw [Bool.eq_iff_iff, beq_iff_eq, decide_eq_true_iff]; omega
  have HB : Hid (leapB y = (decide (y % 4 = 0) && !decide (y % 100 = 0) || decide (y % 400 = 0))) := by
    show _ = _
    rw [Bool.eq_iff_iff, leap_iff]
    simp
  generalize decide (y % 4 = 0) = b4 at *
  generalize decide (y % 100 = 0) = b100 at *
  generalize decide (y % 400 = 0) = b400 at *
  go_enter Tryd.func61, Tryd.ntmps61
  cases b4 <;> cases b100 <;> cases b400
  all_goals
    go_wp2_with fail
    go_ret
    exact ⟨by rw [HB.out]; rfl, rfl⟩

theorem leaps_y (y : Nat) (hy : y ≤ 20000) (h : leapB y = true) (w : World) :
    Calls Tryd.prog 61 #[.int .i64 y] w fun e w' => e = .returned (.bool true) ∧ w = w' := by
  have := leaps_any y hy w
  rw [h] at this
  exact this
theorem leaps_n (y : Nat) (hy : y ≤ 20000) (h : leapB y = false) (w : World) :
    Calls Tryd.prog 61 #[.int .i64 y] w fun e w' => e = .returned (.bool false) ∧ w = w' := by
  have := leaps_any y hy w
  rw [h] at this
  exact this
theorem ml_two (y : Nat) : ml y 2 = 28 + lpN y := rfl
theorem monthDays_any (y m : Nat) (hy : y ≤ 20000) (h1 : 1 ≤ m) (h2 : m ≤ 12) (w : World) :
    Calls Tryd.prog 35 #[.int .i64 y, .int .i64 m] w fun e w' => e = .returned (.int .i64 (ml y m : Nat)) ∧ w = w' := by
  by_cases e2 : m = 2
  · subst e2
    cases hl : leapB y with
    | true =>
      have HM : Hid (ml y 2 = 29) := by show ml y 2 = _; rw [ml_two]; unfold lpN; rw [if_pos hl]
      have HL := Lib.hid (fun w => leaps_y y hy hl w)
      clear hl
      go_enter Tryd.func35, Tryd.ntmps35
      go_wp2_with fail
      refine (HL.out _).mono ?_; rintro r w1 ⟨rfl, rfl⟩
      go_wp2_with fail
      go_ret
      exact ⟨by rw [HM.out]; rfl, rfl⟩
    | false =>
      have HM : Hid (ml y 2 = 28) := by show ml y 2 = _; rw [ml_two]; unfold lpN; rw [if_neg (by rw [hl]; decide)]
      have HL := Lib.hid (fun w => leaps_n y hy hl w)
      clear hl
      go_enter Tryd.func35, Tryd.ntmps35
      go_wp2_with fail
      refine (HL.out _).mono ?_; rintro r w1 ⟨rfl, rfl⟩
      go_wp2_with fail
      go_ret
      exact ⟨by rw [HM.out]; rfl, rfl⟩
  · have hm : ml y m = if m = 4 ∨ m = 6 ∨ m = 9 ∨ m = 11 then 30 else 31 := if_neg e2
    have : m = 1 ∨ m = 3 ∨ m = 4 ∨ m = 5 ∨ m = 6 ∨ m = 7 ∨ m = 8 ∨ m = 9 ∨ m = 10 ∨ m = 11 ∨ m = 12 := by omega
    have HM := Lib.hid hm
    clear hm h1 h2
    go_enter Tryd.func35, Tryd.ntmps35
    rcases this with rfl | rfl | rfl | rfl | rfl | rfl | rfl | rfl | rfl | rfl | rfl
    all_goals
      clear e2
      go_wp2_with fail
      go_ret
      exact ⟨by rw [HM.out]; rfl, rfl⟩

theorem dbf_int (y : Nat) (h1 : 1 ≤ y) : ((dbf y : Nat) : Int) = 365 * ((y : Int) - 1) + ((y : Int) - 1) / 4 - ((y : Int) - 1) / 100 + ((y : Int) - 1) / 400 := by
  obtain ⟨n, rfl⟩ : ∃ n, y = n + 1 := ⟨y - 1, by omega⟩
  unfold dbf
  rw [Nat.add_sub_cancel]
  have h1 : n / 100 ≤ 365 * n + n / 4 := by omega
  have e : ((n + 1 : Nat) : Int) - 1 = (n : Nat) := by omega
  have a4 : ((n : Nat) : Int) / 4 = ((n / 4 : Nat) : Int) := by omega
  have a100 : ((n : Nat) : Int) / 100 = ((n / 100 : Nat) : Int) := by omega
  have a400 : ((n : Nat) : Int) / 400 = ((n / 400 : Nat) : Int) := by omega
  rw [e, a4, a100, a400]
  generalize n / 4 = a at *
  generalize n / 100 = b at *
  generalize n / 400 = c at *
  clear e a4 a100 a400
  omega
theorem daysAhead_any (y : Nat) (h1 : 1 ≤ y) (h2 : y ≤ 20000) (w : World) :
    Calls Tryd.prog 39 #[.int .i64 y] w fun e w' => e = .returned (.int .i64 (dbf y : Nat)) ∧ w = w' := by
  have HD := Lib.hid (dbf_int y h1)
  go_enter Tryd.func39, Tryd.ntmps39
  go_wp2_with fail
  go_ret
  exact ⟨ret_eq (by rw [HD.out]), rfl⟩

theorem yearOf_any (y r : Nat) (h1 : 1 ≤ y) (h2 : y ≤ 9999) (hr : r < yl y) (w : World) :
    Calls Tryd.prog 34 #[.int .i64 (dbf y + r : Nat)] w fun e w' => e = .returned (.tuple #[.int .i64 (y : Nat), .int .i64 (r : Nat)]) ∧ w = w' := by
  have hge := dbf_ge y h1
  have hl : yl y ≤ 366 := by have := lpN_le y; unfold yl; omega
  have HM : Hid (∀ k, 1 ≤ k → k < y → dbf (k + 1) ≤ dbf y + r) := fun k a b => by have := dbf_mono (k + 1) y (by omega) (by omega); omega
  have HN : Hid (dbf y + r < dbf (y + 1)) := by show _ < _; rw [dbf_succ y h1]; omega
  have HS : Hid ((dbf y + r) / 366 + 1 ≤ y) := by
    show _ ≤ _
    omega
  have hD : dbf y + r ≤ 3700000 := by omega
  have HD := Lib.hid (show ((dbf y + r : Nat) : Int) - (dbf y : Nat) = (r : Nat) by omega)
  have HDB : Hid (∀ k, k ≤ y + 1 → dbf k ≤ 4000000) := fun k hk => by
    have : dbf k ≤ 366 * (k - 1) + 1 := by
      by_cases h : 1 ≤ k
      · have := (dbf_ge k h).2; omega
      · obtain rfl : k = 0 := by omega
        decide
    omega
  have hrb : r ≤ 366 := by omega
  have hyb : dbf y ≤ 3700000 := by omega
  clear hge hl hr
  generalize hDD : dbf y + r = D at *
  have HDD := Lib.hid hDD
  clear hDD
  go_enter Tryd.func34, Tryd.ntmps34
  go_wp2_with fail
  go_loop [4] (fun v => ∃ k : Nat, 1 ≤ k ∧ k ≤ y ∧ v = .int .i64 (k : Nat)) (fun v => y - (intOf v).toNat)
  case atStart => exact ⟨D / 366 + 1, by omega, HS.out, by go_num⟩
  case round =>
    obtain ⟨k, k1, k2, rfl⟩ := hrel
    have hdb := HDB.out (k + 1) (by omega)
    by_cases hk : k < y
    · have hle := HM.out k k1 hk
      go_wp2_with fail
      refine (daysAhead_any (k + 1) (by omega) (by omega) _).mono ?_; rintro e w1 ⟨rfl, rfl⟩
      generalize dbf (k + 1) = D2 at *
      go_wp2_with fail
      go_round
      case rel => exact ⟨k + 1, by omega, by omega, by go_num⟩
      case measure => simp [intOf]; omega
    · obtain rfl : k = y := by omega
      have hlt := HN.out
      have hd2 := HDB.out k (by omega)
      go_wp2_with fail
      refine (daysAhead_any (k + 1) (by omega) (by omega) _).mono ?_; rintro e w1 ⟨rfl, rfl⟩
      generalize dbf (k + 1) = D2 at *
      go_wp2_with fail
      refine (daysAhead_any k (by omega) (by omega) _).mono ?_; rintro e w1 ⟨rfl, rfl⟩
      go_wp2_with fail
      go_ret2
      exact ⟨by rw [← HD.out]; rfl, rfl⟩

theorem within_y (n a b : Int) (h : a ≤ n ∧ n ≤ b) (w : World) :
    Calls Tryd.prog 63 #[.int .i64 n, .int .i64 a, .int .i64 b] w fun e w' => e = .returned (.bool true) ∧ w' = w := by
  obtain ⟨h1, h2⟩ := h
  have d1 : decide (a ≤ n) = true := decide_eq_true h1
  have d2 : decide (n ≤ b) = true := decide_eq_true h2
  go_enter Tryd.func63, Tryd.ntmps63
  go_wp2_with fail
  go_ret
  exact ⟨rfl, rfl⟩
theorem within_n (n a b : Int) (h : ¬ (a ≤ n ∧ n ≤ b)) (w : World) :
    Calls Tryd.prog 63 #[.int .i64 n, .int .i64 a, .int .i64 b] w fun e w' => e = .returned (.bool false) ∧ w' = w := by
  by_cases h1 : a ≤ n
  · have d1 : decide (a ≤ n) = true := decide_eq_true h1
    have h2 : ¬ n ≤ b := fun k => h ⟨h1, k⟩
    have d2 : decide (n ≤ b) = false := decide_eq_false h2
    clear h
    go_enter Tryd.func63, Tryd.ntmps63
    go_wp2_with fail
    go_ret
    exact ⟨rfl, rfl⟩
  · have d1 : decide (a ≤ n) = false := decide_eq_false h1
    clear h
    go_enter Tryd.func63, Tryd.ntmps63
    go_wp2_with fail
    go_ret
    exact ⟨rfl, rfl⟩
end Go.Proofs.YtmbifoockenniaaDoor
