/-
  Contracts: the document's leap, year, First, Long.
-/
import Derived.Test.YtmbifoockenniaaDoorStD
namespace Go.Proofs.YtmbifoockenniaaDoor
set_option maxRecDepth 100000
open Go.RowKit Go.Joins

theorem rleap_any (y : Nat) (hy : y ≤ 20000) (w : World) :
    Calls Tryd.prog 62 #[.int .i64 (y : Nat)] w fun e w' => e = .returned (.bool (leapB y)) ∧ w = w' := by
  have h4 : (((y : Nat) : Int) % 4 == 0) = decide (y % 4 = 0) := by rw [Bool.eq_iff_iff, beq_iff_eq, decide_eq_true_iff]; omega
  have h100 : (((y : Nat) : Int) % 100 != 0) = !decide (y % 100 = 0) := by rw [Bool.eq_iff_iff, bne_iff_ne, Bool.not_eq_true', decide_eq_false_iff_not]; omega
  have h400 : (((y : Nat) : Int) % 400 == 0) = decide (y % 400 = 0) := by rw [Bool.eq_iff_iff, beq_iff_eq, decide_eq_true_iff]; omega
  have HB : Hid (leapB y = (decide (y % 4 = 0) && (!decide (y % 100 = 0) || decide (y % 400 = 0)))) := by
    show _ = _
    rw [Bool.eq_iff_iff, leap_iff]
    simp
    omega
  generalize decide (y % 4 = 0) = b4 at *
  generalize decide (y % 100 = 0) = b100 at *
  generalize decide (y % 400 = 0) = b400 at *
  go_enter Tryd.func62, Tryd.ntmps62
  cases b4 <;> cases b100 <;> cases b400
  all_goals
    go_wp2_with fail
    go_ret
    exact ⟨by rw [HB.out]; rfl, rfl⟩
theorem rleap_y (y : Nat) (hy : y ≤ 20000) (h : leapB y = true) (w : World) :
    Calls Tryd.prog 62 #[.int .i64 (y : Nat)] w fun e w' => e = .returned (.bool true) ∧ w = w' := by
  have := rleap_any y hy w
  rw [h] at this
  exact this
theorem rleap_n (y : Nat) (hy : y ≤ 20000) (h : leapB y = false) (w : World) :
    Calls Tryd.prog 62 #[.int .i64 (y : Nat)] w fun e w' => e = .returned (.bool false) ∧ w = w' := by
  have := rleap_any y hy w
  rw [h] at this
  exact this
theorem ryear_any (y : Nat) (hy : y ≤ 20000) (w : World) :
    Calls Tryd.prog 36 #[.int .i64 (y : Nat)] w fun e w' => e = .returned (.int .i64 (yl y : Nat)) ∧ w = w' := by
  cases hl : leapB y with
  | true =>
    have HM : Hid (yl y = 366) := by show yl y = _; unfold yl lpN; rw [if_pos hl]
    have HL := Lib.hid (fun w => rleap_y y hy hl w)
    clear hl
    go_enter Tryd.func36, Tryd.ntmps36
    go_wp2_with fail
    refine (HL.out _).mono ?_; rintro r w1 ⟨rfl, rfl⟩
    go_wp2_with fail
    go_ret
    exact ⟨by rw [HM.out]; rfl, rfl⟩
  | false =>
    have HM : Hid (yl y = 365) := by show yl y = _; unfold yl lpN; rw [if_neg (by rw [hl]; decide)]
    have HL := Lib.hid (fun w => rleap_n y hy hl w)
    clear hl
    go_enter Tryd.func36, Tryd.ntmps36
    go_wp2_with fail
    refine (HL.out _).mono ?_; rintro r w1 ⟨rfl, rfl⟩
    go_wp2_with fail
    go_ret
    exact ⟨by rw [HM.out]; rfl, rfl⟩
theorem dbf_small (y : Nat) (h : y ≤ 10001) : dbf y ≤ 3700000 := by
  by_cases h1 : 1 ≤ y
  · have := (dbf_ge y h1).2
    omega
  · obtain rfl : y = 0 := by omega
    decide
theorem rfirst_any (y : Nat) (h1 : 1 ≤ y) (h2 : y ≤ 9999) (w : World) :
    Calls Tryd.prog 40 #[.int .i64 (y : Nat)] w fun e w' => e = .returned (.int .i64 (dbf y : Nat)) ∧ w = w' := by
  go_enter Tryd.func40, Tryd.ntmps40
  go_wp2_with fail
  go_loop [3, 4] (fun v i => ∃ k : Nat, 1 ≤ k ∧ k ≤ y ∧ i = .int .i64 (k : Nat) ∧ v = .int .i64 (dbf k : Nat)) (fun _ i => y - (intOf i).toNat)
  case atStart => exact ⟨1, by omega, h1, rfl, by rw [dbf_one]; rfl⟩
  case round =>
    obtain ⟨k, k1, k2, rfl, rfl⟩ := hrel
    have hb := dbf_small k (by omega)
    by_cases hk : k < y
    · have HS := Lib.hid (dbf_succ k k1)
      have hyl : yl k ≤ 366 := by have := lpN_le k; unfold yl; omega
      generalize dbf k = D at *
      go_wp2_with fail
      refine (ryear_any k (by omega) _).mono ?_; rintro e w1 ⟨rfl, rfl⟩
      generalize yl k = L at *
      go_wp2_with fail
      go_round
      case rel => exact ⟨k + 1, by omega, by omega, by go_num, by rw [HS.out]; go_num⟩
      case measure => simp [intOf]; omega
    · obtain rfl : k = y := by omega
      go_wp2_with fail
      go_ret
      exact ⟨rfl, rfl⟩

set_option maxHeartbeats 4000000 in
theorem rlong_any (y m : Nat) (hy : y ≤ 20000) (h1 : 1 ≤ m) (h2 : m ≤ 12) (w : World) :
    Calls Tryd.prog 37 #[.int .i64 (y : Nat), .int .i64 (m : Nat)] w fun e w' => e = .returned (.int .i64 (ml y m : Nat)) ∧ Below w.heap.size w w' := by
  have HB : Hid (∀ o, Below w.heap.size w (w.alloc o)) := fun o => (Below.refl w.heap.size w).alloc (Nat.le_refl _) o
  by_cases e2 : m = 2
  · subst e2
    cases hl : leapB y with
    | true =>
      have HM : Hid (ml y 2 = 29) := by show ml y 2 = _; rw [ml_two]; unfold lpN; rw [if_pos hl]
      have HL := Lib.hid (fun w => rleap_y y hy hl w)
      clear hl
      go_enter Tryd.func37, Tryd.ntmps37
      go_wp2_with fail
      refine (HL.out _).mono ?_; rintro r w1 ⟨rfl, rfl⟩
      go_wp2_with fail
      go_ret
      exact ⟨by rw [HM.out]; rfl, HB.out _⟩
    | false =>
      have HM : Hid (ml y 2 = 28) := by show ml y 2 = _; rw [ml_two]; unfold lpN; rw [if_neg (by rw [hl]; decide)]
      have HL := Lib.hid (fun w => rleap_n y hy hl w)
      clear hl
      go_enter Tryd.func37, Tryd.ntmps37
      go_wp2_with fail
      refine (HL.out _).mono ?_; rintro r w1 ⟨rfl, rfl⟩
      go_wp2_with fail
      go_ret
      exact ⟨by rw [HM.out]; rfl, HB.out _⟩
  · have hm : ml y m = if m = 4 ∨ m = 6 ∨ m = 9 ∨ m = 11 then 30 else 31 := if_neg e2
    have : m = 1 ∨ m = 3 ∨ m = 4 ∨ m = 5 ∨ m = 6 ∨ m = 7 ∨ m = 8 ∨ m = 9 ∨ m = 10 ∨ m = 11 ∨ m = 12 := by omega
    have HM := Lib.hid hm
    clear hm h1 h2
    go_enter Tryd.func37, Tryd.ntmps37
    rcases this with rfl | rfl | rfl | rfl | rfl | rfl | rfl | rfl | rfl | rfl | rfl
    all_goals
      clear e2
      go_wp2_with fail
      go_ret
      exact ⟨by rw [HM.out]; rfl, HB.out _⟩
end Go.Proofs.YtmbifoockenniaaDoor
