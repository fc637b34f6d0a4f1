/-
  Days, months and years by mathematics.
  Contracts: leaps, monthDays, daysAhead, yearOf, within.
  Contracts: exists, Seconds, Of.
  Contracts: Seconds, Of.
  Contracts: Of.
-/
import Derived.Test.YtjnoapbddifcpaaGreatDoorPkAA
import Derived.Deep.QuietTactic
import Derived.BigQuiet
import Derived.Lib.SmallJoins
import Derived.Laws.ResultCell
import Derived.Laws.Rows

namespace Go.Proofs.YtjnoapbddifcpaaGreatDoor

def leapB (y : Nat) : Bool := y % 4 == 0 && y % 100 != 0 || y % 400 == 0
def lpN (y : Nat) : Nat := if leapB y = true then 1 else 0
/-- Days of a year. -/
def yl (y : Nat) : Nat := 365 + lpN y
/-- Days ahead of a year, from the first one on. -/
def dbf (y : Nat) : Nat := 365 * (y - 1) + (y - 1) / 4 - (y - 1) / 100 + (y - 1) / 400
theorem lpN_le (y : Nat) : lpN y ≤ 1 := by unfold lpN; split <;> omega
theorem leap_iff (y : Nat) : leapB y = true ↔ y % 4 = 0 ∧ ¬ y % 100 = 0 ∨ y % 400 = 0 := by
  unfold leapB
  simp
theorem lpN_eq (y : Nat) : lpN y = if y % 4 = 0 ∧ ¬ y % 100 = 0 ∨ y % 400 = 0 then 1 else 0 := by
  unfold lpN
  by_cases h : leapB y = true
  · rw [if_pos h, if_pos ((leap_iff y).1 h)]
  · rw [if_neg h, if_neg (fun k => h ((leap_iff y).2 k))]
theorem step_div (n k : Nat) (hk : 1 < k) : (n + 1) / k = n / k + (if (n + 1) % k = 0 then 1 else 0) := by
  have h1 := Nat.div_add_mod (n + 1) k
  have h2 := Nat.div_add_mod n k
  have h3 := Nat.mod_lt n (show 0 < k by omega)
  split
  · rename_i h
    rw [h] at h1
    refine Nat.div_eq_of_lt_le ?_ ?_
    · rw [Nat.add_mul, Nat.one_mul, Nat.mul_comm]
      have : n / k < (n + 1) / k := by
        apply Decidable.byContradiction
        intro hn
        have := Nat.mul_le_mul_left k (Nat.le_of_not_lt hn)
        omega
      have := Nat.mul_le_mul_left k this
      rw [Nat.mul_succ] at this
      omega
    · rw [Nat.add_mul, Nat.add_mul, Nat.one_mul, Nat.mul_comm]
      omega
  · rename_i h
    have hm : n % k + 1 < k := by
      apply Decidable.byContradiction
      intro hn
      apply h
      have e : n + 1 = k * (n / k + 1) := by rw [Nat.mul_succ]; omega
      rw [e, Nat.mul_mod_right]
    refine Nat.div_eq_of_lt_le ?_ ?_
    · rw [Nat.add_zero, Nat.mul_comm]; omega
    · rw [Nat.add_zero, Nat.succ_mul, Nat.mul_comm]; omega
theorem dbf_succ (y : Nat) (h : 1 ≤ y) : dbf (y + 1) = dbf y + yl y := by
  obtain ⟨n, rfl⟩ : ∃ n, y = n + 1 := ⟨y - 1, by omega⟩
  unfold yl
  rw [lpN_eq]
  unfold dbf
  rw [Nat.add_sub_cancel, Nat.add_sub_cancel, step_div n 4 (by omega), step_div n 100 (by omega), step_div n 400 (by omega)]
  have i1 : (n + 1) % 400 = 0 → (n + 1) % 100 = 0 := fun h => by omega
  have i2 : (n + 1) % 100 = 0 → (n + 1) % 4 = 0 := fun h => by omega
  have i3 : n / 100 ≤ n / 4 := by omega
  generalize n / 4 = a at *
  generalize n / 100 = b at *
  generalize n / 400 = c at *
  generalize (n + 1) % 4 = p at *
  generalize (n + 1) % 100 = q at *
  generalize (n + 1) % 400 = r at *
  by_cases h4 : p = 0 <;> by_cases h1 : q = 0 <;> by_cases h0 : r = 0 <;> simp [h4, h1, h0] at * <;> omega
theorem dbf_one : dbf 1 = 0 := rfl
theorem dbf_last : dbf 10000 = 3652059 := rfl
theorem dbf_mono (a b : Nat) (h1 : 1 ≤ a) (h : a ≤ b) : dbf a ≤ dbf b := by
  induction b with
  | zero => omega
  | succ b ih =>
    by_cases e : a = b + 1
    · rw [e]; exact Nat.le_refl _
    · have := ih (by omega)
      have := dbf_succ b (by omega)
      omega
theorem dbf_strict (a b : Nat) (h1 : 1 ≤ a) (h : a < b) : dbf a + yl a ≤ dbf b := by
  have := dbf_mono (a + 1) b (by omega) h
  have := dbf_succ a h1
  omega
theorem dbf_ge (y : Nat) (h : 1 ≤ y) : 365 * (y - 1) ≤ dbf y ∧ dbf y ≤ 366 * (y - 1) := by
  unfold dbf
  omega
/-- Days of a month. -/
def ml (y m : Nat) : Nat := if m = 2 then 28 + lpN y else if m = 4 ∨ m = 6 ∨ m = 9 ∨ m = 11 then 30 else 31
theorem ml_bd (y m : Nat) : 28 ≤ ml y m ∧ ml y m ≤ 31 := by
  have := lpN_le y
  unfold ml
  repeat' split
  all_goals omega
/-- Days of a year ahead of a month. -/
def mb (y : Nat) : Nat → Nat
  | 0 => 0
  | m + 1 => if m = 0 then 0 else mb y m + ml y m
theorem mb_one (y : Nat) : mb y 1 = 0 := rfl
theorem mb_succ (y m : Nat) (h : 1 ≤ m) : mb y (m + 1) = mb y m + ml y m := by
  rw [mb, if_neg (by omega)]
theorem mb_vals (y : Nat) : mb y 2 = 31 ∧ mb y 3 = 59 + lpN y ∧ mb y 4 = 90 + lpN y ∧ mb y 5 = 120 + lpN y ∧ mb y 6 = 151 + lpN y ∧ mb y 7 = 181 + lpN y ∧ mb y 8 = 212 + lpN y ∧ mb y 9 = 243 + lpN y ∧ mb y 10 = 273 + lpN y ∧ mb y 11 = 304 + lpN y ∧ mb y 12 = 334 + lpN y ∧ mb y 13 = 365 + lpN y := by
  simp [mb, ml]
  omega
theorem mb_end (y : Nat) : mb y 13 = yl y := (mb_vals y).2.2.2.2.2.2.2.2.2.2.2
theorem mb_mono (y a b : Nat) (h1 : 1 ≤ a) (h : a ≤ b) : mb y a ≤ mb y b := by
  induction b with
  | zero => omega
  | succ b ih =>
    by_cases e : a = b + 1
    · rw [e]; exact Nat.le_refl _
    · have := ih (by omega)
      have := mb_succ y b (by omega)
      omega
theorem mb_strict (y a b : Nat) (h1 : 1 ≤ a) (h : a < b) : mb y a + ml y a ≤ mb y b := by
  have := mb_mono y (a + 1) b (by omega) h
  have := mb_succ y a h1
  omega
theorem mb_le (y m : Nat) (h1 : 1 ≤ m) (h : m ≤ 12) : mb y m + ml y m ≤ 366 := by
  have := mb_strict y m 13 h1 (by omega)
  have := mb_end y
  have := lpN_le y
  unfold yl at *
  omega
/-- A date that there is: year, month, day, second of the day. -/
structure IsDate (y m d s : Nat) : Prop where
  y1 : 1 ≤ y
  y2 : y ≤ 9999
  m1 : 1 ≤ m
  m2 : m ≤ 12
  d1 : 1 ≤ d
  d2 : d ≤ ml y m
  s2 : s < 86400
/-- Its time, from the first second of the year 1 on. -/
def timeN (y m d s : Nat) : Nat := (dbf y + mb y m + (d - 1)) * 86400 + s
theorem IsDate.lt {y m d s : Nat} (h : IsDate y m d s) : dbf y + mb y m + (d - 1) < dbf y + yl y := by
  have := mb_strict y m 13 h.m1 (by have := h.m2; omega)
  have := mb_end y
  have := h.d1
  have := h.d2
  omega
theorem IsDate.days {y m d s : Nat} (h : IsDate y m d s) : dbf y + mb y m + (d - 1) < 3652059 := by
  have h1 := h.lt
  have h2 := dbf_strict y 10000 h.y1 (by have := h.y2; omega)
  rw [dbf_last] at h2
  omega
theorem IsDate.time {y m d s : Nat} (h : IsDate y m d s) : timeN y m d s < 315537897600 := by
  have := h.days
  have := h.s2
  unfold timeN
  omega
end Go.Proofs.YtjnoapbddifcpaaGreatDoor

namespace Go.Proofs.YtjnoapbddifcpaaGreatDoor
set_option maxRecDepth 100000
open Go.RowKit Go.Joins

theorem leaps_any (y : Nat) (hy : y ≤ 20000) (w : World) :
    Calls Tryz.prog 182 #[.int .i64 y] w fun e w' => e = .returned (.bool (leapB y)) ∧ w = w' := by
  have h4 : (((y : Nat) : Int) % 4 == 0) = decide (y % 4 = 0) := by rw [Bool.eq_iff_iff, beq_iff_eq, decide_eq_true_iff]; omega
  have h100 : (((y : Nat) : Int) % 100 != 0) = !decide (y % 100 = 0) := by rw [Bool.eq_iff_iff, bne_iff_ne, Bool.not_eq_true', decide_eq_false_iff_not]; omega
  have h400 : (((y : Nat) : Int) % 400 == 0) = decide (y % 400 = 0) := by rw [Bool.eq_iff_iff, beq_iff_eq, decide_eq_true_iff]; omega
  have HB : Hid (leapB y = (decide (y % 4 = 0) && !decide (y % 100 = 0) || decide (y % 400 = 0))) := by
    show _ = _
    rw [Bool.eq_iff_iff, leap_iff]
    simp
  generalize decide (y % 4 = 0) = b4 at *
  generalize decide (y % 100 = 0) = b100 at *
  generalize decide (y % 400 = 0) = b400 at *
  go_enter Tryz.func182, Tryz.ntmps182
  cases b4 <;> cases b100 <;> cases b400
  all_goals
    go_wp2_with fail
    go_ret
    exact ⟨by rw [HB.out]; rfl, rfl⟩

theorem leaps_y (y : Nat) (hy : y ≤ 20000) (h : leapB y = true) (w : World) :
    Calls Tryz.prog 182 #[.int .i64 y] w fun e w' => e = .returned (.bool true) ∧ w = w' := by
  have := leaps_any y hy w
  rw [h] at this
  exact this
theorem leaps_n (y : Nat) (hy : y ≤ 20000) (h : leapB y = false) (w : World) :
    Calls Tryz.prog 182 #[.int .i64 y] w fun e w' => e = .returned (.bool false) ∧ w = w' := by
  have := leaps_any y hy w
  rw [h] at this
  exact this
theorem ml_two (y : Nat) : ml y 2 = 28 + lpN y := rfl
theorem monthDays_any (y m : Nat) (hy : y ≤ 20000) (h1 : 1 ≤ m) (h2 : m ≤ 12) (w : World) :
    Calls Tryz.prog 157 #[.int .i64 y, .int .i64 m] w fun e w' => e = .returned (.int .i64 (ml y m : Nat)) ∧ w = w' := by
  by_cases e2 : m = 2
  · subst e2
    cases hl : leapB y with
    | true =>
      have HM : Hid (ml y 2 = 29) := by show ml y 2 = _; rw [ml_two]; unfold lpN; rw [if_pos hl]
      have HL := Lib.hid (fun w => leaps_y y hy hl w)
      clear hl
      go_enter Tryz.func157, Tryz.ntmps157
      go_wp2_with fail
      refine (HL.out _).mono ?_; rintro r w1 ⟨rfl, rfl⟩
      go_wp2_with fail
      go_ret
      exact ⟨by rw [HM.out]; rfl, rfl⟩
    | false =>
      have HM : Hid (ml y 2 = 28) := by show ml y 2 = _; rw [ml_two]; unfold lpN; rw [if_neg (by rw [hl]; decide)]
      have HL := Lib.hid (fun w => leaps_n y hy hl w)
      clear hl
      go_enter Tryz.func157, Tryz.ntmps157
      go_wp2_with fail
      refine (HL.out _).mono ?_; rintro r w1 ⟨rfl, rfl⟩
      go_wp2_with fail
      go_ret
      exact ⟨by rw [HM.out]; rfl, rfl⟩
  · have hm : ml y m = if m = 4 ∨ m = 6 ∨ m = 9 ∨ m = 11 then 30 else 31 := if_neg e2
    have : m = 1 ∨ m = 3 ∨ m = 4 ∨ m = 5 ∨ m = 6 ∨ m = 7 ∨ m = 8 ∨ m = 9 ∨ m = 10 ∨ m = 11 ∨ m = 12 := by omega
    have HM := Lib.hid hm
    clear hm h1 h2
    go_enter Tryz.func157, Tryz.ntmps157
    rcases this with rfl | rfl | rfl | rfl | rfl | rfl | rfl | rfl | rfl | rfl | rfl
    all_goals
      clear e2
      go_wp2_with fail
      go_ret
      exact ⟨by rw [HM.out]; rfl, rfl⟩

theorem dbf_int (y : Nat) (h1 : 1 ≤ y) : ((dbf y : Nat) : Int) = 365 * ((y : Int) - 1) + ((y : Int) - 1) / 4 - ((y : Int) - 1) / 100 + ((y : Int) - 1) / 400 := by
  obtain ⟨n, rfl⟩ : ∃ n, y = n + 1 := ⟨y - 1, by omega⟩
  unfold dbf
  rw [Nat.add_sub_cancel]
  have h1 : n / 100 ≤ 365 * n + n / 4 := by omega
  have e : ((n + 1 : Nat) : Int) - 1 = (n : Nat) := by omega
  have a4 : ((n : Nat) : Int) / 4 = ((n / 4 : Nat) : Int) := by omega
  have a100 : ((n : Nat) : Int) / 100 = ((n / 100 : Nat) : Int) := by omega
  have a400 : ((n : Nat) : Int) / 400 = ((n / 400 : Nat) : Int) := by omega
  rw [e, a4, a100, a400]
  generalize n / 4 = a at *
  generalize n / 100 = b at *
  generalize n / 400 = c at *
  clear e a4 a100 a400
  omega
theorem daysAhead_any (y : Nat) (h1 : 1 ≤ y) (h2 : y ≤ 20000) (w : World) :
    Calls Tryz.prog 158 #[.int .i64 y] w fun e w' => e = .returned (.int .i64 (dbf y : Nat)) ∧ w = w' := by
  have HD := Lib.hid (dbf_int y h1)
  go_enter Tryz.func158, Tryz.ntmps158
  go_wp2_with fail
  go_ret
  exact ⟨ret_eq (by rw [HD.out]), rfl⟩

theorem within_y (n a b : Int) (h : a ≤ n ∧ n ≤ b) (w : World) :
    Calls Tryz.prog 181 #[.int .i64 n, .int .i64 a, .int .i64 b] w fun e w' => e = .returned (.bool true) ∧ w' = w := by
  obtain ⟨h1, h2⟩ := h
  have d1 : decide (a ≤ n) = true := decide_eq_true h1
  have d2 : decide (n ≤ b) = true := decide_eq_true h2
  go_enter Tryz.func181, Tryz.ntmps181
  go_wp2_with fail
  go_ret
  exact ⟨rfl, rfl⟩
theorem within_n (n a b : Int) (h : ¬ (a ≤ n ∧ n ≤ b)) (w : World) :
    Calls Tryz.prog 181 #[.int .i64 n, .int .i64 a, .int .i64 b] w fun e w' => e = .returned (.bool false) ∧ w' = w := by
  by_cases h1 : a ≤ n
  · have d1 : decide (a ≤ n) = true := decide_eq_true h1
    have h2 : ¬ n ≤ b := fun k => h ⟨h1, k⟩
    have d2 : decide (n ≤ b) = false := decide_eq_false h2
    clear h
    go_enter Tryz.func181, Tryz.ntmps181
    go_wp2_with fail
    go_ret
    exact ⟨rfl, rfl⟩
  · have d1 : decide (a ≤ n) = false := decide_eq_false h1
    clear h
    go_enter Tryz.func181, Tryz.ntmps181
    go_wp2_with fail
    go_ret
    exact ⟨rfl, rfl⟩
end Go.Proofs.YtjnoapbddifcpaaGreatDoor

namespace Go.Proofs.YtjnoapbddifcpaaGreatDoor
set_option maxRecDepth 100000
open Go.RowKit Go.Joins

/-- Six numbers as a date. -/
def dateV (Y M D h mi s : Int) : Value := .agg #[.int .i64 Y, .int .i64 M, .int .i64 D, .int .i64 h, .int .i64 mi, .int .i64 s]
/-- Is there such a date? -/
def RightS (Y M D h mi s : Int) : Prop := (1 ≤ Y ∧ Y ≤ 9999) ∧ (1 ≤ M ∧ M ≤ 12) ∧ (1 ≤ D ∧ D ≤ (ml Y.toNat M.toNat : Nat)) ∧ (0 ≤ h ∧ h ≤ 23) ∧ (0 ≤ mi ∧ mi ≤ 59) ∧ (0 ≤ s ∧ s ≤ 59)

theorem md_int (Y M : Int) (hY : 1 ≤ Y ∧ Y ≤ 9999) (hM : 1 ≤ M ∧ M ≤ 12) (w : World) :
    Calls Tryz.prog 157 #[.int .i64 Y, .int .i64 M] w fun e w' => e = .returned (.int .i64 (ml Y.toNat M.toNat : Nat)) ∧ w' = w := by
  obtain ⟨y, rfl⟩ := Int.eq_ofNat_of_zero_le (show 0 ≤ Y by omega)
  obtain ⟨m, rfl⟩ := Int.eq_ofNat_of_zero_le (show 0 ≤ M by omega)
  exact (monthDays_any y m (by omega) (by omega) (by omega) w).mono fun _ _ h => ⟨h.1, h.2.symm⟩

theorem exists_y (Y M D h mi s : Int) (hr : RightS Y M D h mi s) (w : World) :
    Calls Tryz.prog 156 #[.agg #[.int .i64 Y, .int .i64 M, .int .i64 D, .int .i64 h, .int .i64 mi, .int .i64 s]] w fun e w' => e = .returned (.bool true) ∧ Below w.heap.size w w' := by
  obtain ⟨hY, hM, hD, hh, hmi, hs⟩ := hr
  have HB := Lib.hid ((Below.refl w.heap.size w).alloc (Nat.le_refl _) (.cells #[.int .i64 Y, .int .i64 M, .int .i64 D, .int .i64 h, .int .i64 mi, .int .i64 s] 213))
  go_enter Tryz.func156, Tryz.ntmps156
  go_wp2_with fail
  go_quiet ((first | (go_at_call 181; exact Calls.quiet_of_same (within_y _ _ _ (by assumption) _)) | (go_at_call 157; exact Calls.quiet_of_same (md_int _ _ (by assumption) (by assumption) _))))
  go_wp2_with fail
  go_ret
  exact ⟨rfl, below_drewN HB.out _⟩
theorem exists_n (Y M D h mi s : Int) (hr : ¬ RightS Y M D h mi s) (w : World) :
    Calls Tryz.prog 156 #[.agg #[.int .i64 Y, .int .i64 M, .int .i64 D, .int .i64 h, .int .i64 mi, .int .i64 s]] w fun e w' => e = .returned (.bool false) ∧ Below w.heap.size w w' := by
  have HB := Lib.hid ((Below.refl w.heap.size w).alloc (Nat.le_refl _) (.cells #[.int .i64 Y, .int .i64 M, .int .i64 D, .int .i64 h, .int .i64 mi, .int .i64 s] 213))
  by_cases hY : 1 ≤ Y ∧ Y ≤ 9999
  case neg =>
    clear hr
    go_enter Tryz.func156, Tryz.ntmps156
    go_wp2_with fail
    go_quiet ((first | (go_at_call 181; first | exact Calls.quiet_of_same (within_y _ _ _ (by assumption) _) | exact Calls.quiet_of_same (within_n _ _ _ (by assumption) _)) | (go_at_call 157; exact Calls.quiet_of_same (md_int _ _ (by assumption) (by assumption) _))))
    go_wp2_with fail
    go_ret
    exact ⟨rfl, below_drewN HB.out _⟩
  by_cases hM : 1 ≤ M ∧ M ≤ 12
  case neg =>
    clear hr
    go_enter Tryz.func156, Tryz.ntmps156
    go_wp2_with fail
    go_quiet ((first | (go_at_call 181; first | exact Calls.quiet_of_same (within_y _ _ _ (by assumption) _) | exact Calls.quiet_of_same (within_n _ _ _ (by assumption) _)) | (go_at_call 157; exact Calls.quiet_of_same (md_int _ _ (by assumption) (by assumption) _))))
    go_wp2_with fail
    go_ret
    exact ⟨rfl, below_drewN HB.out _⟩
  by_cases hD : 1 ≤ D ∧ D ≤ (ml Y.toNat M.toNat : Nat)
  case neg =>
    clear hr
    go_enter Tryz.func156, Tryz.ntmps156
    go_wp2_with fail
    go_quiet ((first | (go_at_call 181; first | exact Calls.quiet_of_same (within_y _ _ _ (by assumption) _) | exact Calls.quiet_of_same (within_n _ _ _ (by assumption) _)) | (go_at_call 157; exact Calls.quiet_of_same (md_int _ _ (by assumption) (by assumption) _))))
    go_wp2_with fail
    go_ret
    exact ⟨rfl, below_drewN HB.out _⟩
  by_cases hh : 0 ≤ h ∧ h ≤ 23
  case neg =>
    clear hr
    go_enter Tryz.func156, Tryz.ntmps156
    go_wp2_with fail
    go_quiet ((first | (go_at_call 181; first | exact Calls.quiet_of_same (within_y _ _ _ (by assumption) _) | exact Calls.quiet_of_same (within_n _ _ _ (by assumption) _)) | (go_at_call 157; exact Calls.quiet_of_same (md_int _ _ (by assumption) (by assumption) _))))
    go_wp2_with fail
    go_ret
    exact ⟨rfl, below_drewN HB.out _⟩
  by_cases hmi : 0 ≤ mi ∧ mi ≤ 59
  case neg =>
    clear hr
    go_enter Tryz.func156, Tryz.ntmps156
    go_wp2_with fail
    go_quiet ((first | (go_at_call 181; first | exact Calls.quiet_of_same (within_y _ _ _ (by assumption) _) | exact Calls.quiet_of_same (within_n _ _ _ (by assumption) _)) | (go_at_call 157; exact Calls.quiet_of_same (md_int _ _ (by assumption) (by assumption) _))))
    go_wp2_with fail
    go_ret
    exact ⟨rfl, below_drewN HB.out _⟩
  by_cases hs : 0 ≤ s ∧ s ≤ 59
  · exact (hr ⟨hY, hM, hD, hh, hmi, hs⟩).elim
  · clear hr
    go_enter Tryz.func156, Tryz.ntmps156
    go_wp2_with fail
    go_quiet ((first | (go_at_call 181; first | exact Calls.quiet_of_same (within_y _ _ _ (by assumption) _) | exact Calls.quiet_of_same (within_n _ _ _ (by assumption) _)) | (go_at_call 157; exact Calls.quiet_of_same (md_int _ _ (by assumption) (by assumption) _))))
    go_wp2_with fail
    go_ret
    exact ⟨rfl, below_drewN HB.out _⟩

theorem right_nat {Y M D h mi s : Int} (hr : RightS Y M D h mi s) : ∃ y m d t : Nat, IsDate y m d t ∧ Y = (y : Nat) ∧ M = (m : Nat) ∧ D = (d : Nat) ∧ h = (t / 3600 : Nat) ∧ mi = (t / 60 % 60 : Nat) ∧ s = (t % 60 : Nat) := by
  obtain ⟨hY, hM, hD, hh, hmi, hs⟩ := hr
  obtain ⟨y, rfl⟩ := Int.eq_ofNat_of_zero_le (show 0 ≤ Y by omega)
  obtain ⟨m, rfl⟩ := Int.eq_ofNat_of_zero_le (show 0 ≤ M by omega)
  obtain ⟨d, rfl⟩ := Int.eq_ofNat_of_zero_le (show 0 ≤ D by omega)
  obtain ⟨a, rfl⟩ := Int.eq_ofNat_of_zero_le hh.1
  obtain ⟨b, rfl⟩ := Int.eq_ofNat_of_zero_le hmi.1
  obtain ⟨c, rfl⟩ := Int.eq_ofNat_of_zero_le hs.1
  rw [Int.toNat_natCast, Int.toNat_natCast] at hD
  exact ⟨y, m, d, a * 3600 + b * 60 + c, ⟨by omega, by omega, by omega, by omega, by omega, by omega, by omega⟩, rfl, rfl, rfl, by omega, by omega, by omega⟩
theorem right_of {y m d t : Nat} (h : IsDate y m d t) : RightS (y : Nat) (m : Nat) (d : Nat) (t / 3600 : Nat) (t / 60 % 60 : Nat) (t % 60 : Nat) := by
  have h1 := h.y1; have h2 := h.y2; have h3 := h.m1; have h4 := h.m2; have h5 := h.d1; have h6 := h.d2; have h7 := h.s2
  refine ⟨by omega, by omega, ⟨by omega, ?_⟩, by omega, by omega, by omega⟩
  rw [Int.toNat_natCast, Int.toNat_natCast]
  omega
end Go.Proofs.YtjnoapbddifcpaaGreatDoor

namespace Go.Proofs.YtjnoapbddifcpaaGreatDoor
set_option maxRecDepth 100000
open Go.RowKit Go.Joins

/-- A date's time. -/
def tI (y m d t : Nat) : Int := (timeN y m d t : Nat) - 62135596800
theorem tI_eq {y m d t : Nat} (h : IsDate y m d t) : (((dbf y : Nat) : Int) + (((d : Nat) : Int) - 1 + (mb y m : Nat)) - 719162) * 86400 + ((t / 3600 : Nat) * 3600 + (t / 60 % 60 : Nat) * 60 + (t % 60 : Nat)) = tI y m d t := by
  have h1 := h.d1
  unfold tI timeN
  generalize dbf y = a
  generalize mb y m = b
  omega
theorem tI_bd {y m d t : Nat} (h : IsDate y m d t) : -62135596800 ≤ tI y m d t ∧ tI y m d t ≤ 253402300799 := by
  have := h.time
  unfold tI
  omega
theorem lt_of_heapS {w : World} {g : Nat} {o : Obj} (h : w.heap[g]? = some o) : g < w.heap.size := by
  rcases Nat.lt_or_ge g w.heap.size with hlt | hge
  · exact hlt
  · rw [Array.getElem?_eq_none hge] at h; cases h

theorem seconds_n (Y M D h mi s : Int) (hr : ¬ RightS Y M D h mi s) (w : World) :
    Calls Tryz.prog 113 #[.agg #[.int .i64 Y, .int .i64 M, .int .i64 D, .int .i64 h, .int .i64 mi, .int .i64 s]] w fun e w' => e = .returned (.tuple #[.int .i64 0, .int .i64 23]) ∧ Below w.heap.size w w' := by
  have HE := Lib.hid (fun w => exists_n Y M D h mi s hr w)
  have HB := Lib.hid ((Below.refl w.heap.size w).alloc (Nat.le_refl _) (.cells #[.int .i64 Y, .int .i64 M, .int .i64 D, .int .i64 h, .int .i64 mi, .int .i64 s] 213))
  clear hr
  go_enter Tryz.func113, Tryz.ntmps113
  go_wp2_with fail
  refine (HE.out _).mono ?_; rintro r w1 ⟨rfl, h1⟩
  have HC := Lib.hid (below_then HB.out h1)
  clear h1
  go_wp2_with fail
  go_ret2
  exact ⟨rfl, HC.out⟩

set_option maxHeartbeats 1000000 in
theorem seconds_y (y m d t : Nat) (hd : IsDate y m d t) (w : World) :
    Calls Tryz.prog 113 #[.agg #[.int .i64 (y : Nat), .int .i64 (m : Nat), .int .i64 (d : Nat), .int .i64 (t / 3600 : Nat), .int .i64 (t / 60 % 60 : Nat), .int .i64 (t % 60 : Nat)]] w fun e w' => e = .returned (.tuple #[.int .i64 (tI y m d t), .int .i64 0]) ∧ Below w.heap.size w w' := by
  have HE := Lib.hid (fun w => exists_y _ _ _ _ _ _ (right_of hd) w)
  have HT := Lib.hid (tI_eq hd)
  have HTB := tI_bd hd
  have y1 := hd.y1; have y2 := hd.y2; have m1 := hd.m1; have m2 := hd.m2; have d1 := hd.d1; have d2 := hd.d2; have s2 := hd.s2
  have hml := ml_bd y m
  have hmle := mb_le y m m1 m2
  have hdb := (dbf_ge y y1).2
  have hdb2 : dbf y ≤ 3700000 := by omega
  have hA : t / 3600 ≤ 23 := by omega
  have hBb : t / 60 % 60 ≤ 59 := by omega
  have hCc : t % 60 ≤ 59 := by omega
  have HMB : Hid (∀ k, 1 ≤ k → k < m → mb y (k + 1) = mb y k + ml y k) := fun k a _ => mb_succ y k a
  have HML : Hid (∀ k, 1 ≤ k → k ≤ m → mb y k ≤ 366 ∧ ml y k ≤ 31) := fun k a b => ⟨by have := mb_le y k a (by omega); omega, (ml_bd y k).2⟩
  have HMD : Hid (∀ (k : Nat) (w : World), 1 ≤ k → k ≤ 12 → Calls Tryz.prog 157 #[.int .i64 (y : Nat), .int .i64 (k : Nat)] w fun e w' => e = .returned (.int .i64 (ml y k : Nat)) ∧ w = w') := fun k w a b => monthDays_any y k (by omega) a b w
  have HDA := Lib.hid (fun w => daysAhead_any y y1 (by omega) w)
  have HM1 : Hid (mb y 1 = 0) := mb_one y
  have HB := Lib.hid ((Below.refl w.heap.size w).alloc (Nat.le_refl _) (.cells #[.int .i64 (y : Nat), .int .i64 (m : Nat), .int .i64 (d : Nat), .int .i64 (t / 3600 : Nat), .int .i64 (t / 60 % 60 : Nat), .int .i64 (t % 60 : Nat)] 213))
  have HR := Lib.hid (heap_alloc_new w (.cells #[.int .i64 (y : Nat), .int .i64 (m : Nat), .int .i64 (d : Nat), .int .i64 (t / 3600 : Nat), .int .i64 (t / 60 % 60 : Nat), .int .i64 (t % 60 : Nat)] 213))
  generalize tI y m d t = TT at *
  clear hd s2
  generalize t / 3600 = a at *
  generalize t / 60 % 60 = b at *
  generalize t % 60 = c at *
  go_enter Tryz.func113, Tryz.ntmps113
  go_wp2_with fail
  refine (HE.out _).mono ?_; rintro r w1 ⟨rfl, h1⟩
  have hb1 := below_then HB.out h1
  have hr1 := (h1.block _ (lt_of_heapS HR.out)).trans HR.out
  clear h1 HB HR HE
  have c0 : w1.cell? ⟨w.heap.size, 0, none⟩ = some (.int .i64 (y : Nat)) := by rw [cell_of_row _ _ 0 _ _ _ hr1]; rfl
  have c1 : w1.cell? ⟨w.heap.size, 1, none⟩ = some (.int .i64 (m : Nat)) := by rw [cell_of_row _ _ 1 _ _ _ hr1]; rfl
  have c2 : w1.cell? ⟨w.heap.size, 2, none⟩ = some (.int .i64 (d : Nat)) := by rw [cell_of_row _ _ 2 _ _ _ hr1]; rfl
  have c3 : w1.cell? ⟨w.heap.size, 3, none⟩ = some (.int .i64 (a : Nat)) := by rw [cell_of_row _ _ 3 _ _ _ hr1]; rfl
  have c4 : w1.cell? ⟨w.heap.size, 4, none⟩ = some (.int .i64 (b : Nat)) := by rw [cell_of_row _ _ 4 _ _ _ hr1]; rfl
  have c5 : w1.cell? ⟨w.heap.size, 5, none⟩ = some (.int .i64 (c : Nat)) := by rw [cell_of_row _ _ 5 _ _ _ hr1]; rfl
  have HB1 := Lib.hid hb1
  clear hb1 hr1
  go_wp2_with fail
  go_loop [4, 5] (fun v i => ∃ k : Nat, 1 ≤ k ∧ k ≤ m ∧ i = .int .i64 (k : Nat) ∧ v = .int .i64 (((d : Nat) : Int) - 1 + (mb y k : Nat))) (fun _ i => m - (intOf i).toNat)
  case atStart => exact ⟨1, by omega, m1, rfl, by rw [HM1.out]; go_num⟩
  case round =>
    obtain ⟨k, k1, k2, rfl, rfl⟩ := hrel
    obtain ⟨b1, b2⟩ := HML.out k k1 k2
    by_cases hk : k < m
    · have HMS := Lib.hid (HMB.out k k1 hk)
      generalize mb y k = B at *
      go_wp2_with fail
      refine (HMD.out k _ k1 (by omega)).mono ?_; rintro e w2 ⟨rfl, rfl⟩
      generalize ml y k = L at *
      go_wp2_with fail
      go_round
      case rel => exact ⟨k + 1, by omega, by omega, by go_num, by rw [HMS.out]; go_num⟩
      case measure => simp [intOf]; omega
    · obtain rfl : k = m := by omega
      generalize mb y k = B at *
      generalize dbf y = F at *
      clear HMB HML HMD
      go_wp2_with fail
      refine (HDA.out _).mono ?_; rintro e w2 ⟨rfl, rfl⟩
      go_wp2_with fail
      go_ret2
      exact ⟨by rw [← HT.out]; rfl, HB1.out⟩
end Go.Proofs.YtjnoapbddifcpaaGreatDoor

namespace Go.Proofs.YtjnoapbddifcpaaGreatDoor
set_option maxRecDepth 100000
open Go.RowKit Go.Joins

end Go.Proofs.YtjnoapbddifcpaaGreatDoor
