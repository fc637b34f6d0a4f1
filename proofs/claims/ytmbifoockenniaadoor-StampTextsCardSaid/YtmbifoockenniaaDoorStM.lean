/-
  Days, months and years by mathematics.
-/
import Derived.Test.YtmbifoockenniaaDoorKit
namespace Go.Proofs.YtmbifoockenniaaDoor

def leapB (y : Nat) : Bool := y % 4 == 0 && y % 100 != 0 || y % 400 == 0
def lpN (y : Nat) : Nat := if leapB y = true then 1 else 0
/-- Days of a year. -/
def yl (y : Nat) : Nat := 365 + lpN y
/-- Days ahead of a year, from the first one on. -/
def dbf (y : Nat) : Nat := 365 * (y - 1) + (y - 1) / 4 - (y - 1) / 100 + (y - 1) / 400
theorem lpN_le (y : Nat) : lpN y ≤ 1 := by unfold lpN; split <;> omega
theorem leap_iff (y : Nat) : leapB y = true ↔ y % 4 = 0 ∧ ¬ y % 100 = 0 ∨ y % 400 = 0 := by
  unfold leapB
  simp
theorem lpN_eq (y : Nat) : lpN y = if y % 4 = 0 ∧ ¬ y % 100 = 0 ∨ y % 400 = 0 then 1 else 0 := by
  unfold lpN
  by_cases h : leapB y = true
  · rw [if_pos h, if_pos ((leap_iff y).1 h)]
  · rw [if_neg h, if_neg (fun k => h ((leap_iff y).2 k))]
theorem step_div (n k : Nat) (hk : 1 < k) : (n + 1) / k = n / k + (if (n + 1) % k = 0 then 1 else 0) := by
  have h1 := Nat.div_add_mod (n + 1) k
  have h2 := Nat.div_add_mod n k
  have h3 := Nat.mod_lt n (show 0 < k by omega)
  split
  · rename_i h
    rw [h] at h1
    refine Nat.div_eq_of_lt_le ?_ ?_
    · rw [Nat.add_mul, Nat.one_mul, Nat.mul_comm]
      have : n / k < (n + 1) / k := by
        apply Decidable.byContradiction
        intro hn
        have := Nat.mul_le_mul_left k (Nat.le_of_not_lt hn)
        omega
      have := Nat.mul_le_mul_left k this
      rw [Nat.mul_succ] at this
      omega
    · rw [Nat.add_mul, Nat.add_mul, Nat.one_mul, Nat.mul_comm]
      omega
  · rename_i h
    have hm : n % k + 1 < k := by
      apply Decidable.byContradiction
      intro hn
      apply h
      have e : n + 1 = k * (n / k + 1) := by rw [Nat.mul_succ]; omega
      rw [e, Nat.mul_mod_right]
    refine Nat.div_eq_of_lt_le ?_ ?_
    · rw [Nat.add_zero, Nat.mul_comm]; omega
    · rw [Nat.add_zero, Nat.succ_mul, Nat.mul_comm]; omega
theorem dbf_succ (y : Nat) (h : 1 ≤ y) : dbf (y + 1) = dbf y + yl y := by
  obtain ⟨n, rfl⟩ : ∃ n, y = n + 1 := ⟨y - 1, by omega⟩
  unfold yl
  rw [lpN_eq]
  unfold dbf
  rw [Nat.add_sub_cancel, Nat.add_sub_cancel, step_div n 4 (by omega), step_div n 100 (by omega), step_div n 400 (by omega)]
  have i1 : (n + 1) % 400 = 0 → (n + 1) % 100 = 0 := fun h => by omega
  have i2 : (n + 1) % 100 = 0 → (n + 1) % 4 = 0 := fun h => by omega
  have i3 : n / 100 ≤ n / 4 := by omega
  generalize n / 4 = a at *
  generalize n / 100 = b at *
  generalize n / 400 = c at *
  generalize (n + 1) % 4 = p at *
  generalize (n + 1) % 100 = q at *
  generalize (n + 1) % 400 = r at *
  by_cases h4 : p = 0 <;> by_cases h1 : q = 0 <;> by_cases h0 : r = 0 <;> simp [h4, h1, h0] at * <;> omega
theorem dbf_one : dbf 1 = 0 := rfl
theorem dbf_last : dbf 10000 = 3652059 := rfl
theorem dbf_mono (a b : Nat) (h1 : 1 ≤ a) (h : a ≤ b) : dbf a ≤ dbf b := by
  induction b with
  | zero => omega
  | succ b ih =>
    by_cases e : a = b + 1
    · rw [e]; exact Nat.le_refl _
    · have := ih (by omega)
      have := dbf_succ b (by omega)
      omega
theorem dbf_strict (a b : Nat) (h1 : 1 ≤ a) (h : a < b) : dbf a + yl a ≤ dbf b := by
  have := dbf_mono (a + 1) b (by omega) h
  have := dbf_succ a h1
  omega
theorem dbf_ge (y : Nat) (h : 1 ≤ y) : 365 * (y - 1) ≤ dbf y ∧ dbf y ≤ 366 * (y - 1) := by
  unfold dbf
  omega
theorem year_ex (D : Nat) : ∃ y, 1 ≤ y ∧ dbf y ≤ D ∧ D < dbf y + yl y := by
  induction D with
  | zero => exact ⟨1, by omega, by decide, by decide⟩
  | succ D ih =>
    obtain ⟨y, h1, h2, h3⟩ := ih
    have hs := dbf_succ y h1
    by_cases h : D + 1 < dbf y + yl y
    · exact ⟨y, h1, by omega, h⟩
    · have : 1 ≤ yl (y + 1) := by unfold yl; omega
      exact ⟨y + 1, by omega, by omega, by omega⟩

/-- Days of a month. -/
def ml (y m : Nat) : Nat := if m = 2 then 28 + lpN y else if m = 4 ∨ m = 6 ∨ m = 9 ∨ m = 11 then 30 else 31
theorem ml_bd (y m : Nat) : 28 ≤ ml y m ∧ ml y m ≤ 31 := by
  have := lpN_le y
  unfold ml
  repeat' split
  all_goals omega
/-- Days of a year ahead of a month. -/
def mb (y : Nat) : Nat → Nat
  | 0 => 0
  | m + 1 => if m = 0 then 0 else mb y m + ml y m
theorem mb_one (y : Nat) : mb y 1 = 0 := rfl
theorem mb_succ (y m : Nat) (h : 1 ≤ m) : mb y (m + 1) = mb y m + ml y m := by
  rw [mb, if_neg (by omega)]
theorem mb_vals (y : Nat) : mb y 2 = 31 ∧ mb y 3 = 59 + lpN y ∧ mb y 4 = 90 + lpN y ∧ mb y 5 = 120 + lpN y ∧ mb y 6 = 151 + lpN y ∧ mb y 7 = 181 + lpN y ∧ mb y 8 = 212 + lpN y ∧ mb y 9 = 243 + lpN y ∧ mb y 10 = 273 + lpN y ∧ mb y 11 = 304 + lpN y ∧ mb y 12 = 334 + lpN y ∧ mb y 13 = 365 + lpN y := by
  simp [mb, ml]
  omega
theorem mb_end (y : Nat) : mb y 13 = yl y := (mb_vals y).2.2.2.2.2.2.2.2.2.2.2
theorem mb_mono (y a b : Nat) (h1 : 1 ≤ a) (h : a ≤ b) : mb y a ≤ mb y b := by
  induction b with
  | zero => omega
  | succ b ih =>
    by_cases e : a = b + 1
    · rw [e]; exact Nat.le_refl _
    · have := ih (by omega)
      have := mb_succ y b (by omega)
      omega
theorem mb_strict (y a b : Nat) (h1 : 1 ≤ a) (h : a < b) : mb y a + ml y a ≤ mb y b := by
  have := mb_mono y (a + 1) b (by omega) h
  have := mb_succ y a h1
  omega
theorem mb_le (y m : Nat) (h1 : 1 ≤ m) (h : m ≤ 12) : mb y m + ml y m ≤ 366 := by
  have := mb_strict y m 13 h1 (by omega)
  have := mb_end y
  have := lpN_le y
  unfold yl at *
  omega
theorem month_ex (y r : Nat) (h : r < yl y) : ∃ m, 1 ≤ m ∧ m ≤ 12 ∧ mb y m ≤ r ∧ r < mb y m + ml y m := by
  have key : ∀ k, k ≤ 12 → r < mb y (k + 1) → ∃ m, 1 ≤ m ∧ m ≤ k ∧ mb y m ≤ r ∧ r < mb y m + ml y m := by
    intro k
    induction k with
    | zero => intro _ h; rw [mb_one] at h; omega
    | succ k ih =>
      intro hk h
      by_cases e : r < mb y (k + 1)
      · obtain ⟨m, a, b, c, d⟩ := ih (by omega) e
        exact ⟨m, a, by omega, c, d⟩
      · rw [mb_succ y (k + 1) (by omega)] at h
        exact ⟨k + 1, by omega, by omega, by omega, h⟩
  exact key 12 (by omega) (by rw [mb_end]; exact h)

/-- A date that there is: year, month, day, second of the day. -/
structure IsDate (y m d s : Nat) : Prop where
  y1 : 1 ≤ y
  y2 : y ≤ 9999
  m1 : 1 ≤ m
  m2 : m ≤ 12
  d1 : 1 ≤ d
  d2 : d ≤ ml y m
  s2 : s < 86400
/-- Its time, from the first second of the year 1 on. -/
def timeN (y m d s : Nat) : Nat := (dbf y + mb y m + (d - 1)) * 86400 + s
theorem IsDate.lt {y m d s : Nat} (h : IsDate y m d s) : dbf y + mb y m + (d - 1) < dbf y + yl y := by
  have := mb_strict y m 13 h.m1 (by have := h.m2; omega)
  have := mb_end y
  have := h.d1
  have := h.d2
  omega
theorem IsDate.days {y m d s : Nat} (h : IsDate y m d s) : dbf y + mb y m + (d - 1) < 3652059 := by
  have h1 := h.lt
  have h2 := dbf_strict y 10000 h.y1 (by have := h.y2; omega)
  rw [dbf_last] at h2
  omega
theorem IsDate.time {y m d s : Nat} (h : IsDate y m d s) : timeN y m d s < 315537897600 := by
  have := h.days
  have := h.s2
  unfold timeN
  omega
theorem date_ex (T : Nat) (h : T < 315537897600) : ∃ y m d s, IsDate y m d s ∧ timeN y m d s = T := by
  obtain ⟨y, hy1, hy2, hy3⟩ := year_ex (T / 86400)
  obtain ⟨m, hm1, hm2, hm3, hm4⟩ := month_ex y (T / 86400 - dbf y) (by omega)
  refine ⟨y, m, T / 86400 - dbf y - mb y m + 1, T % 86400, ⟨hy1, ?_, hm1, hm2, by omega, by omega, by omega⟩, ?_⟩
  · apply Decidable.byContradiction
    intro hn
    have := dbf_mono 10000 y (by omega) (by omega)
    rw [dbf_last] at this
    omega
  · unfold timeN
    omega
/-- Later dates have later times. -/
theorem time_lt_day {y m d s y' m' d' s' : Nat} (h : IsDate y m d s) (h' : IsDate y' m' d' s') (k : y < y' ∨ y = y' ∧ (m < m' ∨ m = m' ∧ d < d')) : timeN y m d s + (86400 - s) ≤ timeN y' m' d' s' := by
  have hs := h.s2
  have hl := h.lt
  have hd := h.d1
  have hd2 := h.d2
  have hd' := h'.d1
  have : dbf y + mb y m + (d - 1) + 1 ≤ dbf y' + mb y' m' + (d' - 1) := by
    rcases k with k | ⟨rfl, k | ⟨rfl, k⟩⟩
    · have := dbf_strict y y' h.y1 k
      omega
    · have := mb_strict y m m' h.m1 k
      omega
    · omega
  unfold timeN
  omega
theorem date_le {y m d s y' m' d' s' : Nat} (h : IsDate y m d s) (h' : IsDate y' m' d' s') (k : timeN y m d s ≤ timeN y' m' d' s') : y < y' ∨ y = y' ∧ (m < m' ∨ m = m' ∧ (d < d' ∨ d = d' ∧ s ≤ s')) := by
  have hs := h.s2
  have hs' := h'.s2
  by_cases h1 : y < y' ∨ y = y' ∧ (m < m' ∨ m = m' ∧ d < d')
  · rcases h1 with h1 | ⟨h1, h2 | ⟨h2, h3⟩⟩
    · exact .inl h1
    · exact .inr ⟨h1, .inl h2⟩
    · exact .inr ⟨h1, .inr ⟨h2, .inl h3⟩⟩
  · by_cases h2 : y' < y ∨ y' = y ∧ (m' < m ∨ m' = m ∧ d' < d)
    · have := time_lt_day h' h h2
      omega
    · obtain rfl : y = y' := by omega
      obtain rfl : m = m' := by omega
      obtain rfl : d = d' := by omega
      refine .inr ⟨rfl, .inr ⟨rfl, .inr ⟨rfl, ?_⟩⟩⟩
      unfold timeN at k
      omega
theorem date_uniq {y m d s y' m' d' s' : Nat} (h : IsDate y m d s) (h' : IsDate y' m' d' s') (k : timeN y m d s = timeN y' m' d' s') : y = y' ∧ m = m' ∧ d = d' ∧ s = s' := by
  have h1 := date_le h h' (by omega)
  have h2 := date_le h' h (by omega)
  omega
end Go.Proofs.YtmbifoockenniaaDoor
