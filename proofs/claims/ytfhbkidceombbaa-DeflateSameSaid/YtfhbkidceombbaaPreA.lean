/-
  Contracts: how far lengths fill a code; the greatest length; may a code be open.
-/
import Derived.Test.YtfhbkidceombbaaKit
import Derived.BigQuiet
import Derived.StillTailTactics
namespace Go.Proofs.Ytfhbkidceombbaa
open Go.RowKit

/-- Lengths that lie in memory. -/
def Lens (w : World) (A : Option Addr) (n : Nat) (ls : Nat → Nat) : Prop := 0 < n → ∃ b off, A = some ⟨b, off, none⟩ ∧ b < w.heap.size ∧ ∀ i, i < n → w.cell? ⟨b, off + i, none⟩ = some (.int .u8 (ls i : Nat)) ∧ ls i < 256
theorem Lens.below {w w' : World} {B n : Nat} {A : Option Addr} {ls : Nat → Nat} (h : Lens w A n ls) (hB : w.heap.size ≤ B) (hb : Below B w w') : Lens w' A n ls := fun hn => by
  obtain ⟨b, off, e, hlt, hc⟩ := h hn
  exact ⟨b, off, e, Nat.lt_of_lt_of_le hlt hb.size, fun i hi => ⟨(hb.cell (p := ⟨b, off + i, none⟩) (Nat.lt_of_lt_of_le hlt hB)).trans (hc i hi).1, (hc i hi).2⟩⟩
theorem Lens.drewN {w : World} {n : Nat} {A : Option Addr} {ls : Nat → Nat} (h : Lens w A n ls) (d : Nat) : Lens (w.drewN d) A n ls := h

/-- How far the first k lengths fill. -/
def fillN (ls : Nat → Nat) : Nat → Nat
  | 0 => 0
  | k + 1 => fillN ls k + (if ls k = 0 then 0 else 2 ^ (15 - ls k))
theorem fillN_le (ls : Nat → Nat) (k : Nat) : fillN ls k ≤ k * 16384 := by
  induction k with
  | zero => exact Nat.zero_le _
  | succ k ih =>
    have hp : (if ls k = 0 then 0 else 2 ^ (15 - ls k)) ≤ 16384 := by
      by_cases h : ls k = 0
      · rw [if_pos h]
        exact Nat.zero_le _
      · rw [if_neg h]
        exact Nat.pow_le_pow_right (n := 2) (by omega) (show 15 - ls k ≤ 14 by omega)
    rw [Nat.add_mul, Nat.one_mul]
    exact Nat.add_le_add ih hp
theorem shr_pow (l : Nat) (h : l ≤ 15) : (32768 : Int) / 2 ^ l = ((2 ^ (15 - l) : Nat) : Int) := by
  have e : (32768 : Nat) / 2 ^ l = 2 ^ (15 - l) := by
    rw [show (32768 : Nat) = 2 ^ (15 - l) * 2 ^ l from by rw [← Nat.pow_add, show 15 - l + l = 15 by omega], Nat.mul_div_cancel _ (Nat.two_pow_pos l)]
  rw [← e]
  simp

theorem fill_many (A : Option Addr) (n cap : Nat) (h : 4096 < n) (w : World) :
    Calls Try.prog 101 #[.slice A n cap] w fun e w' => e = .returned (.tuple #[.int .i64 0, .int .i64 6]) ∧ w = w' := by
  go_enter Try.func101, Try.ntmps101
  go_wp2
  go_ret2
  exact ⟨rfl, rfl⟩
theorem fill_ok (A : Option Addr) (n cap : Nat) (ls : Nat → Nat) (hn : n ≤ 4096) (w : World) (hL : Lens w A n ls) (h15 : ∀ i, i < n → ls i ≤ 15) :
    Calls Try.prog 101 #[.slice A n cap] w fun e w' => e = .returned (.tuple #[.int .i64 (fillN ls n : Nat), .int .i64 0]) ∧ w = w' := by
  have HL := Lib.hid hL
  have H15 := Lib.hid h15
  clear hL h15
  go_enter Try.func101, Try.ntmps101
  go_wp2
  go_loop [4, 12] (fun x i => ∃ k, k ≤ n ∧ i = .int .i64 k ∧ x = .int .i64 (fillN ls k : Nat)) (fun _ i => n - (intOf i).toNat)
  case atStart => exact ⟨0, Nat.zero_le _, rfl, rfl⟩
  case round =>
    obtain ⟨k, hk, rfl, rfl⟩ := hrel
    by_cases hlt : k < n
    · obtain ⟨b, off, rfl, hb, hc⟩ := HL.out (by omega)
      obtain ⟨hcell, _⟩ := hc k hlt
      have hl := H15.out k hlt
      have hfl := fillN_le ls k
      have hsh := shr_pow (ls k) hl
      have HS : Hid (fillN ls (k + 1) = fillN ls k + (if ls k = 0 then 0 else 2 ^ (15 - ls k))) := rfl
      have hp : 2 ^ (15 - ls k) ≤ 32768 := Nat.pow_le_pow_right (n := 2) (by omega) (show 15 - ls k ≤ 15 by omega)
      generalize ls k = l at *
      generalize 2 ^ (15 - l) = p at *
      generalize fillN ls k = F at *
      clear hc
      by_cases h0 : l = 0
      · subst h0
        go_wp2
        go_round
        case rel => exact ⟨k + 1, by omega, by go_num, by rw [HS.out]; simp⟩
        case measure => simp [intOf]; omega
      · go_wp2
        go_round
        case rel => exact ⟨k + 1, by omega, by go_num, by rw [HS.out, if_neg h0]; simp⟩
        case measure => simp [intOf]; omega
    · obtain rfl : k = n := by omega
      go_wp2
      go_ret2
      exact ⟨rfl, rfl⟩
/-- The first length that is too great. -/
theorem first_bad (ls : Nat → Nat) (n : Nat) (h : ¬ ∀ i, i < n → ls i ≤ 15) : ∃ m, m < n ∧ 15 < ls m ∧ ∀ i, i < m → ls i ≤ 15 := by
  induction n with
  | zero => exact absurd (fun i hi => by omega) h
  | succ n ih =>
    by_cases hn : ∀ i, i < n → ls i ≤ 15
    · refine ⟨n, by omega, ?_, hn⟩
      refine Nat.lt_of_not_le fun hle => h fun i hi => ?_
      by_cases e : i = n
      · exact e ▸ hle
      · exact hn i (by omega)
    · obtain ⟨m, h1, h2, h3⟩ := ih hn
      exact ⟨m, by omega, h2, h3⟩
theorem fill_bad (A : Option Addr) (n cap : Nat) (ls : Nat → Nat) (hn : n ≤ 4096) (w : World) (hL : Lens w A n ls) (h15 : ¬ ∀ i, i < n → ls i ≤ 15) :
    Calls Try.prog 101 #[.slice A n cap] w fun e w' => e = .returned (.tuple #[.int .i64 0, .int .i64 8]) ∧ w = w' := by
  obtain ⟨m, hm, hm15, hbef⟩ := first_bad ls n h15
  have HL := Lib.hid hL
  have H15 := Lib.hid hbef
  clear hL h15 hbef
  go_enter Try.func101, Try.ntmps101
  go_wp2
  go_loop [4, 12] (fun x i => ∃ k, k ≤ m ∧ i = .int .i64 k ∧ x = .int .i64 (fillN ls k : Nat)) (fun _ i => n - (intOf i).toNat)
  case atStart => exact ⟨0, Nat.zero_le _, rfl, rfl⟩
  case round =>
    obtain ⟨k, hk, rfl, rfl⟩ := hrel
    obtain ⟨b, off, rfl, hb, hc⟩ := HL.out (by omega)
    obtain ⟨hcell, h256⟩ := hc k (by omega)
    by_cases hlt : k < m
    · have hl := H15.out k hlt
      have hfl := fillN_le ls k
      have hsh := shr_pow (ls k) hl
      have HS : Hid (fillN ls (k + 1) = fillN ls k + (if ls k = 0 then 0 else 2 ^ (15 - ls k))) := rfl
      have hp : 2 ^ (15 - ls k) ≤ 32768 := Nat.pow_le_pow_right (n := 2) (by omega) (show 15 - ls k ≤ 15 by omega)
      generalize ls k = l at *
      generalize 2 ^ (15 - l) = p at *
      generalize fillN ls k = F at *
      clear hc
      by_cases h0 : l = 0
      · subst h0
        go_wp2
        go_round
        case rel => exact ⟨k + 1, by omega, by go_num, by rw [HS.out]; simp⟩
        case measure => simp [intOf]; omega
      · go_wp2
        go_round
        case rel => exact ⟨k + 1, by omega, by go_num, by rw [HS.out, if_neg h0]; simp⟩
        case measure => simp [intOf]; omega
    · obtain rfl : k = m := by omega
      generalize ls k = l at *
      clear hc
      go_wp2
      go_ret2
      exact ⟨rfl, rfl⟩

/-- The sum of the first k lengths. -/
def sumN (ls : Nat → Nat) : Nat → Nat
  | 0 => 0
  | k + 1 => sumN ls k + ls k
theorem sumN_le (ls : Nat → Nat) (n : Nat) (h : ∀ i, i < n → ls i ≤ 15) : ∀ k, k ≤ n → sumN ls k ≤ k * 15
  | 0, _ => Nat.le_refl _
  | k + 1, hk => by
    have ih := sumN_le ls n h k (by omega)
    have := h k (by omega)
    rw [sumN]
    omega
theorem open_any (A : Option Addr) (n cap : Nat) (ls : Nat → Nat) (hn : n ≤ 4096) (w : World) (hL : Lens w A n ls) (h15 : ∀ i, i < n → ls i ≤ 15) :
    Calls Try.prog 102 #[.slice A n cap] w fun e w' => e = .returned (.bool (decide (sumN ls n ≤ 1))) ∧ w = w' := by
  have HL := Lib.hid hL
  have H15 := Lib.hid h15
  have HSL := Lib.hid (sumN_le ls n h15)
  clear hL h15
  go_enter Try.func102, Try.ntmps102
  go_wp2
  go_loop [3, 8] (fun x i => ∃ k, k ≤ n ∧ i = .int .i64 k ∧ x = .int .i64 (sumN ls k : Nat)) (fun _ i => n - (intOf i).toNat)
  case atStart => exact ⟨0, Nat.zero_le _, rfl, rfl⟩
  case round =>
    obtain ⟨k, hk, rfl, rfl⟩ := hrel
    have hsl := HSL.out k hk
    by_cases hlt : k < n
    · obtain ⟨b, off, rfl, hb, hc⟩ := HL.out (by omega)
      obtain ⟨hcell, _⟩ := hc k hlt
      have hl := H15.out k hlt
      have HS : Hid (sumN ls (k + 1) = sumN ls k + ls k) := rfl
      generalize ls k = l at *
      generalize sumN ls k = F at *
      clear hc
      go_wp2
      go_round
      case rel => exact ⟨k + 1, by omega, by go_num, by rw [HS.out]; go_num⟩
      case measure => simp [intOf]; omega
    · obtain rfl : k = n := by omega
      go_wp2
      go_ret
      refine ⟨?_, rfl⟩
      show Ending.returned (.bool (decide (((sumN ls k : Nat) : Int) ≤ 1))) = _
      rw [show decide (((sumN ls k : Nat) : Int) ≤ 1) = decide (sumN ls k ≤ 1) from decide_eq_decide.mpr (by omega)]

/-- The greatest of the first k + 1 lengths. -/
def maxN (ls : Nat → Nat) : Nat → Nat
  | 0 => ls 0
  | k + 1 => max (maxN ls k) (ls (k + 1))
theorem maxN_ge (ls : Nat → Nat) : ∀ k i, i ≤ k → ls i ≤ maxN ls k
  | 0, i, h => by
    obtain rfl : i = 0 := by omega
    exact Nat.le_refl _
  | k + 1, i, h => by
    rw [maxN]
    by_cases e : i = k + 1
    · subst e
      omega
    · have := maxN_ge ls k i (by omega)
      omega
theorem maxN_mem (ls : Nat → Nat) : ∀ k, ∃ i, i ≤ k ∧ ls i = maxN ls k
  | 0 => ⟨0, Nat.le_refl _, rfl⟩
  | k + 1 => by
    rw [maxN]
    by_cases h : maxN ls k ≤ ls (k + 1)
    · exact ⟨k + 1, Nat.le_refl _, by omega⟩
    · obtain ⟨i, h1, h2⟩ := maxN_mem ls k
      exact ⟨i, by omega, by omega⟩
theorem max_any (A : Option Addr) (n cap : Nat) (ls : Nat → Nat) (h0 : 0 < n) (hn : n ≤ 4096) (w : World) (hL : Lens w A n ls) :
    Calls Try.prog 103 #[.slice A n cap] w fun e w' => e = .returned (.int .u8 (maxN ls (n - 1) : Nat)) ∧ w = w' := by
  obtain ⟨b, off, rfl, hb, hc⟩ := hL h0
  have hc0 := (hc 0 h0).1
  rw [Nat.add_zero] at hc0
  have HC := Lib.hid hc
  clear hc
  go_enter Try.func103, Try.ntmps103
  go_wp2
  go_loop [3, 4] (fun x i => ∃ k, k < n ∧ i = .int .i64 (k + 1 : Nat) ∧ x = .int .u8 (maxN ls k : Nat)) (fun _ i => n - (intOf i).toNat)
  case atStart => exact ⟨0, h0, rfl, rfl⟩
  case round =>
    obtain ⟨k, hk, rfl, rfl⟩ := hrel
    by_cases hlt : k + 1 < n
    · obtain ⟨hcell, h256⟩ := HC.out (k + 1) hlt
      have HS : Hid (maxN ls (k + 1) = max (maxN ls k) (ls (k + 1))) := rfl
      generalize ls (k + 1) = l at *
      generalize maxN ls k = F at *
      by_cases hm : F < l
      · have hmx : max (F : Int) (l : Int) = l := by omega
        have HX : Hid (max F l = l) := by show _ = _; omega
        go_wp2
        go_round
        case rel => exact ⟨k + 1, hlt, by simp, by rw [HS.out, HX.out]⟩
        case measure => simp [intOf]; omega
      · have hmx : max (F : Int) (l : Int) = F := by omega
        have HX : Hid (max F l = F) := by show _ = _; omega
        go_wp2
        go_round
        case rel => exact ⟨k + 1, hlt, by simp, by rw [HS.out, HX.out]⟩
        case measure => simp [intOf]; omega
    · obtain rfl : n = k + 1 := by omega
      go_wp2
      go_ret
      exact ⟨rfl, rfl⟩
end Go.Proofs.Ytfhbkidceombbaa
