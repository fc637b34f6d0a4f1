/-
  The document's Fill.
-/
import Derived.Test.YtabpcipfijakjaaPreL
namespace Go.Proofs.Ytabpcipfijakjaa
set_option maxRecDepth 100000
open Go.RowKit Go.Joins

theorem rfill_many (A : Option Addr) (n cap : Nat) (h : 4096 < n) (w : World) :
    Calls Try.prog 44 #[.slice A n cap] w fun e w' => e = .returned (.tuple #[.int .i64 0, .int .i64 6]) ∧ w = w' := by
  go_enter Try.func44, Try.ntmps44
  go_wp2
  go_ret2
  exact ⟨rfl, rfl⟩
theorem rfill_ok (A : Option Addr) (n cap : Nat) (ls : Nat → Nat) (hn : n ≤ 4096) (w : World) (hL : Lens w A n ls) (h15 : ∀ i, i < n → ls i ≤ 15) :
    Calls Try.prog 44 #[.slice A n cap] w fun e w' => e = .returned (.tuple #[.int .i64 (fillN ls n : Nat), .int .i64 0]) ∧ w = w' := by
  have HL := Lib.hid hL
  have H15 := Lib.hid h15
  clear hL h15
  go_enter Try.func44, Try.ntmps44
  go_wp2
  go_loop [4, 14] (fun x i => ∃ k, k ≤ n ∧ i = .int .i64 k ∧ x = .int .i64 (fillN ls k : Nat)) (fun _ i => n - (intOf i).toNat)
  case atStart => exact ⟨0, Nat.zero_le _, rfl, rfl⟩
  case round =>
    obtain ⟨k, hk, rfl, rfl⟩ := hrel
    by_cases hlt : k < n
    · obtain ⟨b, off, rfl, hb, hc⟩ := HL.out (by omega)
      obtain ⟨hcell, _⟩ := hc k hlt
      have hl := H15.out k hlt
      have hfl := fillN_le ls k
      have HS : Hid (fillN ls (k + 1) = fillN ls k + (if ls k = 0 then 0 else 2 ^ (15 - ls k))) := rfl
      generalize ls k = l at *
      generalize fillN ls k = F at *
      clear hc
      by_cases h0 : l = 0
      · subst h0
        go_wp2
        go_round
        case rel => exact ⟨k + 1, by omega, by go_num, by rw [HS.out]; simp⟩
        case measure => simp [intOf]; omega
      · have h0' : 0 < l := by omega
        go_wp2
        go_loop [7, 8] (fun y j => ∃ i : Nat, i ≤ l ∧ j = .int .i64 i ∧ y = .int .i64 (2 ^ (15 - i) : Nat)) (fun _ j => l - (intOf j).toNat)
        case atStart => exact ⟨0, Nat.zero_le _, rfl, rfl⟩
        case round =>
          obtain ⟨i, hi, rfl, rfl⟩ := hrel
          by_cases hil : i < l
          · have hp : 2 ^ (15 - i) = 2 * 2 ^ (15 - (i + 1)) := by rw [show 15 - i = (15 - (i + 1)) + 1 by omega, Nat.pow_succ]; omega
            have hp2 : 2 ^ (15 - (i + 1)) ≤ 32768 := Nat.pow_le_pow_right (n := 2) (by omega) (show 15 - (i + 1) ≤ 15 by omega)
            have HP : Hid (2 ^ (15 - (i + 1)) = 2 ^ (15 - (i + 1))) := rfl
            generalize 2 ^ (15 - i) = p at *
            generalize hpp : 2 ^ (15 - (i + 1)) = p2 at *
            have hd1 : (p : Int).tdiv 2 = (p2 : Int) := by rw [Int.tdiv_eq_ediv_of_nonneg (by omega)]; omega
            have hd2 : (p : Int) / 2 = (p2 : Int) := by omega
            have HPP := Lib.hid hpp
            clear hpp hp HP
            go_wp2
            go_round
            case rel => exact ⟨i + 1, by omega, by go_num, by rw [HPP.out]⟩
            case measure => simp [intOf]; omega
          · obtain rfl : i = l := by omega
            have hp2 : 2 ^ (15 - i) ≤ 32768 := Nat.pow_le_pow_right (n := 2) (by omega) (show 15 - i ≤ 15 by omega)
            generalize 2 ^ (15 - i) = p at *
            go_wp2
            go_round
            case rel => exact ⟨k + 1, by omega, by go_num, by rw [HS.out, if_neg h0]; simp⟩
            case measure => simp [intOf]; omega
    · obtain rfl : k = n := by omega
      go_wp2
      go_ret2
      exact ⟨rfl, rfl⟩
theorem rfill_bad (A : Option Addr) (n cap : Nat) (ls : Nat → Nat) (hn : n ≤ 4096) (w : World) (hL : Lens w A n ls) (h15 : ¬ ∀ i, i < n → ls i ≤ 15) :
    Calls Try.prog 44 #[.slice A n cap] w fun e w' => e = .returned (.tuple #[.int .i64 0, .int .i64 8]) ∧ w = w' := by
  obtain ⟨m, hm, hm15, hbef⟩ := first_bad ls n h15
  have HL := Lib.hid hL
  have H15 := Lib.hid hbef
  clear hL h15 hbef
  go_enter Try.func44, Try.ntmps44
  go_wp2
  go_loop [4, 14] (fun x i => ∃ k, k ≤ m ∧ i = .int .i64 k ∧ x = .int .i64 (fillN ls k : Nat)) (fun _ i => n - (intOf i).toNat)
  case atStart => exact ⟨0, Nat.zero_le _, rfl, rfl⟩
  case round =>
    obtain ⟨k, hk, rfl, rfl⟩ := hrel
    obtain ⟨b, off, rfl, hb, hc⟩ := HL.out (by omega)
    obtain ⟨hcell, h256⟩ := hc k (by omega)
    by_cases hlt : k < m
    · skip
      have hl := H15.out k hlt
      have hfl := fillN_le ls k
      have HS : Hid (fillN ls (k + 1) = fillN ls k + (if ls k = 0 then 0 else 2 ^ (15 - ls k))) := rfl
      generalize ls k = l at *
      generalize fillN ls k = F at *
      clear hc
      by_cases h0 : l = 0
      · subst h0
        go_wp2
        go_round
        case rel => exact ⟨k + 1, by omega, by go_num, by rw [HS.out]; simp⟩
        case measure => simp [intOf]; omega
      · have h0' : 0 < l := by omega
        go_wp2
        go_loop [7, 8] (fun y j => ∃ i : Nat, i ≤ l ∧ j = .int .i64 i ∧ y = .int .i64 (2 ^ (15 - i) : Nat)) (fun _ j => l - (intOf j).toNat)
        case atStart => exact ⟨0, Nat.zero_le _, rfl, rfl⟩
        case round =>
          obtain ⟨i, hi, rfl, rfl⟩ := hrel
          by_cases hil : i < l
          · have hp : 2 ^ (15 - i) = 2 * 2 ^ (15 - (i + 1)) := by rw [show 15 - i = (15 - (i + 1)) + 1 by omega, Nat.pow_succ]; omega
            have hp2 : 2 ^ (15 - (i + 1)) ≤ 32768 := Nat.pow_le_pow_right (n := 2) (by omega) (show 15 - (i + 1) ≤ 15 by omega)
            have HP : Hid (2 ^ (15 - (i + 1)) = 2 ^ (15 - (i + 1))) := rfl
            generalize 2 ^ (15 - i) = p at *
            generalize hpp : 2 ^ (15 - (i + 1)) = p2 at *
            have hd1 : (p : Int).tdiv 2 = (p2 : Int) := by rw [Int.tdiv_eq_ediv_of_nonneg (by omega)]; omega
            have hd2 : (p : Int) / 2 = (p2 : Int) := by omega
            have HPP := Lib.hid hpp
            clear hpp hp HP
            go_wp2
            go_round
            case rel => exact ⟨i + 1, by omega, by go_num, by rw [HPP.out]⟩
            case measure => simp [intOf]; omega
          · obtain rfl : i = l := by omega
            have hp2 : 2 ^ (15 - i) ≤ 32768 := Nat.pow_le_pow_right (n := 2) (by omega) (show 15 - i ≤ 15 by omega)
            generalize 2 ^ (15 - i) = p at *
            go_wp2
            go_round
            case rel => exact ⟨k + 1, by omega, by go_num, by rw [HS.out, if_neg h0]; simp⟩
            case measure => simp [intOf]; omega
    · obtain rfl : k = m := by omega
      generalize ls k = l at *
      clear hc
      go_wp2
      go_ret2
      exact ⟨rfl, rfl⟩
end Go.Proofs.Ytabpcipfijakjaa
