/-
  Contracts: the document's reader.
-/
import Derived.Test.YtabpcipfijakjaaBitsC
namespace Go.Proofs.Ytabpcipfijakjaa
set_option maxRecDepth 100000
open Go.RowKit Go.Joins

theorem rbit_any (s : ByteArray) (a : Nat) (hs : s.size ≤ 1000000) (ha : a < 8 * s.size) (w : World) :
    Calls Try.prog 48 #[.string s, .int .i64 a] w fun r w' => r = .returned (.int .u32 (bitsAt (num s) a 1 : Nat)) ∧ w = w' := by
  have h8 : a / 8 < s.size := by omega
  have HB := Lib.hid (bit_of_byte s a h8)
  have hq : (a : Int).tdiv 8 = (a / 8 : Nat) := by rw [Int.tdiv_eq_ediv_of_nonneg (by omega)]; omega
  have hm : (a : Int).tmod 8 = (a % 8 : Nat) := by rw [Int.tmod_eq_emod_of_nonneg (by omega)]; omega
  have hr : a % 8 < 8 := Nat.mod_lt _ (by omega)
  have hx := s[a / 8].toNat_lt
  generalize hxx : s[a / 8].toNat = x at *
  have HX := Lib.hid hxx
  generalize a / 8 = q at *
  generalize a % 8 = r at *
  have hxx : s[q].toNat = x := HX.out
  go_enter Try.func48, Try.ntmps48
  go_wp2
  go_loop [5, 6] (fun b i => ∃ k : Nat, k ≤ r ∧ i = .int .i64 k ∧ b = .int .i64 (x / 2 ^ k : Nat)) (fun _ i => r - (intOf i).toNat)
  case atStart => exact ⟨0, Nat.zero_le _, rfl, by simp⟩
  case round =>
    obtain ⟨k, hk, rfl, rfl⟩ := hrel
    have hy : x / 2 ^ k < 256 := Nat.lt_of_le_of_lt (Nat.div_le_self _ _) hx
    have HS : Hid (x / 2 ^ k / 2 = x / 2 ^ (k + 1)) := by show _ = _; rw [Nat.div_div_eq_div_mul, Nat.pow_succ]
    by_cases hlt : k < r
    · generalize x / 2 ^ k = y at *
      have hd : (y : Int).tdiv 2 = (y / 2 : Nat) := by rw [Int.tdiv_eq_ediv_of_nonneg (by omega)]; omega
      go_wp2
      go_round
      case rel => exact ⟨k + 1, by omega, by go_num, by rw [← HS.out]; go_num⟩
      case measure => simp [intOf]; omega
    · obtain rfl : k = r := by omega
      generalize hyy : x / 2 ^ k = y at *
      have HY := Lib.hid hyy
      have hd : (y : Int).tmod 2 = (y % 2 : Nat) := by rw [Int.tmod_eq_emod_of_nonneg (by omega)]; omega
      clear hyy
      go_wp2
      go_ret
      exact ⟨ret_eq (by rw [← HB.out]; go_num), rfl⟩

end Go.Proofs.Ytabpcipfijakjaa
