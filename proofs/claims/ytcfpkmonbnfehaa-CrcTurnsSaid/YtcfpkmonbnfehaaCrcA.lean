/-
  Contracts of the sum's step, product and shift.
-/
import Derived.Test.YtcfpkmonbnfehaaKit
import Derived.Test.YtcfpkmonbnfehaaCrcMath
namespace Go.Proofs.Ytcfpkmonbnfehaa
open Go.RowKit

theorem and1_u32 (n : Nat) (hn : n < 4294967296) : bits .and .u32 (n : Int) 1 = ((n % 2 : Nat) : Int) := by
  have h := u32_and_nat n 1 hn (by omega)
  rw [Nat.and_one_is_mod] at h
  exact h
theorem half_xor (n : Nat) (hn : n < 4294967296) : bits .xor .u32 ((n : Int) / 2) 3988292384 = ((n / 2 ^^^ 3988292384 : Nat) : Int) :=
  u32_xor_nat (n / 2) 3988292384 (by omega) (by omega)

theorem step_any (n : Nat) (hn : n < 4294967296) (w : World) :
    Calls Try.prog 46 #[.int .u32 n] w fun e w' => e = .returned (.int .u32 (Crc.st n : Nat)) ∧ w = w' := by
  have ha := and1_u32 n hn
  by_cases h : n % 2 = 1
  · have hb : (bits .and .u32 (n : Int) 1 == 0) = false := by rw [ha, h]; rfl
    clear ha
    go_enter Try.func46, Try.ntmps46
    go_wp2
    go_ret
    exact ⟨ret_eq (by rw [Crc.st_odd n h]; exact half_xor n hn), rfl⟩
  · have hb : (bits .and .u32 (n : Int) 1 == 0) = true := by rw [ha, show n % 2 = 0 by omega]; rfl
    clear ha
    go_enter Try.func46, Try.ntmps46
    go_wp2
    go_ret
    exact ⟨ret_eq (by rw [Crc.st_even n h]; rfl), rfl⟩

theorem bit_test (a : Nat) (k : Nat) (hk : k < 32) (ha : a < 4294967296) : (bits .and .u32 (a : Int) ((2147483648 : Int) / 2 ^ k) != 0) = a.testBit (31 - k) := by
  have e : ((2147483648 : Int) / 2 ^ k) = ((2 ^ (31 - k) : Nat) : Int) := by
    have h1 : (2147483648 : Nat) / 2 ^ k = 2 ^ (31 - k) := by
      rw [show (2147483648 : Nat) = 2 ^ (31 - k) * 2 ^ k from by rw [← Nat.pow_add, Nat.sub_add_cancel (by omega)]]
      exact Nat.mul_div_cancel _ (Nat.two_pow_pos _)
    rw [← h1]
    simp
  have hp : (2 : Nat) ^ (31 - k) < 4294967296 := Nat.pow_lt_pow_of_lt (a := 2) (m := 32) (by omega) (by omega)
  rw [e, u32_and_nat a _ ha hp, nat_bit]
  rw [Nat.testBit_eq_decide_div_mod_eq]
  have hpos : 0 < 2 ^ (31 - k) := Nat.two_pow_pos _
  have h2 : a / 2 ^ (31 - k) % 2 = 0 ∨ a / 2 ^ (31 - k) % 2 = 1 := by omega
  rcases h2 with h2 | h2
  · rw [h2]; simp
  · rw [h2]
    generalize 2 ^ (31 - k) = q at *
    rw [Nat.one_mul, bne_iff_ne.mpr (by omega)]
    rfl
theorem xor32 (a b : Nat) (ha : a < 4294967296) (hb : b < 4294967296) : bits .xor .u32 (a : Int) (b : Int) = ((a ^^^ b : Nat) : Int) := u32_xor_nat a b ha hb

theorem product_any (a b : Nat) (ha : a < 4294967296) (hb : b < 4294967296) (w : World) :
    Calls Try.prog 48 #[.int .u32 a, .int .u32 b] w fun e w' => e = .returned (.int .u32 (Crc.product a b : Nat)) ∧ w = w' := by
  go_enter Try.func48, Try.ntmps48
  go_wp2
  go_loop [1, 5, 6, 7] (fun y p j i => ∃ k : Nat, k ≤ 32 ∧ i = .int .i64 k ∧ y = .int .u32 (Crc.it k b : Nat) ∧ p = .int .u32 (Crc.pr a b k : Nat)) (fun _ _ _ i => 32 - (intOf i).toNat)
  case atStart => exact ⟨0, Nat.zero_le _, rfl, rfl, rfl⟩
  case round =>
    obtain ⟨k, hk, rfl, rfl, rfl⟩ := hrel
    by_cases hlt : k < 32
    · have ht := bit_test a k hlt ha
      have hl := Crc.it_lt k b hb
      have hp := Crc.pr_lt a b k hb
      go_wp2_with (go_at_call 46; refine (step_any _ hl _).mono ?_; rintro e w' ⟨rfl, rfl⟩)
      all_goals
        go_round
        case measure => simp [intOf]; omega
      · have hy : a.testBit (31 - k) = true := by assumption
        exact ⟨k + 1, by omega, by go_num, rfl, by rw [Crc.pr_yes a b k hy, xor32 _ _ hp hl]⟩
      · have hn : a.testBit (31 - k) = false := by assumption
        exact ⟨k + 1, by omega, by go_num, rfl, by rw [Crc.pr_no a b k hn]⟩
    · obtain rfl : k = 32 := by omega
      go_wp2
      go_ret
      exact ⟨rfl, rfl⟩

theorem shift_any (s n : Nat) (hs : s < 4294967296) (hn : n < 18446744073709551616) (w : World) :
    Calls Try.prog 42 #[.int .u32 s, .int .u64 n] w fun e w' => e = .returned (.int .u32 (Crc.shift n s : Nat)) ∧ w = w' := by
  go_enter Try.func42, Try.ntmps42
  go_wp2
  go_loop [0, 1, 5] (fun x m p => ∃ r t c : Nat, t < 4294967296 ∧ c < 18446744073709551616 ∧ x = .int .u32 t ∧ m = .int .u64 c ∧ p = .int .u32 (Crc.pw r : Nat) ∧ Crc.shift (2 ^ r * c) t = Crc.shift n s) (fun _ m _ => (intOf m).toNat)
  case atStart => exact ⟨0, s, n, hs, hn, rfl, rfl, by rw [Crc.pw_zero]; rfl, by rw [Nat.pow_zero, Nat.one_mul]⟩
  case round =>
    obtain ⟨r, t, c, ht, hc, rfl, rfl, rfl, hinv⟩ := hrel
    have HI := Lib.hid hinv
    clear hinv
    have hp := Crc.pw_lt r
    by_cases h0 : c = 0
    · subst h0
      go_wp2
      go_ret
      exact ⟨ret_eq (by rw [← HI.out]; rfl), rfl⟩
    · have hpos : 0 < c := by omega
      have h1 : bits .and .u64 (c : Int) 1 = ((c % 2 : Nat) : Int) := by
        have h := u64_and_nat c 1 hc (by omega)
        rw [Nat.and_one_is_mod] at h
        exact h
      by_cases ho : c % 2 = 1
      · have hb : (bits .and .u64 (c : Int) 1 == 1) = true := by rw [h1, ho]; rfl
        clear h1
        go_wp2_with (go_at_call 48; refine (product_any _ _ (by first | exact hp | exact ht) (by first | exact hp | exact ht) _).mono ?_; rintro e w' ⟨rfl, rfl⟩)
        go_round
        case rel => exact ⟨r + 1, _, c / 2, Crc.it_lt (8 * 2 ^ r) t ht, by omega, by rw [Crc.pw_product r t ht], by go_num, by rw [Crc.pw_succ], by rw [← Crc.shift_odd r c t ho]; exact HI.out⟩
        case measure => simp [intOf]; omega
      · have hb : (bits .and .u64 (c : Int) 1 == 1) = false := by rw [h1, show c % 2 = 0 by omega]; rfl
        clear h1
        go_wp2_with (go_at_call 48; refine (product_any _ _ hp hp _).mono ?_; rintro e w' ⟨rfl, rfl⟩)
        go_round
        case rel => exact ⟨r + 1, t, c / 2, ht, by omega, rfl, by go_num, by rw [Crc.pw_succ], by rw [← Crc.shift_even r c t ho]; exact HI.out⟩
        case measure => simp [intOf]; omega
end Go.Proofs.Ytcfpkmonbnfehaa
