/-
  Contracts of the sum's step, product and shift.
-/
import Derived.Test.YtmhalkkfpbkafaaDoorKit
import Derived.Test.YtmhalkkfpbkafaaDoorCrcMath
namespace Go.Proofs.YtmhalkkfpbkafaaDoor
open Go.RowKit

theorem and1_u32 (n : Nat) (hn : n < 4294967296) : bits .and .u32 (n : Int) 1 = ((n % 2 : Nat) : Int) := by
  have h := u32_and_nat n 1 hn (by omega)
  rw [Nat.and_one_is_mod] at h
  exact h
theorem half_xor (n : Nat) (hn : n < 4294967296) : bits .xor .u32 ((n : Int) / 2) 3988292384 = ((n / 2 ^^^ 3988292384 : Nat) : Int) :=
  u32_xor_nat (n / 2) 3988292384 (by omega) (by omega)

theorem step_any (n : Nat) (hn : n < 4294967296) (w : World) :
    Calls Tryd.prog 83 #[.int .u32 n] w fun e w' => e = .returned (.int .u32 (Crc.st n : Nat)) ∧ w = w' := by
  have ha := and1_u32 n hn
  by_cases h : n % 2 = 1
  · have hb : (bits .and .u32 (n : Int) 1 == 0) = false := by rw [ha, h]; rfl
    clear ha
    go_enter Tryd.func83, Tryd.ntmps83
    go_wp2
    go_ret
    exact ⟨ret_eq (by rw [Crc.st_odd n h]; exact half_xor n hn), rfl⟩
  · have hb : (bits .and .u32 (n : Int) 1 == 0) = true := by rw [ha, show n % 2 = 0 by omega]; rfl
    clear ha
    go_enter Tryd.func83, Tryd.ntmps83
    go_wp2
    go_ret
    exact ⟨ret_eq (by rw [Crc.st_even n h]; rfl), rfl⟩

theorem bit_test (a : Nat) (k : Nat) (hk : k < 32) (ha : a < 4294967296) : (bits .and .u32 (a : Int) ((2147483648 : Int) / 2 ^ k) != 0) = a.testBit (31 - k) := by
  have e : ((2147483648 : Int) / 2 ^ k) = ((2 ^ (31 - k) : Nat) : Int) := by
    have h1 : (2147483648 : Nat) / 2 ^ k = 2 ^ (31 - k) := by
      rw [show (2147483648 : Nat) = 2 ^ (31 - k) * 2 ^ k from by rw [← Nat.pow_add, Nat.sub_add_cancel (by omega)]]
      exact Nat.mul_div_cancel _ (Nat.two_pow_pos _)
    rw [← h1]
    simp
  have hp : (2 : Nat) ^ (31 - k) < 4294967296 := Nat.pow_lt_pow_of_lt (a := 2) (m := 32) (by omega) (by omega)
  rw [e, u32_and_nat a _ ha hp, nat_bit]
  rw [Nat.testBit_eq_decide_div_mod_eq]
  have hpos : 0 < 2 ^ (31 - k) := Nat.two_pow_pos _
  have h2 : a / 2 ^ (31 - k) % 2 = 0 ∨ a / 2 ^ (31 - k) % 2 = 1 := by omega
  rcases h2 with h2 | h2
  · rw [h2]; simp
  · rw [h2]
    generalize 2 ^ (31 - k) = q at *
    rw [Nat.one_mul, bne_iff_ne.mpr (by omega)]
    rfl
theorem xor32 (a b : Nat) (ha : a < 4294967296) (hb : b < 4294967296) : bits .xor .u32 (a : Int) (b : Int) = ((a ^^^ b : Nat) : Int) := u32_xor_nat a b ha hb

end Go.Proofs.YtmhalkkfpbkafaaDoor
