/-
  Contracts: bits in the other order.
-/
import Derived.Test.YtfhbkidceombbaaBytesMath
import Derived.BigQuiet
namespace Go.Proofs.Ytfhbkidceombbaa
open Go.RowKit Go.Joins

/-- The lowest n bits in the other order. -/
def rev (v : Nat) : Nat → Nat
  | 0 => 0
  | k + 1 => rev v k * 2 + v / 2 ^ k % 2
theorem rev_lt (v n : Nat) : rev v n < 2 ^ n := by
  induction n with
  | zero => exact Nat.one_pos
  | succ k ih => rw [rev, Nat.pow_succ]; omega
theorem rev_bit (v n : Nat) : ∀ i, (rev v n).testBit i = (decide (i < n) && v.testBit (n - 1 - i)) := by
  induction n with
  | zero => intro i; simp [rev]
  | succ k ih =>
    intro i
    rw [rev]
    cases i with
    | zero =>
      rw [Nat.testBit_zero, show (rev v k * 2 + v / 2 ^ k % 2) % 2 = v / 2 ^ k % 2 by omega]
      simp [Nat.testBit_eq_decide_div_mod_eq]
    | succ i =>
      rw [Nat.testBit_succ, show (rev v k * 2 + v / 2 ^ k % 2) / 2 = rev v k by omega, ih i, show k + 1 - 1 - (i + 1) = k - 1 - i by omega]
      simp
/-- One step of the exchange. -/
def sw (s m x : Nat) : Nat := (x / 2 ^ s &&& m) ||| ((x &&& m) * 2 ^ s % 2 ^ 32)
theorem sw_lt (s m x : Nat) (hm : m < 2 ^ 32) : sw s m x < 2 ^ 32 := Nat.or_lt_two_pow (Nat.and_lt_two_pow _ hm) (Nat.mod_lt _ (by decide))
theorem sw_raw (s m x i : Nat) (hi : i < 32) : (sw s m x).testBit i = ((x.testBit (i + s) && m.testBit i) || (decide (s ≤ i) && x.testBit (i - s) && m.testBit (i - s))) := by
  unfold sw
  rw [Nat.testBit_or, Nat.testBit_and, Nat.testBit_mod_two_pow, Nat.testBit_mul_two_pow, Nat.testBit_and, ← Nat.shiftRight_eq_div_pow, Nat.testBit_shiftRight, Nat.add_comm s i]
  simp [hi, Bool.and_assoc]
/-- Where a bit comes from. -/
def pm (s m i : Nat) : Nat := if m.testBit i = true then i + s else i - s
theorem sw_bit (s m x : Nat) (h : ∀ i, i < 32 → (if m.testBit i = true then (s ≤ i → m.testBit (i - s) = false) else (s ≤ i ∧ m.testBit (i - s) = true))) (i : Nat) (hi : i < 32) :
    (sw s m x).testBit i = x.testBit (pm s m i) := by
  have h := h i hi
  rw [sw_raw s m x i hi]
  unfold pm
  by_cases hm : m.testBit i = true
  · rw [if_pos hm] at h ⊢
    by_cases hs : s ≤ i
    · simp [hm, h hs]
    · simp [hm, hs]
  · rw [if_neg hm] at h ⊢
    simp only [Bool.not_eq_true] at hm
    simp [hm, h.1, h.2]
def m1 : Nat := 1431655765
def m2 : Nat := 858993459
def m4 : Nat := 252645135
def m8 : Nat := 16711935
def m16 : Nat := 65535
theorem pm_all : ∀ i, i < 32 → pm 16 m16 i < 32 ∧ pm 8 m8 (pm 16 m16 i) < 32 ∧ pm 4 m4 (pm 8 m8 (pm 16 m16 i)) < 32 ∧ pm 2 m2 (pm 4 m4 (pm 8 m8 (pm 16 m16 i))) < 32 ∧ pm 1 m1 (pm 2 m2 (pm 4 m4 (pm 8 m8 (pm 16 m16 i)))) = 31 - i := by decide +kernel
def whole (x : Nat) : Nat := sw 16 m16 (sw 8 m8 (sw 4 m4 (sw 2 m2 (sw 1 m1 x))))
theorem whole_bit (x i : Nat) (hi : i < 32) : (whole x).testBit i = x.testBit (31 - i) := by
  obtain ⟨h1, h2, h3, h4, h5⟩ := pm_all i hi
  unfold whole
  rw [sw_bit 16 m16 _ (by decide +kernel) i hi, sw_bit 8 m8 _ (by decide +kernel) _ h1, sw_bit 4 m4 _ (by decide +kernel) _ h2, sw_bit 2 m2 _ (by decide +kernel) _ h3, sw_bit 1 m1 _ (by decide +kernel) _ h4, h5]
theorem whole_lt (x : Nat) : whole x < 2 ^ 32 := sw_lt _ _ _ (by decide)
theorem whole_rev (x : Nat) : whole x = rev x 32 := by
  apply Nat.eq_of_testBit_eq
  intro i
  rw [rev_bit]
  by_cases hi : i < 32
  · rw [whole_bit x i hi, show 32 - 1 - i = 31 - i by omega]
    simp [hi]
  · rw [Nat.testBit_lt_two_pow (Nat.lt_of_lt_of_le (whole_lt x) (Nat.pow_le_pow_right (by omega) (by omega)))]
    simp [hi]

theorem sw_walk (s m S : Nat) (hS : S = 2 ^ s) (x : Nat) (hx : x < 4294967296) (hm : m < 4294967296) :
    bits .or .u32 (bits .and .u32 ((x : Int) / (S : Nat)) (m : Nat)) (bits .and .u32 (x : Int) (m : Nat) * (S : Nat) % 4294967296) = (sw s m x : Nat) := by
  subst hS
  have h1 : x / 2 ^ s < 4294967296 := Nat.lt_of_le_of_lt (Nat.div_le_self _ _) hx
  have h2 : x / 2 ^ s &&& m < 2 ^ 32 := Nat.and_lt_two_pow _ hm
  have h3 : (x &&& m) * 2 ^ s % 2 ^ 32 < 2 ^ 32 := Nat.mod_lt _ (by decide)
  rw [show ((x : Int) / ((2 ^ s : Nat) : Int)) = ((x / 2 ^ s : Nat) : Int) by simp, u32_and_nat _ _ h1 hm, u32_and_nat _ _ hx hm,
    show (((x &&& m : Nat) : Int) * ((2 ^ s : Nat) : Int) % 4294967296) = (((x &&& m) * 2 ^ s % 2 ^ 32 : Nat) : Int) by simp, u32_or_nat _ _ h2 h3]
  rfl
theorem last_walk (x : Nat) (hx : x < 4294967296) : bits .or .u32 ((x : Int) / 65536) ((x : Int) * 65536 % 4294967296) = (sw 16 m16 x : Nat) := by
  have h1 : x / 65536 < 65536 := by omega
  rw [show ((x : Int) / 65536) = ((x / 65536 : Nat) : Int) by simp, show ((x : Int) * 65536 % 4294967296) = ((x * 65536 % 4294967296 : Nat) : Int) by simp, u32_or_nat _ _ (by omega) (by omega)]
  unfold sw m16
  rw [show (65535 : Nat) = 2 ^ 16 - 1 from rfl, Nat.and_two_pow_sub_one_eq_mod, Nat.and_two_pow_sub_one_eq_mod, show x / 2 ^ 16 % 2 ^ 16 = x / 65536 from Nat.mod_eq_of_lt h1,
    show x % 2 ^ 16 * 2 ^ 16 % 2 ^ 32 = x * 65536 % 4294967296 by omega]

theorem revb_any (x : Nat) (hx : x < 4294967296) (w : World) :
    Calls Try.prog 117 #[.int .u32 x] w fun e w' => e = .returned (.int .u32 (sw 16 m16 (sw 8 m8 x) : Nat)) ∧ w = w' := by
  have H1 := Lib.hid (sw_walk 8 m8 256 rfl x hx (by decide))
  have H2 := Lib.hid (last_walk (sw 8 m8 x) (sw_lt _ _ _ (by decide)))
  go_enter Try.func117, Try.ntmps117
  go_wp2
  go_ret
  refine ⟨ret_eq ?_, rfl⟩
  have h1 := H1.out
  have h2 := H2.out
  rw [← h1] at h2
  exact h2
theorem rev_any (x : Nat) (hx : x < 4294967296) (w : World) :
    Calls Try.prog 105 #[.int .u32 x] w fun e w' => e = .returned (.int .u32 (rev x 32 : Nat)) ∧ w = w' := by
  have H1 := Lib.hid (sw_walk 1 m1 2 rfl x hx (by decide))
  have H2 := Lib.hid (sw_walk 2 m2 4 rfl (sw 1 m1 x) (sw_lt _ _ _ (by decide)) (by decide))
  have H4 := Lib.hid (sw_walk 4 m4 16 rfl (sw 2 m2 (sw 1 m1 x)) (sw_lt _ _ _ (by decide)) (by decide))
  have HR := Lib.hid (fun w => revb_any (sw 4 m4 (sw 2 m2 (sw 1 m1 x))) (sw_lt _ _ _ (by decide)) w)
  have HW : Hid (sw 16 m16 (sw 8 m8 (sw 4 m4 (sw 2 m2 (sw 1 m1 x)))) = rev x 32) := whole_rev x
  have h1 := H1.out
  have h2 := H2.out
  have h4 := H4.out
  rw [← h1] at h2
  rw [← h2] at h4
  have HH := Lib.hid h4
  have HWl := Lib.hid (rev_lt x 32)
  clear h1 h2 h4
  go_enter Try.func105, Try.ntmps105
  go_wp2_with fail
  have h4 := HH.out
  simp only [m1, m2, m4, show ((2 : Nat) : Int) = 2 from rfl, show ((4 : Nat) : Int) = 4 from rfl, show ((16 : Nat) : Int) = 16 from rfl, show ((1431655765 : Nat) : Int) = 1431655765 from rfl, show ((858993459 : Nat) : Int) = 858993459 from rfl, show ((252645135 : Nat) : Int) = 252645135 from rfl] at h4
  rw [h4]
  refine (HR.out w).mono ?_; rintro e w' ⟨rfl, rfl⟩
  rw [HW.out]
  go_wp2_with fail
  go_ret
  exact ⟨rfl, rfl⟩

/-- What Turn answers. -/
def turnN (v : Nat) (n : Int) : Nat := if 1 ≤ n ∧ n ≤ 32 then rev v n.toNat else 0
theorem rev_div (v : Nat) : ∀ d n, rev v (n + d) / 2 ^ d = rev v n
  | 0, n => by simp
  | d + 1, n => by
    rw [← Nat.add_assoc, rev, Nat.pow_succ', ← Nat.div_div_eq_div_mul, show (rev v (n + d) * 2 + v / 2 ^ (n + d) % 2) / 2 = rev v (n + d) by omega, rev_div v d n]
theorem turn_ok (v n : Nat) (hv : v < 4294967296) (h1 : 1 ≤ n) (h2 : n ≤ 32) (w : World) :
    Calls Try.prog 87 #[.int .u32 v, .int .i64 n] w fun e w' => e = .returned (.int .u32 (rev v n : Nat)) ∧ w = w' := by
  have HR := Lib.hid (fun w => rev_any v hv w)
  have HD : Hid (rev v 32 / 2 ^ (32 - n) = rev v n) := by
    have := rev_div v (32 - n) n
    rw [show n + (32 - n) = 32 by omega] at this
    exact this
  have hl : rev v 32 < 4294967296 := rev_lt v 32
  generalize rev v 32 = q at *
  have hd : ((32 : Int) - n) = ((32 - n : Nat) : Int) := by omega
  go_enter Try.func87, Try.ntmps87
  go_wp2_with (go_at_call 105; refine (HR.out _).mono ?_; rintro e w' ⟨rfl, rfl⟩)
  go_ret
  refine ⟨ret_eq ?_, rfl⟩
  rw [← HD.out]
  simp
theorem turn_no (v n : Int) (h : ¬ (1 ≤ n ∧ n ≤ 32)) (w : World) :
    Calls Try.prog 87 #[.int .u32 v, .int .i64 n] w fun e w' => e = .returned (.int .u32 0) ∧ w = w' := by
  by_cases h1 : n < 1
  · go_enter Try.func87, Try.ntmps87
    go_wp2
    go_ret
    exact ⟨rfl, rfl⟩
  · have h2 : 32 < n := by omega
    clear h
    go_enter Try.func87, Try.ntmps87
    go_wp2
    go_ret
    exact ⟨rfl, rfl⟩
theorem turn_any (v : Nat) (n : Int) (hv : v < 4294967296) (w : World) :
    Calls Try.prog 87 #[.int .u32 v, .int .i64 n] w fun e w' => e = .returned (.int .u32 (turnN v n : Nat)) ∧ w = w' := by
  by_cases h : 1 ≤ n ∧ n ≤ 32
  · obtain ⟨m, rfl⟩ := Int.eq_ofNat_of_zero_le (show 0 ≤ n by omega)
    rw [show turnN v (m : Nat) = rev v m from if_pos h]
    exact turn_ok v m hv (by omega) (by omega) w
  · rw [show turnN v n = 0 from if_neg h]
    exact turn_no v n h w

end Go.Proofs.Ytfhbkidceombbaa
