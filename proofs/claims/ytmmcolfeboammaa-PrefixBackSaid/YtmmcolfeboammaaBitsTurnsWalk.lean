/-
  The walk of BitsTurns: it returns true, whatever the bits, the count and the place.
-/
import Derived.Test.YtmmcolfeboammaaBitsN
namespace Go.Proofs.Ytmmcolfeboammaa
open Go.RowKit Go.Joins

theorem rev_rev (v n : Nat) : rev (rev v n) n = v % 2 ^ n := by
  apply Nat.eq_of_testBit_eq
  intro i
  rw [rev_bit, rev_bit, Nat.testBit_mod_two_pow]
  by_cases h : i < n
  · rw [show n - 1 - (n - 1 - i) = i by omega]
    simp [h, show n - 1 - i < n by omega]
  · simp [h]
theorem rev_at (v n k : Nat) (h : k < n) : rev v n / 2 ^ k % 2 = v / 2 ^ (n - 1 - k) % 2 := by
  have hb := rev_bit v n k
  rw [Nat.testBit_eq_decide_div_mod_eq, Nat.testBit_eq_decide_div_mod_eq] at hb
  simp only [h, decide_true, Bool.true_and] at hb
  have := decide_eq_decide.mp hb
  omega

set_option maxHeartbeats 1000000 in
theorem bitsTurns_in (v n at_ : Nat) (hv : v < 4294967296) (h1 : 1 ≤ n) (h2 : n ≤ 32) (ha : at_ < 256) (w : World) :
    Calls Try.prog 6 #[.int .u32 v, .int .i64 n, .int .u8 at_] w fun e w' => e = .returned (.bool true) ∧ Below w.heap.size w w' := by
  have hk : ((at_ : Int)).tmod (n : Int) = ((at_ % n : Nat) : Int) := by rw [Int.tmod_eq_emod_of_nonneg (by omega)]; rfl
  have hkn : at_ % n < n := Nat.mod_lt _ (by omega)
  have HT1 := Lib.hid (fun w => turn_ok v n hv h1 h2 w)
  have hl1 : rev v n < 4294967296 := Nat.lt_of_lt_of_le (rev_lt v n) (Nat.pow_le_pow_right (n := 2) (by omega) h2)
  have HT2 := Lib.hid (fun w => turn_ok (rev v n) n hl1 h1 h2 w)
  rw [rev_rev] at HT2
  have hM := mask_walk v n (by omega) h2
  have hE := rev_at v n (at_ % n) hkn
  have hj : ((n : Int) - 1 - ((at_ % n : Nat) : Int)) = ((n - 1 - at_ % n : Nat) : Int) := by omega
  have hml : v % 2 ^ n < 4294967296 := Nat.lt_of_le_of_lt (Nat.mod_le _ _) hv
  generalize at_ % n = k at *
  generalize rev v n = q at *
  generalize v % 2 ^ n = m at *
  generalize n - 1 - k = j at *
  have hm32 : (m : Int) % 4294967296 = m := by omega
  have hq2 : bits .and .u32 ((q : Int) / 2 ^ k) 1 = bits .and .u32 ((v : Int) / 2 ^ j) 1 := by
    have e1 : ((q : Int) / 2 ^ k) = ((q / 2 ^ k : Nat) : Int) := by simp
    have e2 : ((v : Int) / 2 ^ j) = ((v / 2 ^ j : Nat) : Int) := by simp
    have hy : ∀ y : Nat, y < 4294967296 → bits .and .u32 (y : Int) 1 = ((y % 2 : Nat) : Int) := fun y hy => by
      have := u32_and_nat y 1 hy (by omega)
      rw [Nat.and_one_is_mod] at this
      exact this
    rw [e1, e2, hy _ (Nat.lt_of_le_of_lt (Nat.div_le_self _ _) hl1), hy _ (Nat.lt_of_le_of_lt (Nat.div_le_self _ _) hv), hE]
  clear hE
  go_enter Try.func6, Try.ntmps6
  go_wp2_with (go_at_call 12; refine (awake3_any _).mono ?_; rintro e w1 ⟨rfl, hb1⟩)
  have HB := Lib.hid hb1
  clear hb1
  have hwv : IntKind.u64.wrap (v : Int) = v := by rw [IntKind.wrap_u64]; omega
  refine wp_region_quiet_lit (by kernel_rfl) (by kernel_rfl) ?_
  iterate 4 go_big_quiet_step ((go_at_call 35; exact Calls.quiet_of_same ((HT1.out _).mono fun _ _ h => ⟨h.1, h.2.symm⟩)))
  go_big_quiet_step ((go_at_call 35; exact Calls.quiet_of_same ((HT2.out _).mono fun _ _ h => ⟨h.1, h.2.symm⟩)))
  repeat go_big_quiet_step ((go_at_call 35; exact Calls.quiet_of_same ((HT1.out _).mono fun _ _ h => ⟨h.1, h.2.symm⟩)))
  refine wpQuiet_nil ?_
  intro _ hw'
  obtain ⟨nq, hw''⟩ := hw'
  subst hw''
  go_wp2
  go_ret
  exact ⟨rfl, below_drewN HB.out nq⟩
theorem bitsTurns_out (v n at_ : Int) (h : ¬ (1 ≤ n ∧ n ≤ 32)) (w : World) :
    Calls Try.prog 6 #[.int .u32 v, .int .i64 n, .int .u8 at_] w fun e w' => e = .returned (.bool true) ∧ Below w.heap.size w w' := by
  have HT := Lib.hid (fun w => turn_no v n h w)
  by_cases h1 : n < 1
  · clear h
    go_enter Try.func6, Try.ntmps6
    go_wp2_with (first | (go_at_call 12; refine (awake3_any _).mono ?_; rintro e w1 ⟨rfl, hb1⟩) | (go_at_call 35; refine (HT.out _).mono ?_; rintro e w2 ⟨rfl, rfl⟩))
    go_ret
    exact ⟨rfl, hb1⟩
  · have h2 : 32 < n := by omega
    clear h
    go_enter Try.func6, Try.ntmps6
    go_wp2_with (first | (go_at_call 12; refine (awake3_any _).mono ?_; rintro e w1 ⟨rfl, hb1⟩) | (go_at_call 35; refine (HT.out _).mono ?_; rintro e w2 ⟨rfl, rfl⟩))
    go_ret
    exact ⟨rfl, hb1⟩

theorem bitsTurns_walk (a0 : Int) (a1 : Int) (a2 : Int) (w0 : (Lit.int .u32 a0).wf = true) (w1 : (Lit.int .i64 a1).wf = true) (w2 : (Lit.int .u8 a2).wf = true) (w : World) :
    Calls Try.prog 6 #[.int .u32 a0, .int .i64 a1, .int .u8 a2] w fun e w' => e = .returned (.bool true) ∧ Below w.heap.size w w' := by
  by_cases h : 1 ≤ a1 ∧ a1 ≤ 32
  · obtain ⟨v, rfl, hv⟩ := nat_u32 w0
    obtain ⟨k, rfl, hk⟩ := nat_u8 w2
    obtain ⟨n, rfl⟩ := Int.eq_ofNat_of_zero_le (show 0 ≤ a1 by omega)
    exact bitsTurns_in v n k hv (by omega) (by omega) hk w
  · exact bitsTurns_out a0 a1 a2 h w
end Go.Proofs.Ytmmcolfeboammaa
