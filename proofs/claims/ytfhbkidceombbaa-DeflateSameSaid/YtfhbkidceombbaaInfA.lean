/-
  Contracts: the numbers that stand behind signs; what is read of a stream.
-/
import Derived.Test.YtfhbkidceombbaaInfM
import Derived.Test.YtfhbkidceombbaaPreP
namespace Go.Proofs.Ytfhbkidceombbaa
set_option maxRecDepth 100000
open Go.RowKit Go.Deep Go.Joins

theorem ret2_eq {a b c d : Int} {k l : IntKind} (h : a = c) (h' : b = d) : Ending.returned (.tuple #[.int k a, .int l b]) = .returned (.tuple #[.int k c, .int l d]) := by rw [h, h']
theorem climb_walk (x many q p pm d : Nat) (hq : (x : Int).tdiv (many : Int) = (q : Int)) (hp : q - 1 = p) (hx : x ≤ 1000) (hq1 : q ≤ 1000) (hm : p ≤ 13) (hmany : 2 ≤ many ∧ many ≤ 4) (hpm : p * many = pm) (hpl : pm ≤ x) (hd : x - pm = d) (hd8 : d < 8) (w : World) :
    Calls Try.prog 83 #[.int .i64 x, .int .i64 many] w fun r w' => r = .returned (.tuple #[.int .i64 ((d * 2 ^ p : Nat) : Int), .int .i64 (p : Nat)]) ∧ w = w' := by
  have hmm2 : wrap64 (((p : Nat) : Int) * (many : Int)) = (pm : Int) := by
    rw [show ((p : Int) * (many : Int)) = ((p * many : Nat) : Int) by simp, hpm]
    unfold wrap64
    omega
  have h13 : (2 : Nat) ^ p ≤ 2 ^ 13 := Nat.pow_le_pow_right (by omega) hm
  have hdp : d * 2 ^ p ≤ 8 * 2 ^ 13 := Nat.mul_le_mul (by omega) h13
  have hw : wrap64 ((d : Int) * 2 ^ p) = ((d * 2 ^ p : Nat) : Int) := by
    rw [show ((d : Int) * 2 ^ p) = ((d * 2 ^ p : Nat) : Int) by simp]
    unfold wrap64
    omega
  have HW := Lib.hid hw
  obtain ⟨hma, hmb⟩ := hmany
  have hz : ¬ ((many : Int) = 0) := by omega
  have hne : ((many : Int) == 0) = false := by rw [beq_eq_false_iff_ne]; omega
  have hd2 : (x : Int) - (pm : Int) = (d : Int) := by omega
  have hw0 : d * 2 ^ p ≤ 65536 := hdp
  generalize hyy : d * 2 ^ p = y at *
  have HYY := Lib.hid hyy
  cases q with
  | zero =>
    obtain rfl : p = 0 := by omega
    obtain rfl : pm = 0 := by omega
    obtain rfl : x = d := by omega
    rw [Nat.pow_zero, Nat.mul_one] at hyy
    subst hyy
    clear HW hw h13 hdp hd hd2 hp hpm hmm2 HYY
    go_enter Try.func83, Try.ntmps83
    go_wp2
    go_ret2
    exact ⟨rfl, rfl⟩
  | succ q =>
    obtain rfl : q = p := by omega
    have hq2 : (x : Int).tdiv (many : Int) = (q : Int) + 1 := by rw [hq]; simp
    clear hw h13 hdp hd hp hpm hq hyy
    go_enter Try.func83, Try.ntmps83
    go_wp2
    go_ret2
    exact ⟨ret2_eq HW.out rfl, rfl⟩
theorem climb_any (x many : Nat) (hx : x ≤ 1000) (h2 : many = 2 ∨ many = 4) (hm : x / many - 1 ≤ 13) (w : World) :
    Calls Try.prog 83 #[.int .i64 x, .int .i64 many] w fun r w' => r = .returned (.tuple #[.int .i64 ((climbN x many).1 : Nat), .int .i64 ((climbN x many).2 : Nat)]) ∧ w = w' := by
  refine climb_walk x many (x / many) (x / many - 1) ((x / many - 1) * many) _ ?_ rfl hx (Nat.le_trans (Nat.div_le_self _ _) hx) hm (by omega) rfl ?_ rfl ?_ w
  · rw [Int.tdiv_eq_ediv_of_nonneg (by omega)]; simp
  · exact Nat.le_trans (Nat.mul_le_mul_right _ (Nat.sub_le _ _)) (Nat.div_mul_le_self x many)
  · rcases h2 with rfl | rfl <;> omega

theorem lengths_any (x : Int) (w : World) :
    Calls Try.prog 52 #[.int .i64 x] w fun r w' => r = .returned (.tuple #[.int .i64 ((lenOf x.toNat).1 : Nat), .int .i64 ((lenOf x.toNat).2 : Nat)]) ∧ w = w' := by
  by_cases h0 : x < 257
  · have HL : Hid (lenOf x.toNat = (0, 0)) := by show _ = _; unfold lenOf; rw [if_pos (by omega)]
    go_enter Try.func52, Try.ntmps52
    go_wp2
    go_ret2
    rw [HL.out]
    exact ⟨rfl, rfl⟩
  · by_cases h1 : 285 < x
    · have HL : Hid (lenOf x.toNat = (0, 0)) := by show _ = _; unfold lenOf; rw [if_pos (by omega)]
      go_enter Try.func52, Try.ntmps52
      go_wp2
      go_ret2
      rw [HL.out]
      exact ⟨rfl, rfl⟩
    · by_cases h2 : x = 285
      · subst h2
        go_enter Try.func52, Try.ntmps52
        go_wp2
        go_ret2
        exact ⟨rfl, rfl⟩
      · obtain ⟨n, rfl⟩ : ∃ n : Nat, x = (n : Int) + 257 := ⟨(x - 257).toNat, by omega⟩
        have hn : n ≤ 27 := by omega
        have HL : Hid (lenOf ((n : Int) + 257).toNat = (3 + (climbN n 4).1, (climbN n 4).2)) := by
          show _ = _
          unfold lenOf
          rw [if_neg (by omega), if_neg (by omega), show ((n : Int) + 257).toNat - 257 = n by omega]
        have HC := Lib.hid (climb_any n 4 (by omega) (.inr rfl) (by omega))
        have hb : (climbN n 4).1 ≤ 1000 := by
          have : ∀ m, m ≤ 27 → (climbN m 4).1 ≤ 1000 := by decide
          exact this n hn
        have hne : ((n : Int) + 257 == 285) = false := by rw [beq_eq_false_iff_ne]; omega
        generalize (climbN n 4).1 = c1 at *
        generalize (climbN n 4).2 = c2 at *
        clear h2
        go_enter Try.func52, Try.ntmps52
        go_wp2_with (go_at_call 83; refine (HC.out _).mono ?_; rintro r w' ⟨rfl, rfl⟩)
        go_ret2
        rw [HL.out]
        exact ⟨ret2_eq (by simp) rfl, rfl⟩
theorem distances_any (x : Int) (w : World) :
    Calls Try.prog 53 #[.int .i64 x] w fun r w' => r = .returned (.tuple #[.int .i64 ((if x < 0 then 0 else (distOf x.toNat).1 : Nat) : Int), .int .i64 ((if x < 0 then 0 else (distOf x.toNat).2 : Nat) : Int)]) ∧ w = w' := by
  by_cases h0 : x < 0
  · rw [if_pos h0, if_pos h0]
    go_enter Try.func53, Try.ntmps53
    go_wp2
    go_ret2
    exact ⟨rfl, rfl⟩
  · rw [if_neg h0, if_neg h0]
    obtain ⟨n, rfl⟩ := Int.eq_ofNat_of_zero_le (show 0 ≤ x by omega)
    rw [Int.toNat_natCast]
    by_cases h1 : 29 < n
    · have HL : Hid (distOf n = (0, 0)) := if_pos h1
      go_enter Try.func53, Try.ntmps53
      go_wp2
      go_ret2
      rw [HL.out]
      exact ⟨rfl, rfl⟩
    · have HL : Hid (distOf n = (1 + (climbN n 2).1, (climbN n 2).2)) := if_neg h1
      have HC := Lib.hid (climb_any n 2 (by omega) (.inl rfl) (by omega))
      have hb : (climbN n 2).1 ≤ 32768 := by
        have : ∀ m, m ≤ 29 → (climbN m 2).1 ≤ 32768 := by decide
        exact this n (by omega)
      generalize (climbN n 2).1 = c1 at *
      generalize (climbN n 2).2 = c2 at *
      clear h0
      go_enter Try.func53, Try.ntmps53
      go_wp2_with (go_at_call 83; refine (HC.out _).mono ?_; rintro r w' ⟨rfl, rfl⟩)
      go_ret2
      rw [HL.out]
      exact ⟨ret2_eq (by simp) rfl, rfl⟩
theorem len_bound (x : Nat) : (lenOf x).1 ≤ 258 ∧ (lenOf x).2 ≤ 5 := by
  unfold lenOf
  split
  · decide
  · split
    · decide
    · have : ∀ m, m ≤ 27 → 3 + (climbN m 4).1 ≤ 258 ∧ (climbN m 4).2 ≤ 5 := by decide
      exact this (x - 257) (by omega)
theorem dist_bound (x : Nat) : (distOf x).1 ≤ 32768 ∧ (distOf x).2 ≤ 13 := by
  unfold distOf
  split
  · decide
  · have : ∀ m, m ≤ 29 → 1 + (climbN m 2).1 ≤ 32768 ∧ (climbN m 2).2 ≤ 13 := by decide
    exact this x (by omega)

/-! What is read. -/
theorem blk_ne {w : World} {g h : Nat} {cs cs' : Array Value} {T T' : TypeId} {f f' : Nat × Nat} (hg : w.heap[g]? = some (.cells cs T f)) (hh : w.heap[h]? = some (.cells cs' T' f')) (hT : T ≠ T') : g ≠ h := by
  rintro rfl
  rw [hg] at hh
  simp at hh
  exact hT hh.2.1
/-- The bits of a text. -/
def srcOf (s : ByteArray) (lim : Nat) : Src := ⟨num s, 8 * s.size, lim⟩
end Go.Proofs.Ytfhbkidceombbaa
