/-
  Contracts: the document's lengths and distances.
-/
import Derived.Test.YtfhbkidceombbaaInfA
namespace Go.Proofs.Ytfhbkidceombbaa
set_option maxRecDepth 100000
open Go.RowKit Go.Deep Go.Joins

def lbN (k : Nat) : Nat := 3 + (climbN (k - 257) 4).1
def lmN (k : Nat) : Nat := (climbN (k - 257) 4).2
def fbN (k : Nat) : Nat := 1 + (climbN k 2).1
def fmN (k : Nat) : Nat := (climbN k 2).2
theorem lb_step : ∀ k, k < 285 → 257 ≤ k → lbN (k + 1) = lbN k + 2 ^ lmN k ∧ lmN k ≤ 5 ∧ lbN k ≤ 300 ∧ (265 ≤ k → (k - 261) / 4 = lmN k) ∧ (k < 265 → lmN k = 0) ∧ lenOf k = (lbN k, lmN k) := by decide +kernel
theorem fb_step : ∀ k, k < 30 → fbN (k + 1) = fbN k + 2 ^ fmN k ∧ fmN k ≤ 13 ∧ fbN k ≤ 33000 ∧ (4 ≤ k → k / 2 - 1 = fmN k) ∧ (k < 4 → fmN k = 0) ∧ distOf k = (fbN k, fmN k) := by decide +kernel

set_option maxHeartbeats 2000000 in
theorem base_any (x : Int) (w : World) :
    Calls Try.prog 72 #[.int .i64 x] w fun r w' => r = .returned (.tuple #[.int .i64 ((lenOf x.toNat).1 : Nat), .int .i64 ((lenOf x.toNat).2 : Nat)]) ∧ w = w' := by
  by_cases h285 : x = 285
  · subst h285
    go_enter Try.func72, Try.ntmps72
    go_wp2_with fail
    go_ret2
    exact ⟨rfl, rfl⟩
  generalize hG1 : (lenOf x.toNat).1 = G1
  generalize hG2 : (lenOf x.toNat).2 = G2
  have HG1 := Lib.hid hG1
  have HG2 := Lib.hid hG2
  clear hG1 hG2
  have h285b : (x == 285) = false := by rw [beq_eq_false_iff_ne]; exact h285
  have HZZ : Hid ((∀ j : Nat, 257 ≤ j → j < 285 → x ≠ j) → G1 = 0 ∧ G2 = 0) := fun h => by
    rw [← HG1.out, ← HG2.out]
    unfold lenOf
    rw [if_pos]
    · exact ⟨rfl, rfl⟩
    rcases Nat.lt_or_ge x.toNat 257 with h1 | h1
    · exact .inl h1
    · rcases Nat.lt_or_ge 285 x.toNat with h2 | h2
      · exact .inr h2
      · exact absurd (show x = (x.toNat : Nat) by omega) (h x.toNat h1 (by omega))
  clear h285
  go_enter Try.func72, Try.ntmps72
  go_wp2_with fail
  go_loop [4, 5] (fun t i => ∃ k : Nat, 257 ≤ k ∧ k ≤ 285 ∧ i = .int .i64 (k : Nat) ∧ t = .int .i64 (lbN k : Nat) ∧ ∀ j : Nat, 257 ≤ j → j < k → x ≠ j) (fun _ i => 285 - (intOf i).toNat)
  case atStart => exact ⟨257, by omega, by omega, rfl, rfl, fun j h1 h2 => by omega⟩
  case round =>
    obtain ⟨k, hk0, hk, rfl, rfl, hne⟩ := hrel
    have HNE := Lib.hid hne
    clear hne
    by_cases hlt : k < 285
    · obtain ⟨hs1, hs2, hs3, hs4, hs5, hs6⟩ := lb_step k hlt hk0
      have HS1 := Lib.hid hs1
      have HS6 := Lib.hid hs6
      have hge : 265 ≤ k → ((k : Int) - 261).tdiv 4 = (lmN k : Nat) := fun h => by
        have := hs4 h
        rw [Int.tdiv_eq_ediv_of_nonneg (by omega)]
        omega
      have hp2 : 2 ^ lmN k ≤ 2 ^ 5 := Nat.pow_le_pow_right (by omega) hs2
      have HP2 := Lib.hid hp2
      have HH : Hid ((k : Int) = x → G1 = lbN k ∧ G2 = lmN k) := fun h => by rw [← HG1.out, ← HG2.out, ← h, Int.toNat_natCast, HS6.out]; exact ⟨rfl, rfl⟩
      clear hs1 hs4 hs6 hp2
      generalize lbN k = b at *
      generalize lmN k = m at *
      by_cases hx : (k : Int) = x
      · obtain ⟨e1, e2⟩ := HH.out hx
        have E1 := Lib.hid e1
        have E2 := Lib.hid e2
        have hxb : ((k : Int) == x) = true := by rw [beq_iff_eq]; exact hx
        clear e1 e2 hx
        by_cases ht : 265 ≤ k
        · have hq := hge ht
          clear hge hs5
          go_wp2_with fail
          go_ret2
          rw [E1.out, E2.out]
          exact ⟨rfl, rfl⟩
        · have hm0 := hs5 (by omega)
          subst hm0
          clear hge hs5
          go_wp2_with fail
          go_ret2
          rw [E1.out, E2.out]
          exact ⟨rfl, rfl⟩
      · have hxb : ((k : Int) == x) = false := by rw [beq_eq_false_iff_ne]; exact hx
        have HNX : Hid (∀ j : Nat, 257 ≤ j → j < k + 1 → x ≠ j) := fun j h1 h2 => by
          by_cases e : j = k
          · subst e
            exact fun h => hx h.symm
          · exact HNE.out j h1 (by omega)
        clear hx
        by_cases ht : 265 ≤ k
        · have hq := hge ht
          clear hge hs5
          go_wp2_with fail
          go_loop [7, 8] (fun t i => ∃ j : Nat, j ≤ m ∧ i = .int .i64 (j : Nat) ∧ t = .int .i64 ((2 ^ j : Nat) : Int)) (fun _ i => m - (intOf i).toNat)
          case atStart => exact ⟨0, Nat.zero_le _, rfl, rfl⟩
          case round =>
            obtain ⟨j, hj, rfl, rfl⟩ := hrel
            have hpj : 2 ^ j ≤ 2 ^ 5 := Nat.pow_le_pow_right (by omega) (by omega)
            have HPJ : Hid (2 ^ (j + 1) = 2 ^ j * 2) := Nat.pow_succ ..
            by_cases hjm : j < m
            · generalize 2 ^ j = y at *
              go_wp2_with fail
              go_round
              case rel => exact ⟨j + 1, by omega, by go_num, by rw [HPJ.out]; go_num⟩
              case measure => simp [intOf]; omega
            · have HS1' : Hid (lbN (k + 1) = b + 2 ^ j) := by
                have e : j = m := by omega
                rw [e]
                exact HS1
              clear HPJ
              generalize 2 ^ j = y at *
              go_wp2_with fail
              go_round
              case rel => exact ⟨k + 1, by omega, by omega, by go_num, by rw [HS1'.out]; go_num, HNX.out⟩
              case measure => simp [intOf]; omega
        · have hm0 := hs5 (by omega)
          subst hm0
          clear hge hs5
          have HS1' : Hid (lbN (k + 1) = b + 1) := HS1.out
          go_wp2_with fail
          go_loop [7, 8] (fun t i => i = .int .i64 0 ∧ t = .int .i64 1) (fun _ _ => 0)
          case atStart => exact ⟨rfl, rfl⟩
          case round =>
            obtain ⟨rfl, rfl⟩ := hrel
            go_wp2_with fail
            go_round
            case rel => exact ⟨k + 1, by omega, by omega, by go_num, by rw [HS1'.out]; go_num, HNX.out⟩
            case measure => simp [intOf]; omega
    · obtain rfl : k = 285 := by omega
      go_wp2_with fail
      go_ret2
      rw [(HZZ.out HNE.out).1, (HZZ.out HNE.out).2]
      exact ⟨rfl, rfl⟩

set_option maxHeartbeats 2000000 in
theorem far_any (x : Int) (w : World) :
    Calls Try.prog 73 #[.int .i64 x] w fun r w' => r = .returned (.tuple #[.int .i64 ((if x < 0 then 0 else (distOf x.toNat).1 : Nat) : Int), .int .i64 ((if x < 0 then 0 else (distOf x.toNat).2 : Nat) : Int)]) ∧ w = w' := by
  generalize hG1 : (if x < 0 then 0 else (distOf x.toNat).1) = G1
  generalize hG2 : (if x < 0 then 0 else (distOf x.toNat).2) = G2
  have HG1 := Lib.hid hG1
  have HG2 := Lib.hid hG2
  clear hG1 hG2
  have HZZ : Hid ((∀ j : Nat, 0 ≤ j → j < 30 → x ≠ j) → G1 = 0 ∧ G2 = 0) := fun h => by
    rw [← HG1.out, ← HG2.out]
    by_cases h0 : x < 0
    · rw [if_pos h0, if_pos h0]
      exact ⟨rfl, rfl⟩
    · rw [if_neg h0, if_neg h0]
      have h29 : 29 < x.toNat := by
        rcases Nat.lt_or_ge 29 x.toNat with h1 | h1
        · exact h1
        · exact absurd (show x = (x.toNat : Nat) by omega) (h x.toNat (Nat.zero_le _) (by omega))
      unfold distOf
      rw [if_pos h29]
      exact ⟨rfl, rfl⟩
  go_enter Try.func73, Try.ntmps73
  go_wp2_with fail
  go_loop [4, 5] (fun t i => ∃ k : Nat, 0 ≤ k ∧ k ≤ 30 ∧ i = .int .i64 (k : Nat) ∧ t = .int .i64 (fbN k : Nat) ∧ ∀ j : Nat, 0 ≤ j → j < k → x ≠ j) (fun _ i => 30 - (intOf i).toNat)
  case atStart => exact ⟨0, by omega, by omega, rfl, rfl, fun j h1 h2 => by omega⟩
  case round =>
    obtain ⟨k, hk0, hk, rfl, rfl, hne⟩ := hrel
    have HNE := Lib.hid hne
    clear hne
    by_cases hlt : k < 30
    · obtain ⟨hs1, hs2, hs3, hs4, hs5, hs6⟩ := fb_step k hlt
      have HS1 := Lib.hid hs1
      have HS6 := Lib.hid hs6
      have hge : 4 ≤ k → (k : Int) / 2 - 1 = (fmN k : Nat) := fun h => by
        have := hs4 h
        omega
      have hp2 : 2 ^ fmN k ≤ 2 ^ 13 := Nat.pow_le_pow_right (by omega) hs2
      have HP2 := Lib.hid hp2
      have HH : Hid ((k : Int) = x → G1 = fbN k ∧ G2 = fmN k) := fun h => by rw [← HG1.out, ← HG2.out, ← h, if_neg (by omega), if_neg (by omega), Int.toNat_natCast, HS6.out]; exact ⟨rfl, rfl⟩
      clear hs1 hs4 hs6 hp2
      generalize fbN k = b at *
      generalize fmN k = m at *
      by_cases hx : (k : Int) = x
      · obtain ⟨e1, e2⟩ := HH.out hx
        have E1 := Lib.hid e1
        have E2 := Lib.hid e2
        have hxb : ((k : Int) == x) = true := by rw [beq_iff_eq]; exact hx
        clear e1 e2 hx
        by_cases ht : 4 ≤ k
        · have hq := hge ht
          clear hge hs5
          go_wp2_with fail
          go_ret2
          rw [E1.out, E2.out]
          exact ⟨rfl, rfl⟩
        · have hm0 := hs5 (by omega)
          subst hm0
          clear hge hs5
          go_wp2_with fail
          go_ret2
          rw [E1.out, E2.out]
          exact ⟨rfl, rfl⟩
      · have hxb : ((k : Int) == x) = false := by rw [beq_eq_false_iff_ne]; exact hx
        have HNX : Hid (∀ j : Nat, 0 ≤ j → j < k + 1 → x ≠ j) := fun j h1 h2 => by
          by_cases e : j = k
          · subst e
            exact fun h => hx h.symm
          · exact HNE.out j h1 (by omega)
        clear hx
        by_cases ht : 4 ≤ k
        · have hq := hge ht
          clear hge hs5
          go_wp2_with fail
          go_loop [7, 8] (fun t i => ∃ j : Nat, j ≤ m ∧ i = .int .i64 (j : Nat) ∧ t = .int .i64 ((2 ^ j : Nat) : Int)) (fun _ i => m - (intOf i).toNat)
          case atStart => exact ⟨0, Nat.zero_le _, rfl, rfl⟩
          case round =>
            obtain ⟨j, hj, rfl, rfl⟩ := hrel
            have hpj : 2 ^ j ≤ 2 ^ 13 := Nat.pow_le_pow_right (by omega) (by omega)
            have HPJ : Hid (2 ^ (j + 1) = 2 ^ j * 2) := Nat.pow_succ ..
            by_cases hjm : j < m
            · generalize 2 ^ j = y at *
              go_wp2_with fail
              go_round
              case rel => exact ⟨j + 1, by omega, by go_num, by rw [HPJ.out]; go_num⟩
              case measure => simp [intOf]; omega
            · have HS1' : Hid (fbN (k + 1) = b + 2 ^ j) := by
                have e : j = m := by omega
                rw [e]
                exact HS1
              clear HPJ
              generalize 2 ^ j = y at *
              go_wp2_with fail
              go_round
              case rel => exact ⟨k + 1, by omega, by omega, by go_num, by rw [HS1'.out]; go_num, HNX.out⟩
              case measure => simp [intOf]; omega
        · have hm0 := hs5 (by omega)
          subst hm0
          clear hge hs5
          have HS1' : Hid (fbN (k + 1) = b + 1) := HS1.out
          go_wp2_with fail
          go_loop [7, 8] (fun t i => i = .int .i64 0 ∧ t = .int .i64 1) (fun _ _ => 0)
          case atStart => exact ⟨rfl, rfl⟩
          case round =>
            obtain ⟨rfl, rfl⟩ := hrel
            go_wp2_with fail
            go_round
            case rel => exact ⟨k + 1, by omega, by omega, by go_num, by rw [HS1'.out]; go_num, HNX.out⟩
            case measure => simp [intOf]; omega
    · obtain rfl : k = 30 := by omega
      go_wp2_with fail
      go_ret2
      rw [(HZZ.out HNE.out).1, (HZZ.out HNE.out).2]
      exact ⟨rfl, rfl⟩

end Go.Proofs.Ytfhbkidceombbaa
