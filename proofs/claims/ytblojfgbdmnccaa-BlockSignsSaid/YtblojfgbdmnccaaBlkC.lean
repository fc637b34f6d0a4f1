/-
  Contracts: the document's signs of lengths and of distances.
-/
import Derived.Test.YtblojfgbdmnccaaBlkB
namespace Go.Proofs.Ytblojfgbdmnccaa
set_option maxRecDepth 100000
open Go.RowKit Go.Deep Go.Joins

theorem len_of (k : Nat) (hk : k < 285) (h : 257 ≤ k) : lenOf k = (lbN k, lmN k) := (lb_step k hk h).2.2.2.2.2
theorem lb_mono (j k : Nat) (h : j ≤ k) (hj : 257 ≤ j) (hk : k ≤ 285) : lbN j ≤ lbN k := by
  induction k with
  | zero => omega
  | succ k ih =>
    by_cases e : j = k + 1
    · subst e; exact Nat.le_refl _
    · have := ih (by omega) (by omega)
      have h2 := (lb_step k (by omega) (by omega)).1
      have := Nat.one_le_two_pow (n := lmN k)
      omega
set_option maxHeartbeats 8000000 in
theorem rlen_any (n : Int) (w : World) : Calls Try.prog 37 #[.int .i64 n] w fun e w' => e = .returned (.tuple #[.int .i64 (lenT n).1, .int .i64 (lenT n).2.1, .int .u32 (lenT n).2.2]) ∧ w = w' := by
  by_cases h258 : n = 258
  · subst h258
    have hT : lenT 258 = (285, 0, 0) := by decide +kernel
    rw [hT]
    go_enter Try.func37, Try.ntmps37
    go_wp2
    go_ret3
    exact ⟨rfl, rfl⟩
  · have g0 : (n == 258) = false := by rw [beq_eq_false_iff_ne]; exact h258
    by_cases h : 3 ≤ n ∧ n ≤ 258
    · obtain ⟨N, rfl⟩ : ∃ m : Nat, n = (m : Nat) := ⟨n.toNat, by omega⟩
      obtain ⟨q1, q2, q3, q4, q5⟩ := lsg_ok N (by omega) (by omega)
      have hs284 : lsg N ≤ 284 := by
        have : ¬ lsg N = 285 := by rw [q5]; omega
        omega
      have HANSW : Hid (lenT N = (((lsg N : Nat) : Int), (((lenOf (lsg N)).2 : Nat) : Int), ((N - (lenOf (lsg N)).1 : Nat) : Int))) := lenT_in N (by omega)
      have HBA := Lib.hid (fun k : Nat => fun W => base_any (k : Nat) W)
      have gg1 : decide ((N : Int) < 3) = false := decide_eq_false (by omega)
      have gg2 : decide ((258 : Int) < (N : Int)) = false := decide_eq_false (by omega)
      have gg3 : decide (258 < N) = false := decide_eq_false (by omega)
      have gg4 : decide (N < 3) = false := decide_eq_false (by omega)
      have hNb : N ≤ 258 := by omega
      have HQ : Hid (257 ≤ lsg N ∧ (lenOf (lsg N)).1 ≤ N ∧ N < (lenOf (lsg N)).1 + 2 ^ (lenOf (lsg N)).2) := ⟨q1, q3, q4⟩
      generalize hSG : lsg N = SG at *
      clear hSG q1 q3 q4 q5 h h258 q2
      go_enter Try.func37, Try.ntmps37
      go_wp2_with fail
      go_loop [5] (fun sg => ∃ k : Nat, 257 ≤ k ∧ k ≤ SG ∧ sg = .int .i64 (k : Nat)) (fun sg => 300 - (intOf sg).toNat)
      case atStart => exact ⟨257, Nat.le_refl _, HQ.out.1, rfl⟩
      case round =>
      obtain ⟨k, hk1, hk2, rfl⟩ := hrel
      have hlo := len_of k (by omega) hk1
      have hst := lb_step k (by omega) hk1
      have hb := HBA.out k
      simp only [Int.toNat_natCast] at hb
      rw [hlo] at hb
      have HB := Lib.hid hb
      have HNX : Hid (lbN (k + 1) = lbN k + 2 ^ lmN k) := hst.1
      have HHIT : Hid (k = SG → lbN k ≤ N ∧ N < lbN (k + 1)) := fun e => by
        subst e
        have h := HQ.out.2
        rw [hlo] at h
        have := HNX.out
        exact ⟨h.1, by rw [this]; exact h.2⟩
      have HMISS : Hid (k ≠ SG → lbN (k + 1) ≤ N) := fun e => by
        have h := HQ.out.2.1
        rw [len_of SG (by omega) HQ.out.1] at h
        exact Nat.le_trans (lb_mono (k + 1) SG (by omega) (by omega) (by omega)) h
      have HANS : Hid (k = SG → lenT N = (((SG : Nat) : Int), ((lmN k : Nat) : Int), ((N - lbN k : Nat) : Int))) := fun e => by
        rw [HANSW.out, ← e, hlo]
      have hM13 : lmN k ≤ 13 := by omega
      have hLb : lbN k ≤ 300 := hst.2.2.1
      have hNXm : lbN k ≤ lbN (k + 1) := by
        have hp := Nat.one_le_two_pow (n := lmN k)
        have h := HNX.out
        omega
      clear hb hlo hst
      generalize hNX : lbN (k + 1) = NX at *
      generalize lbN k = L at *
      generalize lmN k = M at *
      clear hNX
      go_wp2_with fail
      refine (HB.out _).mono ?_; rintro e w1 ⟨rfl, rfl⟩
      go_wp2_with fail
      -- the doubling
      go_loop [8, 9] (fun a i => ∃ c p : Nat, c ≤ M ∧ a = .int .i64 (p : Nat) ∧ i = .int .i64 (c : Nat) ∧ Hid (p = 2 ^ c)) (fun _ i => M - (intOf i).toNat)
      case atStart => exact ⟨0, 1, Nat.zero_le _, rfl, rfl, rfl⟩
      case round =>
        obtain ⟨c, p, hc, rfl, rfl, HPW⟩ := hrel
        by_cases hcM : c < M
        · have hpb : p ≤ 8192 := by
            rw [HPW.out]
            have : 2 ^ c ≤ 2 ^ 13 := Nat.pow_le_pow_right (by omega) (by omega)
            omega
          have HP2 : Hid (p * 2 = 2 ^ (c + 1)) := by show p * 2 = _; rw [Nat.pow_succ, ← HPW.out]
          go_wp2_with fail
          go_round
          case rel => exact ⟨c + 1, p * 2, by omega, by go_num, by go_num, HP2⟩
          case measure => simp [intOf]; omega
        · obtain rfl : c = M := by omega
          have hpb : p ≤ 8192 := by
            rw [HPW.out]
            have : 2 ^ c ≤ 2 ^ 13 := Nat.pow_le_pow_right (by omega) (by omega)
            omega
          have hpL : L + p = NX := by rw [HPW.out]; exact HNX.out.symm
          by_cases hit : k = SG
          · have g1 : decide ((L : Int) ≤ (N : Int)) = true := decide_eq_true (by have := (HHIT.out hit).1; omega)
            have g1' : decide (L ≤ N) = true := decide_eq_true (HHIT.out hit).1
            have g2 : decide ((N : Int) < (L : Int) + (p : Int)) = true := decide_eq_true (by have := (HHIT.out hit).2; omega)
            have hsub : ((N : Int) - (L : Int)) = ((N - L : Nat) : Int) := by have := (HHIT.out hit).1; omega
            have hw : IntKind.u32.wrap ((N - L : Nat) : Int) = ((N - L : Nat) : Int) := by rw [IntKind.wrap_u32]; omega
            have HMD : Hid (((N : Int) - (L : Int)) % 4294967296 = ((N - L : Nat) : Int)) := by show _ % _ = _; omega
            have HIT := Lib.hid hit
            have HAN := Lib.hid (HANS.out hit)
            clear hsub hit
            go_wp2
            all_goals
              go_ret3
              rw [HAN.out, ← HIT.out]
              refine ⟨?_, rfl⟩
              show Ending.returned (.tuple #[.int .i64 (k : Nat), .int .i64 (c : Nat), .int .u32 (((N : Int) - (L : Int)) % 4294967296)]) = _
              rw [HMD.out]
          · have hnx := HMISS.out hit
            have g1 : decide ((L : Int) ≤ (N : Int)) = true := decide_eq_true (by omega)
            have g1' : decide (L ≤ N) = true := decide_eq_true (by omega)
            have g2 : decide ((N : Int) < (L : Int) + (p : Int)) = false := decide_eq_false (by omega)
            go_wp2_with fail
            go_round
            case rel => exact ⟨k + 1, by omega, by omega, by go_num⟩
            case measure => simp [intOf]; omega
    · have hT : lenT n = (0, 0, 0) := if_neg h
      rw [hT]
      by_cases h3 : n < 3
      · have g1 : decide (n < 3) = true := decide_eq_true h3
        go_enter Try.func37, Try.ntmps37
        go_wp2
        go_ret3
        exact ⟨rfl, rfl⟩
      · have g1 : decide (n < 3) = false := decide_eq_false h3
        have g2 : decide (258 < n) = true := decide_eq_true (by omega)
        go_enter Try.func37, Try.ntmps37
        go_wp2
        go_ret3
        exact ⟨rfl, rfl⟩
set_option maxHeartbeats 8000000 in
theorem rdist_any (n : Int) (hn : -9223372036854775808 ≤ n ∧ n ≤ 9223372036854775807) (w : World) : Calls Try.prog 39 #[.int .i64 n] w fun e w' => e = .returned (.tuple #[.int .i64 (dstT n).1, .int .i64 (dstT n).2.1, .int .u32 (dstT n).2.2]) ∧ w = w' := by
  have HFA : Hid (∀ k : Nat, k < 30 → ∀ W : World, Calls Try.prog 73 #[.int .i64 (k : Nat)] W fun r w' => r = .returned (.tuple #[.int .i64 (fbN k : Nat), .int .i64 (fmN k : Nat)]) ∧ W = w') := fun k hk W => by
    have h := far_any (k : Nat) W
    rw [Int.toNat_natCast, if_neg (by omega), if_neg (by omega), dist_of k hk] at h
    exact h
  by_cases h : 1 ≤ n ∧ n ≤ 32768
  · obtain ⟨N, rfl⟩ : ∃ m : Nat, n = (m : Nat) := ⟨n.toNat, by omega⟩
    obtain ⟨q1, q2, q3⟩ := dsg_ok N (by omega) (by omega)
    have HANSW : Hid (dstT N = (((dsg N : Nat) : Int), (((distOf (dsg N)).2 : Nat) : Int), ((N - (distOf (dsg N)).1 : Nat) : Int))) := dstT_in N (by omega)
    have hNb : N ≤ 32768 := by omega
    have HQ : Hid (fbN (dsg N) ≤ N ∧ N < fbN (dsg N + 1)) := ⟨q2, q3⟩
    generalize hSG : dsg N = SG at *
    clear hSG q2 q3 h hn
    go_enter Try.func39, Try.ntmps39
    go_wp2_with fail
    go_loop [5] (fun sg => ∃ k : Nat, k ≤ SG ∧ sg = .int .i64 (k : Nat)) (fun sg => 300 - (intOf sg).toNat)
    case atStart => exact ⟨0, Nat.zero_le _, rfl⟩
    case round =>
      obtain ⟨k, hk2, rfl⟩ := hrel
      have hst := fb_step k (by omega)
      have HB := Lib.hid (HFA.out k (by omega))
      have HNX : Hid (fbN (k + 1) = fbN k + 2 ^ fmN k) := hst.1
      have HHIT : Hid (k = SG → fbN k ≤ N ∧ N < fbN (k + 1)) := fun e => by subst e; exact HQ.out
      have HMISS : Hid (k ≠ SG → fbN (k + 1) ≤ N) := fun e => Nat.le_trans (fb_le (k + 1) SG (by omega) (by omega)) HQ.out.1
      have HANS : Hid (k = SG → dstT N = (((SG : Nat) : Int), ((fmN k : Nat) : Int), ((N - fbN k : Nat) : Int))) := fun e => by
        rw [HANSW.out, ← e, dist_of k (by omega)]
      have hM13 : fmN k ≤ 13 := hst.2.1
      have hLb : fbN k ≤ 33000 := hst.2.2.1
      have hNXm : fbN k ≤ fbN (k + 1) := by
        have hp := Nat.one_le_two_pow (n := fmN k)
        have h := HNX.out
        omega
      clear hst
      generalize hNX : fbN (k + 1) = NX at *
      generalize fbN k = L at *
      generalize fmN k = M at *
      clear hNX
      go_wp2_with fail
      refine (HB.out _).mono ?_; rintro e w1 ⟨rfl, rfl⟩
      go_wp2_with fail
      -- the doubling
      go_loop [8, 9] (fun a i => ∃ c p : Nat, c ≤ M ∧ a = .int .i64 (p : Nat) ∧ i = .int .i64 (c : Nat) ∧ Hid (p = 2 ^ c)) (fun _ i => M - (intOf i).toNat)
      case atStart => exact ⟨0, 1, Nat.zero_le _, rfl, rfl, rfl⟩
      case round =>
        obtain ⟨c, p, hc, rfl, rfl, HPW⟩ := hrel
        by_cases hcM : c < M
        · have hpb : p ≤ 8192 := by
            rw [HPW.out]
            have : 2 ^ c ≤ 2 ^ 13 := Nat.pow_le_pow_right (by omega) (by omega)
            omega
          have HP2 : Hid (p * 2 = 2 ^ (c + 1)) := by show p * 2 = _; rw [Nat.pow_succ, ← HPW.out]
          go_wp2_with fail
          go_round
          case rel => exact ⟨c + 1, p * 2, by omega, by go_num, by go_num, HP2⟩
          case measure => simp [intOf]; omega
        · obtain rfl : c = M := by omega
          have hpb : p ≤ 8192 := by
            rw [HPW.out]
            have : 2 ^ c ≤ 2 ^ 13 := Nat.pow_le_pow_right (by omega) (by omega)
            omega
          have hpL : L + p = NX := by rw [HPW.out]; exact HNX.out.symm
          by_cases hit : k = SG
          · have g1 : decide ((L : Int) ≤ (N : Int)) = true := decide_eq_true (by have := (HHIT.out hit).1; omega)
            have g1' : decide (L ≤ N) = true := decide_eq_true (HHIT.out hit).1
            have g2 : decide ((N : Int) < (L : Int) + (p : Int)) = true := decide_eq_true (by have := (HHIT.out hit).2; omega)
            have hsub : ((N : Int) - (L : Int)) = ((N - L : Nat) : Int) := by have := (HHIT.out hit).1; omega
            have hw : IntKind.u32.wrap ((N - L : Nat) : Int) = ((N - L : Nat) : Int) := by rw [IntKind.wrap_u32]; omega
            have HMD : Hid (((N : Int) - (L : Int)) % 4294967296 = ((N - L : Nat) : Int)) := by show _ % _ = _; omega
            have HIT := Lib.hid hit
            have HAN := Lib.hid (HANS.out hit)
            clear hsub hit
            go_wp2
            all_goals
              go_ret3
              rw [HAN.out, ← HIT.out]
              refine ⟨?_, rfl⟩
              show Ending.returned (.tuple #[.int .i64 (k : Nat), .int .i64 (c : Nat), .int .u32 (((N : Int) - (L : Int)) % 4294967296)]) = _
              rw [HMD.out]
          · have hnx := HMISS.out hit
            have g1 : decide ((L : Int) ≤ (N : Int)) = true := decide_eq_true (by omega)
            have g1' : decide (L ≤ N) = true := decide_eq_true (by omega)
            have g2 : decide ((N : Int) < (L : Int) + (p : Int)) = false := decide_eq_false (by omega)
            go_wp2_with fail
            go_round
            case rel => exact ⟨k + 1, by omega, by go_num⟩
            case measure => simp [intOf]; omega
  · have hT : dstT n = (-1, 0, 0) := if_neg h
    rw [hT]
    have HOUT : Hid (n < 1 ∨ 32768 < n) := by show _ ∨ _; omega
    go_enter Try.func39, Try.ntmps39
    go_wp2_with fail
    go_loop [5] (fun sg => ∃ k : Nat, k ≤ 30 ∧ sg = .int .i64 (k : Nat)) (fun sg => 300 - (intOf sg).toNat)
    case atStart => exact ⟨0, Nat.zero_le _, rfl⟩
    case round =>
      obtain ⟨k, hk2, rfl⟩ := hrel
      by_cases hk30 : k < 30
      · have hst := fb_step k hk30
        have HB := Lib.hid (HFA.out k hk30)
        have h30 : fbN 30 = 32769 := by decide +kernel
        have h01 : fbN 0 = 1 := by decide +kernel
        have HNX : Hid (fbN (k + 1) = fbN k + 2 ^ fmN k) := hst.1
        have HLO : Hid (1 ≤ fbN k ∧ fbN (k + 1) ≤ 32769) := ⟨by have := fb_le 0 k (by omega) (by omega); omega, by have := fb_le (k + 1) 30 (by omega) (by omega); omega⟩
        have hM13 : fmN k ≤ 13 := hst.2.1
        have hLb : fbN k ≤ 33000 := hst.2.2.1
        clear hst h30 h01
        generalize hNX : fbN (k + 1) = NX at *
        generalize fbN k = L at *
        generalize fmN k = M at *
        clear hNX
        go_wp2_with fail
        refine (HB.out _).mono ?_; rintro e w1 ⟨rfl, rfl⟩
        go_wp2_with fail
        go_loop [8, 9] (fun a i => ∃ c p : Nat, c ≤ M ∧ a = .int .i64 (p : Nat) ∧ i = .int .i64 (c : Nat) ∧ Hid (p = 2 ^ c)) (fun _ i => M - (intOf i).toNat)
        case atStart => exact ⟨0, 1, Nat.zero_le _, rfl, rfl, rfl⟩
        case round =>
          obtain ⟨c, p, hc, rfl, rfl, HPW⟩ := hrel
          have hpb : p ≤ 8192 := by
            rw [HPW.out]
            have : 2 ^ c ≤ 2 ^ 13 := Nat.pow_le_pow_right (by omega) (by omega)
            omega
          by_cases hcM : c < M
          · have HP2 : Hid (p * 2 = 2 ^ (c + 1)) := by show p * 2 = _; rw [Nat.pow_succ, ← HPW.out]
            go_wp2_with fail
            go_round
            case rel => exact ⟨c + 1, p * 2, by omega, by go_num, by go_num, HP2⟩
            case measure => simp [intOf]; omega
          · obtain rfl : c = M := by omega
            have hpL : L + p = NX := by rw [HPW.out]; exact HNX.out.symm
            have hlo := HLO.out
            rcases HOUT.out with ho | ho
            · have g1 : decide ((L : Int) ≤ n) = false := decide_eq_false (by omega)
              go_wp2_with fail
              go_round
              case rel => exact ⟨k + 1, by omega, by go_num⟩
              case measure => simp [intOf]; omega
            · have g1 : decide ((L : Int) ≤ n) = true := decide_eq_true (by omega)
              have g2 : decide (n < (L : Int) + (p : Int)) = false := decide_eq_false (by omega)
              go_wp2_with fail
              go_round
              case rel => exact ⟨k + 1, by omega, by go_num⟩
              case measure => simp [intOf]; omega
      · go_wp2
        go_ret3
        exact ⟨rfl, rfl⟩
end Go.Proofs.Ytblojfgbdmnccaa
