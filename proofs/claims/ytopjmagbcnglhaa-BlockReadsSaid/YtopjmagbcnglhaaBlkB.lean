/-
  Contracts: the signs of lengths and of distances.
-/
import Derived.Test.YtopjmagbcnglhaaPkBB
namespace Go.Proofs.Ytopjmagbcnglhaa
set_option maxRecDepth 100000
open Go.RowKit Go.Deep Go.Joins

/-- The last number, up to one, that is such. -/
def lastP (q : Nat → Bool) : Nat → Nat
  | 0 => 0
  | k + 1 => if q (k + 1) then k + 1 else lastP q k
theorem lastP_le (q : Nat → Bool) : ∀ m, lastP q m ≤ m
  | 0 => Nat.le_refl _
  | m + 1 => by rw [lastP]; split; exact Nat.le_refl _; have := lastP_le q m; omega
theorem lastP_no (q : Nat → Bool) : ∀ m j, lastP q m < j → j ≤ m → q j = false
  | 0, j, h, hj => by omega
  | m + 1, j, h, hj => by
    rw [lastP] at h
    split at h
    · omega
    · rename_i hq
      by_cases e : j = m + 1
      · subst e; simpa using hq
      · exact lastP_no q m j h (by omega)
theorem lastP_eq (q : Nat → Bool) (m k : Nat) (hk : k ≤ m) (hq : q k = true ∨ k = 0) (hn : ∀ j, k < j → j ≤ m → q j = false) : lastP q m = k := by
  induction m with
  | zero => rw [lastP]; omega
  | succ m ih =>
    rw [lastP]
    by_cases e : k = m + 1
    · subst e
      rcases hq with h | h
      · rw [if_pos h]
      · omega
    · rw [if_neg (by rw [hn (m + 1) (by omega) (by omega)]; decide)]
      exact ih (by omega) fun j h1 h2 => hn j h1 (by omega)
/-- The sign of a length that may be. -/
def lsg (n : Nat) : Nat := lastP (fun k => decide (257 ≤ k ∧ (lenOf k).1 ≤ n)) 285
def dsg (n : Nat) : Nat := lastP (fun k => decide ((distOf k).1 ≤ n)) 29
theorem lsg_ok : ∀ n, n < 259 → 3 ≤ n → 257 ≤ lsg n ∧ lsg n ≤ 285 ∧ (lenOf (lsg n)).1 ≤ n ∧ n < (lenOf (lsg n)).1 + 2 ^ (lenOf (lsg n)).2 ∧ ((lsg n = 285) = (n = 258)) := by decide +kernel
theorem fb_mono : ∀ k, k < 30 → fbN k < fbN (k + 1) := by decide +kernel
theorem fb_le (j k : Nat) (h : j ≤ k) (hk : k ≤ 30) : fbN j ≤ fbN k := by
  induction k with
  | zero => obtain rfl : j = 0 := by omega
            exact Nat.le_refl _
  | succ k ih =>
    by_cases e : j = k + 1
    · subst e; exact Nat.le_refl _
    · have := ih (by omega) (by omega); have := fb_mono k (by omega); omega
theorem dsg_ok (n : Nat) (h1 : 1 ≤ n) (h2 : n ≤ 32768) : dsg n ≤ 29 ∧ fbN (dsg n) ≤ n ∧ n < fbN (dsg n + 1) := by
  have hd : ∀ k, k < 30 → distOf k = (fbN k, fmN k) := fun k hk => (fb_step k hk).2.2.2.2.2
  have hle : dsg n ≤ 29 := lastP_le _ _
  have h30 : fbN 30 = 32769 := by decide +kernel
  have h0 : fbN 0 = 1 := by decide +kernel
  refine ⟨hle, ?_, ?_⟩
  · by_cases e : dsg n = 0
    · rw [e, h0]; exact h1
    · have : ∀ m, lastP (fun k => decide ((distOf k).1 ≤ n)) m ≠ 0 → (distOf (lastP (fun k => decide ((distOf k).1 ≤ n)) m)).1 ≤ n := fun m => by
        induction m with
        | zero => intro h; exact absurd rfl h
        | succ m ih =>
          intro h
          rw [lastP] at h ⊢
          split
          · rename_i hq; exact of_decide_eq_true hq
          · rename_i hq; rw [if_neg hq] at h; exact ih h
      have h3 := this 29 e
      rw [hd _ (by show dsg n < 30; omega)] at h3
      exact h3
  · by_cases e : dsg n = 29
    · rw [e, h30]; omega
    · have h3 := lastP_no (fun k => decide ((distOf k).1 ≤ n)) 29 (dsg n + 1) (Nat.lt_succ_self _) (by omega)
      have h4 := of_decide_eq_false h3
      rw [hd _ (by omega)] at h4
      simp only at h4
      omega

set_option maxHeartbeats 4000000 in
theorem within_len (n s0 k : Nat) (hk : k ≤ s0) (h1 : (lenOf k).1 ≤ n) (h2 : ∀ j, k < j → j ≤ s0 → n < (lenOf j).1) (hs : s0 ≤ 300) (hn : n ≤ 40000) (w : World) :
    Calls Try.prog 31 #[.int .i64 (n : Nat), .int .i64 (s0 : Nat), .func (.func 32) #[] #[]] w fun e w' => e = .returned (.tuple #[.int .i64 (k : Nat), .int .i64 ((lenOf k).2 : Nat), .int .u32 ((n - (lenOf k).1 : Nat) : Int)]) ∧ w = w' := by
  have HF : Hid (∀ x : Nat, ∀ W : World, Calls Try.prog 32 #[.int .i64 (x : Nat)] W fun e w' => e = .returned (.tuple #[.int .i64 ((lenOf x).1 : Nat), .int .i64 ((lenOf x).2 : Nat)]) ∧ W = w') := fun x W => by
    have h := lengths_any (x : Nat) W
    rw [Int.toNat_natCast] at h
    exact h
  have H2 := Lib.hid h2
  clear h2
  go_enter Try.func31, Try.ntmps31
  go_wp2_with fail
  refine (HF.out s0 _).mono ?_; rintro e w1 ⟨rfl, rfl⟩
  go_wp2_with fail
  go_loop [1, 9, 10] (fun sg l m => ∃ j : Nat, k ≤ j ∧ j ≤ s0 ∧ sg = .int .i64 (j : Nat) ∧ l = .int .i64 ((lenOf j).1 : Nat) ∧ m = .int .i64 ((lenOf j).2 : Nat)) (fun sg _ _ => (intOf sg).toNat)
  case atStart => exact ⟨s0, hk, Nat.le_refl _, rfl, rfl, rfl⟩
  case round =>
    obtain ⟨j, hkj, hjs, rfl, rfl, rfl⟩ := hrel
    by_cases e : j = k
    · subst e
      have g1 : decide ((n : Int) < ((lenOf j).1 : Int)) = false := decide_eq_false (by omega)
      have hsub : ((n : Int) - ((lenOf j).1 : Int)) = ((n - (lenOf j).1 : Nat) : Int) := by omega
      have hw : IntKind.u32.wrap ((n - (lenOf j).1 : Nat) : Int) = ((n - (lenOf j).1 : Nat) : Int) := by rw [IntKind.wrap_u32]; omega
      have hw2 : IntKind.i64.wrap ((n - (lenOf j).1 : Nat) : Int) = ((n - (lenOf j).1 : Nat) : Int) := by rw [IntKind.wrap_i64]; omega
      have HS := Lib.hid hsub
      go_wp2
      all_goals
        go_ret3
        rw [← HS.out]
        exact ⟨rfl, rfl⟩
    · have hlt := H2.out j (by omega) hjs
      have g1 : decide ((n : Int) < ((lenOf j).1 : Int)) = true := decide_eq_true (by omega)
      have g2 : decide (n < (lenOf j).1) = true := decide_eq_true hlt
      obtain ⟨i, hi, hi2⟩ : ∃ i : Nat, ((j : Int) - 1) = (i : Int) ∧ i = j - 1 := ⟨j - 1, by omega, rfl⟩
      have hwi : IntKind.i64.wrap (i : Int) = (i : Int) := by rw [IntKind.wrap_i64]; omega
      have hki : k ≤ i ∧ i ≤ s0 ∧ i < j := by omega
      clear hi2
      go_wp2_with fail
      refine (HF.out i _).mono ?_; rintro e w2 ⟨rfl, rfl⟩
      go_wp2_with fail
      go_round
      case rel => exact ⟨i, hki.1, hki.2.1, rfl, rfl, rfl⟩
      case measure => simp [intOf]; omega
set_option maxHeartbeats 4000000 in
theorem within_dist (n s0 k : Nat) (hk : k ≤ s0) (h1 : (distOf k).1 ≤ n) (h2 : ∀ j, k < j → j ≤ s0 → n < (distOf j).1) (hs : s0 ≤ 300) (hn : n ≤ 40000) (w : World) :
    Calls Try.prog 31 #[.int .i64 (n : Nat), .int .i64 (s0 : Nat), .func (.func 33) #[] #[]] w fun e w' => e = .returned (.tuple #[.int .i64 (k : Nat), .int .i64 ((distOf k).2 : Nat), .int .u32 ((n - (distOf k).1 : Nat) : Int)]) ∧ w = w' := by
  have HF : Hid (∀ x : Nat, ∀ W : World, Calls Try.prog 33 #[.int .i64 (x : Nat)] W fun e w' => e = .returned (.tuple #[.int .i64 ((distOf x).1 : Nat), .int .i64 ((distOf x).2 : Nat)]) ∧ W = w') := fun x W => by
    have h := distances_any (x : Nat) W
    rw [Int.toNat_natCast, if_neg (by omega), if_neg (by omega)] at h
    exact h
  have H2 := Lib.hid h2
  clear h2
  go_enter Try.func31, Try.ntmps31
  go_wp2_with fail
  refine (HF.out s0 _).mono ?_; rintro e w1 ⟨rfl, rfl⟩
  go_wp2_with fail
  go_loop [1, 9, 10] (fun sg l m => ∃ j : Nat, k ≤ j ∧ j ≤ s0 ∧ sg = .int .i64 (j : Nat) ∧ l = .int .i64 ((distOf j).1 : Nat) ∧ m = .int .i64 ((distOf j).2 : Nat)) (fun sg _ _ => (intOf sg).toNat)
  case atStart => exact ⟨s0, hk, Nat.le_refl _, rfl, rfl, rfl⟩
  case round =>
    obtain ⟨j, hkj, hjs, rfl, rfl, rfl⟩ := hrel
    by_cases e : j = k
    · subst e
      have g1 : decide ((n : Int) < ((distOf j).1 : Int)) = false := decide_eq_false (by omega)
      have hsub : ((n : Int) - ((distOf j).1 : Int)) = ((n - (distOf j).1 : Nat) : Int) := by omega
      have hw : IntKind.u32.wrap ((n - (distOf j).1 : Nat) : Int) = ((n - (distOf j).1 : Nat) : Int) := by rw [IntKind.wrap_u32]; omega
      have hw2 : IntKind.i64.wrap ((n - (distOf j).1 : Nat) : Int) = ((n - (distOf j).1 : Nat) : Int) := by rw [IntKind.wrap_i64]; omega
      have HS := Lib.hid hsub
      go_wp2
      all_goals
        go_ret3
        rw [← HS.out]
        exact ⟨rfl, rfl⟩
    · have hlt := H2.out j (by omega) hjs
      have g1 : decide ((n : Int) < ((distOf j).1 : Int)) = true := decide_eq_true (by omega)
      have g2 : decide (n < (distOf j).1) = true := decide_eq_true hlt
      obtain ⟨i, hi, hi2⟩ : ∃ i : Nat, ((j : Int) - 1) = (i : Int) ∧ i = j - 1 := ⟨j - 1, by omega, rfl⟩
      have hwi : IntKind.i64.wrap (i : Int) = (i : Int) := by rw [IntKind.wrap_i64]; omega
      have hki : k ≤ i ∧ i ≤ s0 ∧ i < j := by omega
      clear hi2
      go_wp2_with fail
      refine (HF.out i _).mono ?_; rintro e w2 ⟨rfl, rfl⟩
      go_wp2_with fail
      go_round
      case rel => exact ⟨i, hki.1, hki.2.1, rfl, rfl, rfl⟩
      case measure => simp [intOf]; omega

/-- What is told of a length, of a distance. -/
def lenT (n : Int) : Int × Int × Int := if 3 ≤ n ∧ n ≤ 258 then ((lsg n.toNat : Nat), ((lenOf (lsg n.toNat)).2 : Nat), ((n.toNat - (lenOf (lsg n.toNat)).1 : Nat) : Int)) else (0, 0, 0)
def dstT (n : Int) : Int × Int × Int := if 1 ≤ n ∧ n ≤ 32768 then ((dsg n.toNat : Nat), ((distOf (dsg n.toNat)).2 : Nat), ((n.toNat - (distOf (dsg n.toNat)).1 : Nat) : Int)) else (-1, 0, 0)
theorem lenT_in (n : Nat) (h : 3 ≤ n ∧ n ≤ 258) : lenT n = (((lsg n : Nat) : Int), (((lenOf (lsg n)).2 : Nat) : Int), ((n - (lenOf (lsg n)).1 : Nat) : Int)) := by
  unfold lenT; rw [if_pos (by omega), Int.toNat_natCast]
theorem dstT_in (n : Nat) (h : 1 ≤ n ∧ n ≤ 32768) : dstT n = (((dsg n : Nat) : Int), (((distOf (dsg n)).2 : Nat) : Int), ((n - (distOf (dsg n)).1 : Nat) : Int)) := by
  unfold dstT; rw [if_pos (by omega), Int.toNat_natCast]
theorem dist_of (k : Nat) (hk : k < 30) : distOf k = (fbN k, fmN k) := (fb_step k hk).2.2.2.2.2
set_option maxHeartbeats 4000000 in
theorem blen_any (n : Int) (w : World) : Calls Try.prog 12 #[.int .i64 n] w fun e w' => e = .returned (.tuple #[.int .i64 (lenT n).1, .int .i64 (lenT n).2.1, .int .u32 (lenT n).2.2]) ∧ w = w' := by
  by_cases h : 3 ≤ n ∧ n ≤ 258
  · obtain ⟨m, rfl⟩ : ∃ m : Nat, n = (m : Nat) := ⟨n.toNat, by omega⟩
    have hm : 3 ≤ m ∧ m ≤ 258 := by omega
    obtain ⟨q1, q2, q3, q4, _⟩ := lsg_ok m (by omega) hm.1
    have HW := Lib.hid (within_len m 285 (lsg m) q2 q3 (fun j h1 h2 => by
      have := of_decide_eq_false (lastP_no (fun k => decide (257 ≤ k ∧ (lenOf k).1 ≤ m)) 285 j h1 h2)
      omega) (by omega) (by omega) w)
    rw [lenT_in m hm]
    have g1 : decide ((m : Int) < 3) = false := decide_eq_false (by omega)
    have g2 : decide ((258 : Int) < (m : Int)) = false := decide_eq_false (by omega)
    have g3 : decide (258 < m) = false := decide_eq_false (by omega)
    generalize lsg m = sg at *
    generalize lenOf sg = le at *
    clear h hm
    go_enter Try.func12, Try.ntmps12
    go_wp2_with fail
    refine (HW.out).mono ?_; rintro e w1 ⟨rfl, rfl⟩
    go_wp2
    go_ret3
    exact ⟨rfl, rfl⟩
  · have hT : lenT n = (0, 0, 0) := if_neg h
    rw [hT]
    by_cases h3 : n < 3
    · have g1 : decide (n < 3) = true := decide_eq_true h3
      go_enter Try.func12, Try.ntmps12
      go_wp2
      go_ret3
      exact ⟨rfl, rfl⟩
    · have g1 : decide (n < 3) = false := decide_eq_false h3
      have g2 : decide (258 < n) = true := decide_eq_true (by omega)
      go_enter Try.func12, Try.ntmps12
      go_wp2
      go_ret3
      exact ⟨rfl, rfl⟩
set_option maxHeartbeats 4000000 in
theorem bdist_any (n : Int) (w : World) : Calls Try.prog 13 #[.int .i64 n] w fun e w' => e = .returned (.tuple #[.int .i64 (dstT n).1, .int .i64 (dstT n).2.1, .int .u32 (dstT n).2.2]) ∧ w = w' := by
  by_cases h : 1 ≤ n ∧ n ≤ 32768
  · obtain ⟨m, rfl⟩ : ∃ m : Nat, n = (m : Nat) := ⟨n.toNat, by omega⟩
    have hm : 1 ≤ m ∧ m ≤ 32768 := by omega
    obtain ⟨q1, q2, q3⟩ := dsg_ok m (by omega) (by omega)
    have HW := Lib.hid (within_dist m 29 (dsg m) q1 (by rw [dist_of _ (by omega)]; exact q2) (fun j h1 h2 => by
      have := of_decide_eq_false (lastP_no (fun k => decide ((distOf k).1 ≤ m)) 29 j h1 h2)
      omega) (by omega) (by omega) w)
    rw [dstT_in m hm]
    have g1 : decide ((m : Int) < 1) = false := decide_eq_false (by omega)
    have g2 : decide ((32768 : Int) < (m : Int)) = false := decide_eq_false (by omega)
    have g3 : decide (32768 < m) = false := decide_eq_false (by omega)
    have g4 : ¬ m = 0 := by omega
    generalize dsg m = sg at *
    generalize distOf sg = le at *
    clear h hm q2 q3
    go_enter Try.func13, Try.ntmps13
    go_wp2_with fail
    refine (HW.out).mono ?_; rintro e w1 ⟨rfl, rfl⟩
    go_wp2
    go_ret3
    exact ⟨rfl, rfl⟩
  · have hT : dstT n = (-1, 0, 0) := if_neg h
    rw [hT]
    by_cases h3 : n < 1
    · have g1 : decide (n < 1) = true := decide_eq_true h3
      go_enter Try.func13, Try.ntmps13
      go_wp2
      go_ret3
      exact ⟨rfl, rfl⟩
    · have g1 : decide (n < 1) = false := decide_eq_false h3
      have g2 : decide (32768 < n) = true := decide_eq_true (by omega)
      go_enter Try.func13, Try.ntmps13
      go_wp2
      go_ret3
      exact ⟨rfl, rfl⟩
end Go.Proofs.Ytopjmagbcnglhaa
