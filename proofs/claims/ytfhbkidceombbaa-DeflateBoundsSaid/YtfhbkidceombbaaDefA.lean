/-
  Layer 9's small calls: Bound on both sides, wide and Bytes of a token, length.
-/
import Derived.Test.YtfhbkidceombbaaMatX
namespace Go.Proofs.Ytfhbkidceombbaa
set_option maxRecDepth 100000
open Go.RowKit Go.Joins Go.Deep

def clampN (n : Int) : Nat := if 1048576 < n then 1048576 else n.toNat
def bndN (N : Nat) : Nat := N + 5 * ((N + 32767) / 32768 + 1)
theorem clampN_le (n : Int) : clampN n ≤ 1048576 := by unfold clampN; split <;> omega
set_option maxHeartbeats 4000000 in
theorem bound_any (n : Int) (w : World) : Calls Try.prog 17 #[.int .i64 n] w fun e w' => e = .returned (.int .i64 (bndN (clampN n) : Nat)) ∧ w' = w := by
  obtain ⟨N, hN⟩ : ∃ N, N = clampN n := ⟨_, rfl⟩
  rw [← hN]
  have hle := clampN_le n
  rw [← hN] at hle
  have HB := Lib.hid (show bndN N = N + 5 * ((N + 32767) / 32768 + 1) from rfl)
  generalize bndN N = Q at *
  unfold clampN at hN
  go_enter Try.func17, Try.ntmps17
  go_upto_region 2 with fail
  rw [show (if 1048576 < if n < 0 then 0 else n then 1048576 else if n < 0 then 0 else n) = (N : Int) from by rw [hN]; (repeat' split) <;> omega]
  clear hN
  go_wp2
  all_goals
    go_ret
    have hq : ((Q : Nat) : Int) = (N : Int) + 5 * (((N : Int) + 32768 - 1) / 32768 + 1) := by rw [HB.out]; omega
    refine ⟨?_, rfl⟩
    rw [hq]
    rfl
set_option maxHeartbeats 4000000 in
theorem rbound_any (n : Int) (w : World) : Calls Try.prog 18 #[.int .i64 n] w fun e w' => e = .returned (.int .i64 (bndN (clampN n) : Nat)) ∧ w' = w := by
  have HN : Hid ((n < 0 ∧ clampN n = 0) ∨ (1048576 < n ∧ clampN n = 1048576) ∨ (0 ≤ n ∧ n ≤ 1048576 ∧ n = (clampN n : Int))) := by
    show _ ∨ _
    unfold clampN
    by_cases h1 : n < 0
    · exact .inl ⟨h1, by rw [if_neg (by omega)]; omega⟩
    · by_cases h2 : 1048576 < n
      · exact .inr (.inl ⟨h2, if_pos h2⟩)
      · exact .inr (.inr ⟨by omega, by omega, by rw [if_neg h2]; omega⟩)
  have hle := clampN_le n
  have HB := Lib.hid (show bndN (clampN n) = clampN n + 5 * ((clampN n + 32767) / 32768 + 1) from rfl)
  generalize bndN (clampN n) = Q at *
  generalize clampN n = N at *
  obtain ⟨M, HM⟩ : ∃ M : Nat, Hid (M = (N + 32767) / 32768) := ⟨_, rfl⟩
  have HQ : Hid (Q = N + 5 + 5 * M) := by show _ = _; rw [HB.out, HM.out]; omega
  have hM : 32768 * M ≤ N + 32767 ∧ N ≤ 32768 * M := by rw [HM.out]; omega
  obtain ⟨hM1, hM2⟩ := hM
  go_enter Try.func18, Try.ntmps18
  rcases HN.out with ⟨h1, h2⟩ | ⟨h1, h2⟩ | ⟨h1, h2, h3⟩
  · have HE := Lib.hid h2
    have g1 : decide (n < 0) = true := decide_eq_true h1
    clear HN h2
    go_wp2_with fail
    go_loopw [0, 3] (fun v u wr => ∃ (k : Nat) (y : Int), k ≤ M ∧ v = .int .i64 y ∧ u = .int .i64 ((N + 5 + 5 * k : Nat) : Int) ∧ Hid (y = (N : Int) - 32768 * (k : Int)) ∧ wr = w) (fun _ u _ => 2000000 - (intOf u).toNat)
    case atStart => exact ⟨0, 0, Nat.zero_le _, rfl, by rw [HE.out]; rfl, by show _ = _; rw [HE.out]; rfl, rfl⟩
    case round =>
      obtain ⟨k, y, hk, rfl, rfl, HY, rfl⟩ := hrel
      by_cases hp : 0 < y
      · have hy := HY.out
        have hy1 : y ≤ 1048576 := by omega
        have hk1 : k + 1 ≤ M := by omega
        have g9 : decide (0 < y) = true := decide_eq_true hp
        clear hy
        go_wp2_with fail
        go_roundw
        case rel => exact ⟨k + 1, y - 32768, hk1, rfl, by go_num, by show _ = _; rw [HY.out]; omega, by trivial⟩
        case measure => simp [intOf]; omega
      · have hy := HY.out
        have hkM : k = M := by omega
        subst hkM
        have g9 : decide (0 < y) = false := decide_eq_false hp
        clear hy
        go_wp2_with fail
        go_ret
        exact ⟨by rw [HQ.out]; rfl, rfl⟩
  · have HE := Lib.hid h2
    have g1 : decide (n < 0) = false := decide_eq_false (by omega)
    have g2 : decide (1048576 < n) = true := decide_eq_true h1
    clear HN h2
    go_wp2_with fail
    go_loopw [0, 3] (fun v u wr => ∃ (k : Nat) (y : Int), k ≤ M ∧ v = .int .i64 y ∧ u = .int .i64 ((N + 5 + 5 * k : Nat) : Int) ∧ Hid (y = (N : Int) - 32768 * (k : Int)) ∧ wr = w) (fun _ u _ => 2000000 - (intOf u).toNat)
    case atStart => exact ⟨0, 1048576, Nat.zero_le _, rfl, by rw [HE.out]; rfl, by show _ = _; rw [HE.out]; rfl, rfl⟩
    case round =>
      obtain ⟨k, y, hk, rfl, rfl, HY, rfl⟩ := hrel
      by_cases hp : 0 < y
      · have hy := HY.out
        have hy1 : y ≤ 1048576 := by omega
        have hk1 : k + 1 ≤ M := by omega
        have g9 : decide (0 < y) = true := decide_eq_true hp
        clear hy
        go_wp2_with fail
        go_roundw
        case rel => exact ⟨k + 1, y - 32768, hk1, rfl, by go_num, by show _ = _; rw [HY.out]; omega, by trivial⟩
        case measure => simp [intOf]; omega
      · have hy := HY.out
        have hkM : k = M := by omega
        subst hkM
        have g9 : decide (0 < y) = false := decide_eq_false hp
        clear hy
        go_wp2_with fail
        go_ret
        exact ⟨by rw [HQ.out]; rfl, rfl⟩
  · clear HN
    subst h3
    have g1 : decide ((N : Int) < 0) = false := decide_eq_false (by omega)
    have g2 : decide ((1048576 : Int) < (N : Int)) = false := decide_eq_false (by omega)
    have g3 : decide (1048576 < N) = false := decide_eq_false (by omega)
    go_wp2_with fail
    go_loopw [0, 3] (fun v u wr => ∃ (k : Nat) (y : Int), k ≤ M ∧ v = .int .i64 y ∧ u = .int .i64 ((N + 5 + 5 * k : Nat) : Int) ∧ Hid (y = (N : Int) - 32768 * (k : Int)) ∧ wr = w) (fun _ u _ => 2000000 - (intOf u).toNat)
    case atStart => exact ⟨0, N, Nat.zero_le _, rfl, by go_num, by show _ = _; omega, rfl⟩
    case round =>
      obtain ⟨k, y, hk, rfl, rfl, HY, rfl⟩ := hrel
      by_cases hp : 0 < y
      · have hy := HY.out
        have hy1 : y ≤ 1048576 := by omega
        have hk1 : k + 1 ≤ M := by omega
        have g9 : decide (0 < y) = true := decide_eq_true hp
        clear hy
        go_wp2_with fail
        go_roundw
        case rel => exact ⟨k + 1, y - 32768, hk1, rfl, by go_num, by show _ = _; rw [HY.out]; omega, by trivial⟩
        case measure => simp [intOf]; omega
      · have hy := HY.out
        have hkM : k = M := by omega
        subst hkM
        have g9 : decide (0 < y) = false := decide_eq_false hp
        clear hy
        go_wp2_with fail
        go_ret
        exact ⟨by rw [HQ.out]; rfl, rfl⟩
/-- How many bytes a token is; one that may not be counts as one. -/
def wdT (t : Tok) : Nat := if rightT t = true then (if t.l = 0 then 1 else t.l.toNat) else 1
set_option maxHeartbeats 4000000 in
theorem dwide_any (t : Tok) (w : World) : Calls Try.prog 41 #[valT t] w fun e w' => e = .returned (.int .i64 (wdT t : Nat)) ∧ Below w.heap.size w w' := by
  have HR := Lib.hid (right_any t)
  have hrc := fun h h0 => right_copy (t := t) h h0
  obtain ⟨W, hW⟩ : ∃ W, W = wdT t := ⟨_, rfl⟩
  rw [← hW]
  unfold wdT at hW
  obtain ⟨b, l, d⟩ := t
  unfold valT at *
  dsimp only at *
  have hx := heap_alloc_new w (.cells #[.int .u8 (b : Nat), .int .i64 l, .int .i64 d] 43)
  have hba : Below w.heap.size w (w.alloc (.cells #[.int .u8 (b : Nat), .int .i64 l, .int .i64 d] 43)) := (Below.refl _ _).alloc (Nat.le_refl _) _
  have hsz : (w.alloc (.cells #[.int .u8 (b : Nat), .int .i64 l, .int .i64 d] 43)).heap.size = w.heap.size + 1 := by simp
  have HX := Lib.hid hx
  have HBA := Lib.hid hba
  have HSZ := Lib.hid hsz
  have HW := Lib.hid hW
  have HRC := Lib.hid hrc
  clear hx hba hsz hW hrc
  generalize rightT ⟨b, l, d⟩ = r at *
  go_enter Try.func41, Try.ntmps41
  go_wp2_with fail
  generalize w.alloc (.cells #[.int .u8 (b : Nat), .int .i64 l, .int .i64 d] 43) = w6 at *
  (with_reducible refine (HR.out _).mono ?_); rintro e w7 ⟨rfl, hb7⟩
  have k1 := (cell_of_row _ _ 1 _ _ _ ((hb7.block w.heap.size (by have := HSZ.out; omega)).trans HX.out)).trans (show _ = some (Value.int .i64 l) from rfl)
  have HB7 := Lib.hid (HBA.out.trans (hb7.mono HBA.out.size))
  clear hb7
  cases r with
  | false =>
    have hW1 := HW.out.trans (if_neg (by simp))
    subst hW1
    go_wp2_with fail
    go_ret
    exact ⟨rfl, HB7.out⟩
  | true =>
    have hW1 := HW.out.trans (if_pos rfl)
    by_cases h0 : l = 0
    · subst h0
      rw [if_pos rfl] at hW1
      subst hW1
      go_wp2_with fail
      go_ret
      exact ⟨rfl, HB7.out⟩
    · obtain ⟨_, h3, h4, _⟩ := HRC.out rfl h0
      rw [if_neg h0] at hW1
      obtain ⟨m, rfl⟩ : ∃ m : Nat, l = (m : Nat) := ⟨l.toNat, by omega⟩
      rw [Int.toNat_natCast] at hW1
      subst hW1
      have hz : ((W : Int) == 0) = false := by rw [beq_eq_false_iff_ne]; omega
      have hg : decide ((W : Int) < 1) = false := decide_eq_false (by omega)
      have hg2 : decide (W < 1) = false := decide_eq_false (by omega)
      clear h0
      go_wp2_with fail
      go_ret
      exact ⟨rfl, HB7.out⟩
set_option maxHeartbeats 4000000 in
theorem rbytes_any (t : Tok) (w : World) : Calls Try.prog 16 #[valT t] w fun e w' => e = .returned (.int .i64 (wdT t : Nat)) ∧ Below w.heap.size w w' := by
  have HR := Lib.hid (rright_any t)
  have hrc := fun h h0 => right_copy (t := t) h h0
  obtain ⟨W, hW⟩ : ∃ W, W = wdT t := ⟨_, rfl⟩
  rw [← hW]
  unfold wdT at hW
  obtain ⟨b, l, d⟩ := t
  unfold valT at *
  dsimp only at *
  have hx := heap_alloc_new w (.cells #[.int .u8 (b : Nat), .int .i64 l, .int .i64 d] 47)
  have hba : Below w.heap.size w (w.alloc (.cells #[.int .u8 (b : Nat), .int .i64 l, .int .i64 d] 47)) := (Below.refl _ _).alloc (Nat.le_refl _) _
  have hsz : (w.alloc (.cells #[.int .u8 (b : Nat), .int .i64 l, .int .i64 d] 47)).heap.size = w.heap.size + 1 := by simp
  have HX := Lib.hid hx
  have HBA := Lib.hid hba
  have HSZ := Lib.hid hsz
  have HW := Lib.hid hW
  have HRC := Lib.hid hrc
  clear hx hba hsz hW hrc
  generalize rightT ⟨b, l, d⟩ = r at *
  go_enter Try.func16, Try.ntmps16
  go_wp2_with fail
  generalize w.alloc (.cells #[.int .u8 (b : Nat), .int .i64 l, .int .i64 d] 47) = w6 at *
  (with_reducible refine (HR.out _).mono ?_); rintro e w7 ⟨rfl, hb7⟩
  have k1 := (cell_of_row _ _ 1 _ _ _ ((hb7.block w.heap.size (by have := HSZ.out; omega)).trans HX.out)).trans (show _ = some (Value.int .i64 l) from rfl)
  have HB7 := Lib.hid (HBA.out.trans (hb7.mono HBA.out.size))
  clear hb7
  cases r with
  | false =>
    have hW1 := HW.out.trans (if_neg (by simp))
    subst hW1
    go_wp2_with fail
    go_ret
    exact ⟨rfl, HB7.out⟩
  | true =>
    have hW1 := HW.out.trans (if_pos rfl)
    by_cases h0 : l = 0
    · subst h0
      rw [if_pos rfl] at hW1
      subst hW1
      go_wp2_with fail
      go_ret
      exact ⟨rfl, HB7.out⟩
    · obtain ⟨_, h3, h4, _⟩ := HRC.out rfl h0
      rw [if_neg h0] at hW1
      obtain ⟨m, rfl⟩ : ∃ m : Nat, l = (m : Nat) := ⟨l.toNat, by omega⟩
      rw [Int.toNat_natCast] at hW1
      subst hW1
      have hz : ((W : Int) == 0) = false := by rw [beq_eq_false_iff_ne]; omega
      have hg : decide ((W : Int) < 1) = false := decide_eq_false (by omega)
      have hg2 : decide (W < 1) = false := decide_eq_false (by omega)
      clear h0
      go_wp2_with fail
      go_ret
      exact ⟨rfl, HB7.out⟩
theorem bnd_0 : bndN (clampN 0) = 5 := by decide +kernel
theorem bnd_1 : bndN (clampN 1) = 11 := by decide +kernel
theorem awake9_any (w : World) : Calls Try.prog 14 #[] w fun e w' => e = .returned (.bool true) ∧ w = w' := by
  have h1 := bound_any 0 w
  have h2 := bound_any 1 w
  rw [bnd_0] at h1
  rw [bnd_1] at h2
  have H1 := Lib.hid h1
  have H2 := Lib.hid h2
  clear h1 h2
  go_enter Try.func14, Try.ntmps14
  go_wp2_with fail
  refine (H1.out).mono ?_; rintro e w1 ⟨rfl, rfl⟩
  go_wp2_with fail
  refine (H2.out).mono ?_; rintro e w1 ⟨rfl, rfl⟩
  go_wp2_with fail
  go_ret
  exact ⟨rfl, rfl⟩
end Go.Proofs.Ytfhbkidceombbaa
