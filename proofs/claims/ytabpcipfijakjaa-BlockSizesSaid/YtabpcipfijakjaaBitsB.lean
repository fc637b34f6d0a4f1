/-
  Contracts: the reader's calls: Peek, Skip, Read, Align, Bytes, At, Err.
-/
import Derived.Test.YtabpcipfijakjaaBitsA
namespace Go.Proofs.Ytabpcipfijakjaa
open Go.RowKit Go.Joins

/-- How many bits Peek tells of. -/
def peekM (s : ByteArray) (a e : Nat) (n : Int) : Nat := if e = 0 ∧ 0 ≤ n ∧ n ≤ 32 then min n.toNat (8 * s.size - a) else 0
theorem peekM_le (s : ByteArray) (a e : Nat) (n : Int) : peekM s a e n ≤ 32 := by unfold peekM; split <;> omega
/-- May n bits be gone by? -/
def maySkip (s : ByteArray) (a e : Nat) (n : Int) : Bool := decide (e = 0 ∧ 0 ≤ n ∧ n ≤ (8 * s.size - a : Nat))
def skipA (s : ByteArray) (a e : Nat) (n : Int) : Nat := if e = 0 ∧ 0 ≤ n ∧ n ≤ (8 * s.size - a : Nat) then a + n.toNat else a
def skipE (s : ByteArray) (a e : Nat) (n : Int) : Nat := if e ≠ 0 then e else if n < 0 then 2 else if n ≤ (8 * s.size - a : Nat) then 0 else 3
theorem skipA_le (s : ByteArray) (a e : Nat) (n : Int) (ha : a ≤ 8 * s.size) : skipA s a e n ≤ 8 * s.size := by unfold skipA; split <;> omega

theorem peek_any (g : Nat) (s : ByteArray) (a e : Nat) (n : Int) (hs : s.size ≤ 1000000) (ha : a ≤ 8 * s.size) (w : World) (hc : Rd 97 w g s a e) :
    Calls Try.prog 46 #[.pointer (some ⟨g, 0, none⟩), .int .i64 n] w fun r w' => r = .returned (.tuple #[.int .u32 (bitsAt (num s) a (peekM s a e n) : Nat), .int .i64 (peekM s a e n : Nat)]) ∧ ∃ d, w' = w.drewN d := by
  by_cases he : e = 0
  · subst he
    have HW := Lib.hid (well_yes g s a w hc)
    by_cases h0 : n < 0
    · have HM : Hid (peekM s a 0 n = 0) := if_neg (by omega)
      clear hc
      go_enter Try.func46, Try.ntmps46
      go_wp2_with (go_at_call 84; refine (HW.out).mono ?_; rintro r w' ⟨rfl, rfl⟩)
      go_ret2
      exact ⟨by rw [HM.out, bitsAt_zero]; rfl, 0, rfl⟩
    · obtain ⟨m, rfl⟩ := Int.eq_ofNat_of_zero_le (show 0 ≤ n by omega)
      by_cases h32 : m ≤ 32
      · obtain ⟨K, hK⟩ : ∃ K : Nat, K = min m (8 * s.size - a) := ⟨_, rfl⟩
        have HM : Hid (peekM s a 0 (m : Nat) = K) := by
          show _ = _
          unfold peekM
          rw [if_pos (by omega), hK]
          rfl
        have HL := Lib.hid (left_any g s a 0 hs ha w hc)
        have HN := Lib.hid (fun d => window_any g s a 0 hs ha (w.drewN d) (hc.drewN d))
        have hwl : win s (a / 8) 5 / 2 ^ (a % 8) < 18446744073709551616 := Nat.lt_of_le_of_lt (Nat.div_le_self _ _) (Nat.lt_trans (win_lt s (a / 8) 5) (by decide))
        have hK32 : K ≤ 32 := by omega
        have HB : Hid (win s (a / 8) 5 / 2 ^ (a % 8) % 2 ^ K = bitsAt (num s) a K) := window_bits (num s) a K (by omega)
        have HBl := Lib.hid (bitsAt_lt32 (num s) a K hK32)
        generalize win s (a / 8) 5 / 2 ^ (a % 8) = V at *
        have HLo := Lib.hid (fun w => lowest_any V K hwl hK32 w)
        have hmin : min (m : Int) ((8 * s.size - a : Nat) : Int) = (K : Int) := by omega
        generalize 8 * s.size - a = L at *
        have HKE := Lib.hid hK
        clear hc h0 hK
        by_cases hml : m ≤ L
        · have hKm : (K : Int) = m := by have := HKE.out; omega
          have hKm' : K = m := by omega
          subst hKm'
          go_enter Try.func46, Try.ntmps46
          go_wp2_with (first | (go_at_call 84; refine (HW.out).mono ?_; rintro r w' ⟨rfl, rfl⟩) | (go_at_call 85; refine (HL.out).mono ?_; rintro r w' ⟨rfl, d, rfl⟩) | (go_at_call 87; refine (HN.out _).mono ?_; rintro r w' ⟨rfl, rfl⟩) | (go_at_call 86; refine (HLo.out _).mono ?_; rintro r w' ⟨rfl, rfl⟩))
          go_ret2
          exact ⟨by rw [HM.out, ← HB.out]; rfl, _, rfl⟩
        · have hKm' : K = L := by have := HKE.out; omega
          subst hKm'
          go_enter Try.func46, Try.ntmps46
          go_wp2_with (first | (go_at_call 84; refine (HW.out).mono ?_; rintro r w' ⟨rfl, rfl⟩) | (go_at_call 85; refine (HL.out).mono ?_; rintro r w' ⟨rfl, d, rfl⟩) | (go_at_call 87; refine (HN.out _).mono ?_; rintro r w' ⟨rfl, rfl⟩) | (go_at_call 86; refine (HLo.out _).mono ?_; rintro r w' ⟨rfl, rfl⟩))
          go_ret2
          exact ⟨by rw [HM.out, ← HB.out]; rfl, _, rfl⟩
      · have HM : Hid (peekM s a 0 (m : Nat) = 0) := if_neg (by omega)
        clear hc
        go_enter Try.func46, Try.ntmps46
        go_wp2_with (go_at_call 84; refine (HW.out).mono ?_; rintro r w' ⟨rfl, rfl⟩)
        go_ret2
        exact ⟨by rw [HM.out, bitsAt_zero]; rfl, 0, rfl⟩
  · have HW := Lib.hid (well_no g s a e he w hc)
    have HM : Hid (peekM s a e n = 0) := if_neg (by omega)
    clear hc
    go_enter Try.func46, Try.ntmps46
    go_wp2_with (go_at_call 84; refine (HW.out).mono ?_; rintro r w' ⟨rfl, rfl⟩)
    go_ret2
    exact ⟨by rw [HM.out, bitsAt_zero]; rfl, 0, rfl⟩

theorem skip_any (g : Nat) (s : ByteArray) (a e : Nat) (n : Int) (hs : s.size ≤ 1000000) (ha : a ≤ 8 * s.size) (w : World) (hc : Rd 97 w g s a e) :
    Calls Try.prog 47 #[.pointer (some ⟨g, 0, none⟩), .int .i64 n] w fun r w' => r = .returned (.tuple #[]) ∧ Rd 97 w' g s (skipA s a e n) (skipE s a e n) ∧ w.grownBy w' (some g) := by
  have HC := Lib.hid hc
  by_cases he : e = 0
  · subst he
    have HW := Lib.hid (well_yes g s a w hc)
    have HL := Lib.hid (left_any g s a 0 hs ha w hc)
    have c1 := hc.c1
    have c2 := hc.c2
    have f1 := hc.fr 1
    have f2 := hc.fr 2
    by_cases h0 : n < 0
    · have HA : Hid (skipA s a 0 n = a) := if_neg (by omega)
      have HE : Hid (skipE s a 0 n = 2) := by
        show _ = _
        unfold skipE
        rw [if_neg (by omega), if_pos h0]
      clear hc
      go_enter Try.func47, Try.ntmps47
      go_wp2_with (first | (go_at_call 84; refine (HW.out).mono ?_; rintro r w' ⟨rfl, rfl⟩) | (go_at_call 85; refine (HL.out).mono ?_; rintro r w' ⟨rfl, d, rfl⟩))
      go_end0
      refine ⟨rfl, ?_, grown_set _ g 2 _⟩
      rw [HA.out, HE.out]
      exact HC.out.setErr 2
    · obtain ⟨m, rfl⟩ := Int.eq_ofNat_of_zero_le (show 0 ≤ n by omega)
      by_cases hl : m ≤ 8 * s.size - a
      · have HA : Hid (skipA s a 0 (m : Nat) = a + m) := if_pos ⟨rfl, by omega, by omega⟩
        have HE : Hid (skipE s a 0 (m : Nat) = 0) := by
          show _ = _
          unfold skipE
          rw [if_neg (by omega), if_neg (by omega), if_pos (by omega)]
        generalize hLL : 8 * s.size - a = L at *
        have hb : a + m < 9223372036854775807 := by omega
        clear hc h0 hLL
        go_enter Try.func47, Try.ntmps47
        go_wp2_with (first | (go_at_call 84; refine (HW.out).mono ?_; rintro r w' ⟨rfl, rfl⟩) | (go_at_call 85; refine (HL.out).mono ?_; rintro r w' ⟨rfl, d, rfl⟩))
        go_end0
        refine ⟨rfl, ?_, grown_then (grown_drewN w d _) (grown_set _ g 1 _)⟩
        rw [HA.out, HE.out]
        exact (HC.out.drewN d).setAt (a + m)
      · have HA : Hid (skipA s a 0 (m : Nat) = a) := if_neg (by omega)
        have HE : Hid (skipE s a 0 (m : Nat) = 3) := by
          show _ = _
          unfold skipE
          rw [if_neg (by omega), if_neg (by omega), if_neg (by omega)]
        generalize hLL : 8 * s.size - a = L at *
        clear hc h0 hLL
        go_enter Try.func47, Try.ntmps47
        go_wp2_with (first | (go_at_call 84; refine (HW.out).mono ?_; rintro r w' ⟨rfl, rfl⟩) | (go_at_call 85; refine (HL.out).mono ?_; rintro r w' ⟨rfl, d, rfl⟩))
        go_end0
        refine ⟨rfl, ?_, grown_then (grown_drewN w d _) (grown_set _ g 2 _)⟩
        rw [HA.out, HE.out]
        exact (HC.out.drewN d).setErr 3
  · have HW := Lib.hid (well_no g s a e he w hc)
    have HA : Hid (skipA s a e n = a) := if_neg (by omega)
    have HE : Hid (skipE s a e n = e) := if_pos he
    clear hc he
    go_enter Try.func47, Try.ntmps47
    go_wp2_with (go_at_call 84; refine (HW.out).mono ?_; rintro r w' ⟨rfl, rfl⟩)
    go_end0
    refine ⟨rfl, ?_, World.grownBy.refl _ _⟩
    rw [HA.out, HE.out]
    exact HC.out

theorem at_any (g : Nat) (s : ByteArray) (a e : Nat) (w : World) (hc : Rd 97 w g s a e) :
    Calls Try.prog 15 #[.pointer (some ⟨g, 0, none⟩)] w fun r w' => r = .returned (.int .i64 (a : Nat)) ∧ w = w' := by
  have c1 := hc.c1
  clear hc
  go_enter Try.func15, Try.ntmps15
  go_wp2
  go_ret
  exact ⟨rfl, rfl⟩
theorem err_any (g : Nat) (s : ByteArray) (a e : Nat) (w : World) (hc : Rd 97 w g s a e) :
    Calls Try.prog 45 #[.pointer (some ⟨g, 0, none⟩)] w fun r w' => r = .returned (.int .i64 (e : Nat)) ∧ w = w' := by
  have c2 := hc.c2
  clear hc
  go_enter Try.func45, Try.ntmps45
  go_wp2
  go_ret
  exact ⟨rfl, rfl⟩

/-- The place behind Align. -/
def alignA (a e : Nat) : Nat := if e = 0 then (a + 7) / 8 * 8 else a
theorem alignA_le (s : ByteArray) (a e : Nat) (ha : a ≤ 8 * s.size) : alignA a e ≤ 8 * s.size := by unfold alignA; split <;> omega
theorem i64_and7 (x : Int) : bits .and .i64 x 7 = x % 8 := by
  have e : (BitVec.ofInt 64 x &&& BitVec.ofInt 64 7).toNat = (x % 8).toNat := by
    rw [BitVec.toNat_and, BitVec.toNat_ofInt, show (BitVec.ofInt 64 7).toNat = 2 ^ 3 - 1 from rfl, Nat.and_two_pow_sub_one_eq_mod]
    omega
  have e2 : bits .and .i64 x 7 = IntKind.i64.wrap ((BitVec.ofInt 64 x &&& BitVec.ofInt 64 7).toNat : Int) := rfl
  rw [e2, e, IntKind.wrap_i64]
  omega
theorem neg_and7 (a : Nat) : bits .and .i64 (-(a : Int)) 7 = ((a + 7) / 8 * 8 - a : Nat) := by
  rw [i64_and7]
  omega

end Go.Proofs.Ytabpcipfijakjaa
