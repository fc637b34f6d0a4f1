/-
  Contracts: the reader's Read and Bytes.
-/
import Derived.Test.YtbgclbnbnpnolaaBitsB
namespace Go.Proofs.Ytbgclbnbnpnolaa
open Go.RowKit Go.Joins

def readM (s : ByteArray) (a e : Nat) (n : Int) : Nat := if e = 0 ∧ 0 ≤ n ∧ n ≤ 32 ∧ n ≤ (8 * s.size - a : Nat) then n.toNat else 0
def readE (s : ByteArray) (a e : Nat) (n : Int) : Nat := if e ≠ 0 then e else if n < 0 ∨ 32 < n then 2 else if n ≤ (8 * s.size - a : Nat) then 0 else 3
theorem readM_le (s : ByteArray) (a e : Nat) (n : Int) : readM s a e n ≤ 32 := by unfold readM; split <;> omega
theorem readA_le (s : ByteArray) (a e : Nat) (n : Int) (ha : a ≤ 8 * s.size) : a + readM s a e n ≤ 8 * s.size := by unfold readM; split <;> omega

theorem read_any (g : Nat) (s : ByteArray) (a e : Nat) (n : Int) (hs : s.size ≤ 1000000) (ha : a ≤ 8 * s.size) (w : World) (hc : Rd 81 w g s a e) :
    Calls Try.prog 53 #[.pointer (some ⟨g, 0, none⟩), .int .i64 n] w fun r w' => r = .returned (.int .u32 (bitsAt (num s) a (readM s a e n) : Nat)) ∧ Rd 81 w' g s (a + readM s a e n) (readE s a e n) ∧ w.grownBy w' (some g) := by
  have HC := Lib.hid hc
  by_cases hb : e = 0 ∧ 32 < n
  · obtain ⟨rfl, h32⟩ := hb
    have HW := Lib.hid (well_yes g s a w hc)
    have c2 := hc.c2
    have f2 := hc.fr 2
    have HM : Hid (readM s a 0 n = 0) := if_neg (by omega)
    have HE : Hid (readE s a 0 n = 2) := by
      show _ = _
      unfold readE
      rw [if_neg (by omega), if_pos (by omega)]
    have hc2 : Rd 81 (w.setCell ⟨g, 2, none⟩ (.int .i64 2)) g s a 2 := hc.setErr 2
    have HC2 := Lib.hid hc2
    have hpk := peek_any g s a 2 n hs ha _ hc2
    rw [show peekM s a 2 n = 0 from if_neg (by omega), bitsAt_zero] at hpk
    have HPK := Lib.hid hpk
    have hsk := fun d => skip_any g s a 2 n hs ha _ (hc2.drewN d)
    rw [show skipA s a 2 n = a from if_neg (by omega), show skipE s a 2 n = 2 from if_pos (by omega)] at hsk
    have HSK := Lib.hid hsk
    clear hc hc2 hpk hsk
    go_enter Try.func53, Try.ntmps53
    go_wp2_with (first | (go_at_call 48; refine (HW.out).mono ?_; rintro r w' ⟨rfl, rfl⟩) | (go_at_call 35; refine (HPK.out).mono ?_; rintro r w' ⟨rfl, d, rfl⟩) | (go_at_call 36; refine (HSK.out _).mono ?_; rintro r w' ⟨rfl, hc3, hg3⟩))
    go_ret
    refine ⟨by rw [HM.out, bitsAt_zero]; rfl, ?_, grown_then (grown_set w g 2 _) (grown_then (grown_drewN _ d _) hg3)⟩
    rw [HM.out, HE.out]
    exact hc3
  · have hpk := peek_any g s a e n hs ha w hc
    have HPK := Lib.hid hpk
    have hsk := fun d => skip_any g s a e n hs ha _ (hc.drewN d)
    have HSK := Lib.hid hsk
    have hlt := bitsAt_lt32 (num s) a _ (peekM_le s a e n)
    have hp32 := peekM_le s a e n
    by_cases hok : e = 0 ∧ 0 ≤ n ∧ n ≤ 32 ∧ n ≤ (8 * s.size - a : Nat)
    · obtain ⟨rfl, h0, h32, hl⟩ := hok
      have HW := Lib.hid (well_yes g s a w hc)
      obtain ⟨m, rfl⟩ := Int.eq_ofNat_of_zero_le h0
      have HM : Hid (readM s a 0 (m : Nat) = m) := if_pos ⟨rfl, h0, h32, hl⟩
      have HE : Hid (readE s a 0 (m : Nat) = 0) := by
        show _ = _
        unfold readE
        rw [if_neg (by omega), if_neg (by omega), if_pos hl]
      have hPM : peekM s a 0 (m : Nat) = m := by
        unfold peekM
        rw [if_pos (by omega)]
        omega
      have HA : Hid (skipA s a 0 (m : Nat) = a + m) := if_pos ⟨rfl, h0, hl⟩
      have HSE : Hid (skipE s a 0 (m : Nat) = 0) := by
        show _ = _
        unfold skipE
        rw [if_neg (by omega), if_neg (by omega), if_pos hl]
      rw [hPM] at HPK hlt
      clear hc hb hpk hsk hPM hl h0
      go_enter Try.func53, Try.ntmps53
      go_wp2_with (first | (go_at_call 48; refine (HW.out).mono ?_; rintro r w' ⟨rfl, rfl⟩) | (go_at_call 35; refine (HPK.out).mono ?_; rintro r w' ⟨rfl, d, rfl⟩) | (go_at_call 36; refine (HSK.out _).mono ?_; rintro r w' ⟨rfl, hc3, hg3⟩))
      go_ret
      refine ⟨by rw [HM.out]; rfl, ?_, grown_then (grown_drewN _ d _) hg3⟩
      rw [HA.out, HSE.out] at hc3
      rw [HM.out, HE.out]
      exact hc3
    · have HM : Hid (readM s a e n = 0) := if_neg hok
      have HA : Hid (skipA s a e n = a) := if_neg (by omega)
      have HEE : Hid (skipE s a e n = readE s a e n) := by
        show _ = _
        unfold skipE readE
        by_cases he : e = 0
        · have h32 : ¬ 32 < n := by omega
          by_cases h0 : n < 0
          · simp only [he, h0, ne_eq, not_true_eq_false, if_true, if_false, true_or]
          · simp only [he, h0, h32, ne_eq, not_true_eq_false, if_false, or_self]
        · rw [if_pos he, if_pos he]
      -- what is told is zero: no bits, or too few of them
      have hz : Hid (¬ ((peekM s a e n : Int) < n) → bitsAt (num s) a (peekM s a e n) = 0) := by
        intro h
        have : peekM s a e n = 0 := by
          unfold peekM at h ⊢
          split at h
          · rename_i h2
            rw [if_pos h2]
            omega
          · rename_i h2
            rw [if_neg h2]
        rw [this, bitsAt_zero]
      generalize peekM s a e n = p at *
      generalize bitsAt (num s) a p = v at *
      by_cases he : e = 0
      · subst he
        have h32 : ¬ 32 < n := by omega
        have HW := Lib.hid (well_yes g s a w hc)
        by_cases hpn : (p : Int) < n
        · clear hc hb hpk hsk hok
          go_enter Try.func53, Try.ntmps53
          go_wp2_with (first | (go_at_call 48; refine (HW.out).mono ?_; rintro r w' ⟨rfl, rfl⟩) | (go_at_call 35; refine (HPK.out).mono ?_; rintro r w' ⟨rfl, d, rfl⟩) | (go_at_call 36; refine (HSK.out _).mono ?_; rintro r w' ⟨rfl, hc3, hg3⟩))
          go_ret
          rw [HM.out, bitsAt_zero, Nat.add_zero]
          refine ⟨rfl, ?_, grown_then (grown_drewN _ d _) hg3⟩
          rw [HA.out, HEE.out] at hc3
          exact hc3
        · have hv := hz.out hpn
          subst hv
          clear hc hb hpk hsk hok
          go_enter Try.func53, Try.ntmps53
          go_wp2_with (first | (go_at_call 48; refine (HW.out).mono ?_; rintro r w' ⟨rfl, rfl⟩) | (go_at_call 35; refine (HPK.out).mono ?_; rintro r w' ⟨rfl, d, rfl⟩) | (go_at_call 36; refine (HSK.out _).mono ?_; rintro r w' ⟨rfl, hc3, hg3⟩))
          go_ret
          rw [HM.out, bitsAt_zero, Nat.add_zero]
          refine ⟨rfl, ?_, grown_then (grown_drewN _ d _) hg3⟩
          rw [HA.out, HEE.out] at hc3
          exact hc3
      · have HW := Lib.hid (well_no g s a e he w hc)
        by_cases hpn : (p : Int) < n
        · clear hc hb hpk hsk hok he
          go_enter Try.func53, Try.ntmps53
          go_wp2_with (first | (go_at_call 48; refine (HW.out).mono ?_; rintro r w' ⟨rfl, rfl⟩) | (go_at_call 35; refine (HPK.out).mono ?_; rintro r w' ⟨rfl, d, rfl⟩) | (go_at_call 36; refine (HSK.out _).mono ?_; rintro r w' ⟨rfl, hc3, hg3⟩))
          go_ret
          rw [HM.out, bitsAt_zero, Nat.add_zero]
          refine ⟨rfl, ?_, grown_then (grown_drewN _ d _) hg3⟩
          rw [HA.out, HEE.out] at hc3
          exact hc3
        · have hv := hz.out hpn
          subst hv
          clear hc hb hpk hsk hok he
          go_enter Try.func53, Try.ntmps53
          go_wp2_with (first | (go_at_call 48; refine (HW.out).mono ?_; rintro r w' ⟨rfl, rfl⟩) | (go_at_call 35; refine (HPK.out).mono ?_; rintro r w' ⟨rfl, d, rfl⟩) | (go_at_call 36; refine (HSK.out _).mono ?_; rintro r w' ⟨rfl, hc3, hg3⟩))
          go_ret
          rw [HM.out, bitsAt_zero, Nat.add_zero]
          refine ⟨rfl, ?_, grown_then (grown_drewN _ d _) hg3⟩
          rw [HA.out, HEE.out] at hc3
          exact hc3

/-- What Bytes takes, from a byte's edge on. -/
def mayB (s : ByteArray) (b e : Nat) (n : Int) : Bool := decide (e = 0 ∧ 0 ≤ n ∧ n ≤ (s.size - b / 8 : Nat))
def pieceB (s : ByteArray) (b e : Nat) (n : Int) : ByteArray := if mayB s b e n then s.extract (b / 8) (b / 8 + n.toNat) else ⟨#[]⟩
def bytA (s : ByteArray) (b e : Nat) (n : Int) : Nat := if mayB s b e n then b + 8 * n.toNat else b
def bytE (s : ByteArray) (b e : Nat) (n : Int) : Nat := if e ≠ 0 then e else if n < 0 then 2 else if n ≤ (s.size - b / 8 : Nat) then 0 else 3
theorem align_8 (a : Nat) : alignA a 0 % 8 = 0 := by unfold alignA; rw [if_pos rfl]; omega
theorem bytA_le (s : ByteArray) (a e : Nat) (n : Int) (ha : a ≤ 8 * s.size) : bytA s (alignA a e) e n ≤ 8 * s.size := by
  have h := alignA_le s a e ha
  unfold bytA
  split
  · rename_i hm
    have hd := of_decide_eq_true hm
    obtain ⟨rfl, h0, h1⟩ := hd
    have := align_8 a
    omega
  · exact h

theorem bytes_any (g : Nat) (s : ByteArray) (a e : Nat) (n : Int) (hs : s.size ≤ 1000000) (ha : a ≤ 8 * s.size) (w : World) (hc : Rd 81 w g s a e) :
    Calls Try.prog 63 #[.pointer (some ⟨g, 0, none⟩), .int .i64 n] w fun r w' => r = .returned (.string (pieceB s (alignA a e) e n)) ∧ Rd 81 w' g s (bytA s (alignA a e) e n) (bytE s (alignA a e) e n) ∧ w.grownBy w' (some g) := by
  have hb := alignA_le s a e ha
  have h8 : e = 0 → alignA a e % 8 = 0 := fun h => by subst h; exact align_8 a
  have HAL := Lib.hid (align_any g s a e hs ha w hc)
  clear hc
  generalize alignA a e = b at *
  go_enter Try.func63, Try.ntmps63
  go_wp2_with fail
  refine (HAL.out).mono ?_; rintro r w1 ⟨rfl, hc, hg⟩
  have HG := Lib.hid hg
  have HC := Lib.hid hc
  clear hg HAL
  by_cases he : e = 0
  · subst he
    have h8 := h8 rfl
    have HW := Lib.hid (well_yes g s b w1 hc)
    have HL := Lib.hid (left_any g s b 0 hs hb w1 hc)
    by_cases h0 : n < 0
    · have hm : ¬ mayB s b 0 n = true := fun h => by
        have := of_decide_eq_true h
        omega
      have HP : Hid (pieceB s b 0 n = ⟨#[]⟩) := if_neg hm
      have HA : Hid (bytA s b 0 n = b) := if_neg hm
      have HE : Hid (bytE s b 0 n = 2) := by
        show _ = _
        unfold bytE
        rw [if_neg (by omega), if_pos h0]
      have c2 := hc.c2
      have f2 := hc.fr 2
      clear hc hm
      go_wp2_with (first | (go_at_call 48; refine (HW.out).mono ?_; rintro r w' ⟨rfl, rfl⟩))
      go_ret
      refine ⟨by rw [HP.out]; rfl, ?_, grown_then HG.out (grown_set _ g 2 _)⟩
      rw [HA.out, HE.out]
      exact HC.out.setErr 2
    · obtain ⟨m, rfl⟩ := Int.eq_ofNat_of_zero_le (show 0 ≤ n by omega)
      have hq8 : (((8 * s.size - b : Nat) : Int)).tdiv 8 = ((s.size - b / 8 : Nat) : Int) := by rw [Int.tdiv_eq_ediv_of_nonneg (by omega)]; omega
      have hqb : ((b : Int)).tdiv 8 = ((b / 8 : Nat) : Int) := by rw [Int.tdiv_eq_ediv_of_nonneg (by omega)]; omega
      have hQb : s.size - b / 8 ≤ 1000000 := by omega
      by_cases hl : m ≤ s.size - b / 8
      · have hm : mayB s b 0 (m : Nat) = true := decide_eq_true ⟨rfl, by omega, by omega⟩
        have HP : Hid (pieceB s b 0 (m : Nat) = s.extract (b / 8) (b / 8 + m)) := if_pos hm
        have HA : Hid (bytA s b 0 (m : Nat) = b + m * 8) := by
          show _ = _
          rw [show bytA s b 0 (m : Nat) = b + 8 * (m : Int).toNat from if_pos hm]
          omega
        have HE : Hid (bytE s b 0 (m : Nat) = 0) := by
          show _ = _
          unfold bytE
          rw [if_neg (by omega), if_neg (by omega), if_pos (by omega)]
        have c0 := hc.c0
        have c1 := hc.c1
        have f1 := hc.fr 1
        have hm8 : b + m * 8 ≤ 8 * s.size := by omega
        have hbm : b / 8 + m ≤ s.size := by omega
        generalize hLL : 8 * s.size - b = L at *
        generalize hQQ : s.size - b / 8 = Q at *
        generalize hBB : b / 8 = q at *
        have HLL := Lib.hid hLL
        have HQQ := Lib.hid hQQ
        have HBB := Lib.hid hBB
        clear hc hm h0 hLL hQQ hBB
        go_wp2_with (first | (go_at_call 48; refine (HW.out).mono ?_; rintro r w' ⟨rfl, rfl⟩) | (go_at_call 49; refine (HL.out).mono ?_; rintro r w' ⟨rfl, d, rfl⟩))
        go_ret
        refine ⟨by rw [HP.out]; rfl, ?_, grown_then HG.out (grown_then (grown_drewN _ d _) (grown_set _ g 1 _))⟩
        rw [HA.out, HE.out]
        exact (HC.out.drewN d).setAt (b + m * 8)
      · have hm : ¬ mayB s b 0 (m : Nat) = true := fun h => by
          have := of_decide_eq_true h
          omega
        have HP : Hid (pieceB s b 0 (m : Nat) = ⟨#[]⟩) := if_neg hm
        have HA : Hid (bytA s b 0 (m : Nat) = b) := if_neg hm
        have HE : Hid (bytE s b 0 (m : Nat) = 3) := by
          show _ = _
          unfold bytE
          rw [if_neg (by omega), if_neg (by omega), if_neg (by omega)]
        have c2 := hc.c2
        have f2 := hc.fr 2
        generalize hLL : 8 * s.size - b = L at *
        generalize hQQ : s.size - b / 8 = Q at *
        clear hc hm h0 hLL hQQ
        go_wp2_with (first | (go_at_call 48; refine (HW.out).mono ?_; rintro r w' ⟨rfl, rfl⟩) | (go_at_call 49; refine (HL.out).mono ?_; rintro r w' ⟨rfl, d, rfl⟩))
        go_ret
        refine ⟨by rw [HP.out]; rfl, ?_, grown_then HG.out (grown_then (grown_drewN _ d _) (grown_set _ g 2 _))⟩
        rw [HA.out, HE.out]
        exact (HC.out.drewN d).setErr 3
  · have HW := Lib.hid (well_no g s b e he w1 hc)
    have hm : ¬ mayB s b e n = true := fun h => he (of_decide_eq_true h).1
    have HP : Hid (pieceB s b e n = ⟨#[]⟩) := if_neg hm
    have HA : Hid (bytA s b e n = b) := if_neg hm
    have HE : Hid (bytE s b e n = e) := if_pos he
    clear hc hm he h8
    go_wp2_with (first | (go_at_call 48; refine (HW.out).mono ?_; rintro r w' ⟨rfl, rfl⟩))
    go_ret
    refine ⟨by rw [HP.out]; rfl, ?_, HG.out⟩
    rw [HA.out, HE.out]
    exact HC.out
end Go.Proofs.Ytbgclbnbnpnolaa
