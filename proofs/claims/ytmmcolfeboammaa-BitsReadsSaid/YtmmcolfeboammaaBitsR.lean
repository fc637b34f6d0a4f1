/-
  Contracts: the document's reader.
-/
import Derived.Test.YtmmcolfeboammaaBitsC
namespace Go.Proofs.Ytmmcolfeboammaa
open Go.RowKit Go.Joins

theorem rbit_any (s : ByteArray) (a : Nat) (hs : s.size ≤ 1000000) (ha : a < 8 * s.size) (w : World) :
    Calls Try.prog 58 #[.string s, .int .i64 a] w fun r w' => r = .returned (.int .u32 (bitsAt (num s) a 1 : Nat)) ∧ w = w' := by
  have h8 : a / 8 < s.size := by omega
  have HB := Lib.hid (bit_of_byte s a h8)
  have hq : (a : Int).tdiv 8 = (a / 8 : Nat) := by rw [Int.tdiv_eq_ediv_of_nonneg (by omega)]; omega
  have hm : (a : Int).tmod 8 = (a % 8 : Nat) := by rw [Int.tmod_eq_emod_of_nonneg (by omega)]; omega
  have hr : a % 8 < 8 := Nat.mod_lt _ (by omega)
  have hx := s[a / 8].toNat_lt
  generalize hxx : s[a / 8].toNat = x at *
  have HX := Lib.hid hxx
  generalize a / 8 = q at *
  generalize a % 8 = r at *
  have hxx : s[q].toNat = x := HX.out
  go_enter Try.func58, Try.ntmps58
  go_wp2
  go_loop [5, 6] (fun b i => ∃ k : Nat, k ≤ r ∧ i = .int .i64 k ∧ b = .int .i64 (x / 2 ^ k : Nat)) (fun _ i => r - (intOf i).toNat)
  case atStart => exact ⟨0, Nat.zero_le _, rfl, by simp⟩
  case round =>
    obtain ⟨k, hk, rfl, rfl⟩ := hrel
    have hy : x / 2 ^ k < 256 := Nat.lt_of_le_of_lt (Nat.div_le_self _ _) hx
    have HS : Hid (x / 2 ^ k / 2 = x / 2 ^ (k + 1)) := by show _ = _; rw [Nat.div_div_eq_div_mul, Nat.pow_succ]
    by_cases hlt : k < r
    · generalize x / 2 ^ k = y at *
      have hd : (y : Int).tdiv 2 = (y / 2 : Nat) := by rw [Int.tdiv_eq_ediv_of_nonneg (by omega)]; omega
      go_wp2
      go_round
      case rel => exact ⟨k + 1, by omega, by go_num, by rw [← HS.out]; go_num⟩
      case measure => simp [intOf]; omega
    · obtain rfl : k = r := by omega
      generalize hyy : x / 2 ^ k = y at *
      have HY := Lib.hid hyy
      have hd : (y : Int).tmod 2 = (y % 2 : Nat) := by rw [Int.tmod_eq_emod_of_nonneg (by omega)]; omega
      clear hyy
      go_wp2
      go_ret
      exact ⟨ret_eq (by rw [← HB.out]; go_num), rfl⟩

theorem rnumber_any (g : Nat) (s : ByteArray) (a e m : Nat) (hs : s.size ≤ 1000000) (ha : a + m ≤ 8 * s.size) (hm : m ≤ 32) (w : World) (hc : Rd 28 w g s a e) :
    Calls Try.prog 50 #[.pointer (some ⟨g, 0, none⟩), .int .i64 m] w fun r w' => r = .returned (.int .u32 (bitsAt (num s) a m : Nat)) ∧ ∃ d, w' = w.drewN d := by
  have c0 := hc.c0
  have c1 := hc.c1
  clear hc
  have HBit := Lib.hid (fun k (hk : k < m) w => rbit_any s (a + k) hs (by omega) w)
  have HV := Lib.hid (fun k => bitsAt_succ (num s) a k)
  have HVl := Lib.hid (fun k (hk : k ≤ 32) => bitsAt_lt32 (num s) a k hk)
  have HVp := Lib.hid (fun k => bitsAt_lt (num s) a k)
  have HV0 := Lib.hid (bitsAt_zero (num s) a)
  have HB1 := Lib.hid (fun k => bitsAt_lt (num s) (a + k) 1)
  go_enter Try.func50, Try.ntmps50
  go_wp2
  go_loopw [5, 6, 7] (fun v x i wr => ∃ k d : Nat, k ≤ m ∧ i = .int .i64 k ∧ v = .int .u32 (bitsAt (num s) a k : Nat) ∧ x = .int .u32 (2 ^ k % 4294967296 : Nat) ∧ wr = w.drewN d) (fun _ _ i _ => m - (intOf i).toNat)
  case atStart => exact ⟨0, 0, Nat.zero_le _, rfl, by rw [HV0.out]; rfl, rfl, rfl⟩
  case round =>
    obtain ⟨k, d, hk, rfl, rfl, rfl, hwd⟩ := hrel
    have c0' : wr.cell? ⟨g, 0, none⟩ = some (.string s) := by rw [hwd]; exact c0
    have c1' : wr.cell? ⟨g, 1, none⟩ = some (.int .i64 a) := by rw [hwd]; exact c1
    have HWD := Lib.hid hwd
    clear hwd
    by_cases hlt : k < m
    · have hak : IntKind.i64.wrap ((a : Int) + (k : Int)) = (a : Int) + (k : Int) := by rw [IntKind.wrap_i64]; omega
      have hb := HBit.out k hlt
      have hv := HV.out k
      have hvl := HVl.out (k + 1) (by omega)
      have hvk := HVl.out k (by omega)
      have hb1 := HB1.out k
      have hp : 2 ^ k % 4294967296 = 2 ^ k := Nat.mod_eq_of_lt (Nat.lt_of_le_of_lt (Nat.pow_le_pow_right (n := 2) (by omega) (show k ≤ 31 by omega)) (by decide))
      have hp2 : 2 ^ k ≤ 2147483648 := Nat.pow_le_pow_right (n := 2) (by omega) (show k ≤ 31 by omega)
      have hn : 2 ^ (k + 1) % 4294967296 = 2 ^ k * 2 % 4294967296 := by rw [Nat.pow_succ]
      rw [hp]
      rw [hv] at hvl
      have HN := Lib.hid hn
      have HVK := Lib.hid hv
      clear hp hn hv
      generalize bitsAt (num s) a k = V at *
      generalize bitsAt (num s) (a + k) 1 = b at *
      generalize 2 ^ k = p at *
      have hbb : b = 0 ∨ b = 1 := by omega
      obtain ⟨t, htt, htl⟩ : ∃ t, p * b = t ∧ V + t < 4294967296 := ⟨p * b, rfl, hvl⟩
      have ht1 : ((p : Int) * (b : Int)) = (t : Int) := by rw [← htt]; simp
      have ht2 : (t : Int) % 4294967296 = t := by omega
      have ht3 : ((V : Int) + (t : Int)) % 4294967296 = (V : Int) + (t : Int) := by omega
      have HTT := Lib.hid htt
      have HBC := Lib.hid hb
      clear hb hbb hvl htt
      go_wp2
      go_quiet ((go_at_call 58; exact Calls.quiet_of_same ((HBC.out _).mono fun _ _ h => ⟨h.1, h.2.symm⟩)))
      go_wp2
      go_roundw
      case rel => exact ⟨k + 1, d + nq, by omega, by go_num, by rw [HVK.out, HTT.out]; rfl, by rw [HN.out]; rfl, by rw [HWD.out, World.drewN_drewN]⟩
      case measure => simp [intOf]; omega
    · obtain rfl : k = m := by omega
      go_wp2
      go_ret
      exact ⟨rfl, _, HWD.out⟩

theorem rpeek_any (g : Nat) (s : ByteArray) (a e : Nat) (n : Int) (hs : s.size ≤ 1000000) (ha : a ≤ 8 * s.size) (w : World) (hc : Rd 28 w g s a e) :
    Calls Try.prog 15 #[.pointer (some ⟨g, 0, none⟩), .int .i64 n] w fun r w' => r = .returned (.tuple #[.int .u32 (bitsAt (num s) a (peekM s a e n) : Nat), .int .i64 (peekM s a e n : Nat)]) ∧ ∃ d, w' = w.drewN d := by
  have c0 := hc.c0
  have c1 := hc.c1
  have c2 := hc.c2
  by_cases he : e = 0
  · subst he
    by_cases h0 : n < 0
    · have HM : Hid (peekM s a 0 n = 0) := if_neg (by omega)
      clear hc
      go_enter Try.func15, Try.ntmps15
      go_wp2
      go_ret2
      exact ⟨by rw [HM.out, bitsAt_zero]; rfl, 0, rfl⟩
    · obtain ⟨m, rfl⟩ := Int.eq_ofNat_of_zero_le (show 0 ≤ n by omega)
      by_cases h32 : m ≤ 32
      · by_cases hml : m ≤ 8 * s.size - a
        · have HM : Hid (peekM s a 0 (m : Nat) = m) := by
            show _ = _
            unfold peekM
            rw [if_pos (by omega)]
            omega
          have hd : decide ((8 : Int) * s.size - a < m) = false := decide_eq_false (by omega)
          have HN := Lib.hid (fun d => rnumber_any g s a 0 m hs (by omega) h32 (w.drewN d) (hc.drewN d))
          clear hc h0
          go_enter Try.func15, Try.ntmps15
          go_wp2
          go_quiet (fail)
          go_wp2_with (go_at_call 50; refine (HN.out _).mono ?_; rintro r w' ⟨rfl, d, rfl⟩)
          go_ret2
          exact ⟨by rw [HM.out]; rfl, nq + d, rfl⟩
        · have HM : Hid (peekM s a 0 (m : Nat) = 8 * s.size - a) := by
            show _ = _
            unfold peekM
            rw [if_pos (by omega)]
            omega
          have hd : decide ((8 : Int) * s.size - a < m) = true := decide_eq_true (by omega)
          have hn := fun d => rnumber_any g s a 0 (8 * s.size - a) hs (by omega) (by omega) (w.drewN d) (hc.drewN d)
          have e1 : ((8 * s.size - a : Nat) : Int) = (8 : Int) * s.size - a := by omega
          rw [e1] at hn
          have HE1 := Lib.hid e1
          have HN := Lib.hid hn
          clear hc h0 hn e1
          go_enter Try.func15, Try.ntmps15
          go_wp2
          go_quiet (fail)
          go_wp2_with (go_at_call 50; refine (HN.out _).mono ?_; rintro r w' ⟨rfl, d, rfl⟩)
          go_ret2
          exact ⟨by rw [HM.out, HE1.out]; rfl, nq + d, rfl⟩
      · have HM : Hid (peekM s a 0 (m : Nat) = 0) := if_neg (by omega)
        clear hc
        go_enter Try.func15, Try.ntmps15
        go_wp2
        go_ret2
        exact ⟨by rw [HM.out, bitsAt_zero]; rfl, 0, rfl⟩
  · have HM : Hid (peekM s a e n = 0) := if_neg (by omega)
    have he' : ((e : Int) == 0) = false := by rw [beq_eq_false_iff_ne]; omega
    clear hc
    go_enter Try.func15, Try.ntmps15
    go_wp2
    go_ret2
    exact ⟨by rw [HM.out, bitsAt_zero]; rfl, 0, rfl⟩

theorem rskip_any (g : Nat) (s : ByteArray) (a e : Nat) (n : Int) (hn : (Lit.int .i64 n).wf = true) (hs : s.size ≤ 1000000) (ha : a ≤ 8 * s.size) (w : World) (hc : Rd 28 w g s a e) :
    Calls Try.prog 17 #[.pointer (some ⟨g, 0, none⟩), .int .i64 n] w fun r w' => r = .returned (.tuple #[]) ∧ Rd 28 w' g s (skipA s a e n) (skipE s a e n) ∧ w.grownBy w' (some g) := by
  have hb := bounds_i64 hn
  have HC := Lib.hid hc
  have c0 := hc.c0
  have c1 := hc.c1
  have c2 := hc.c2
  have f1 := hc.fr 1
  have f2 := hc.fr 2
  clear hc hn
  by_cases he : e = 0
  · subst he
    by_cases h0 : n < 0
    · have HA : Hid (skipA s a 0 n = a) := if_neg (by omega)
      have HE : Hid (skipE s a 0 n = 2) := by
        show _ = _
        unfold skipE
        rw [if_neg (by omega), if_pos h0]
      go_enter Try.func17, Try.ntmps17
      go_wp2
      first | go_end0 | refine bodyPost_ret (results_none rfl _ _ _) rfl ?_
      refine ⟨rfl, ?_, grown_set _ g 2 _⟩
      rw [HA.out, HE.out]
      exact HC.out.setErr 2
    · obtain ⟨m, rfl⟩ := Int.eq_ofNat_of_zero_le (show 0 ≤ n by omega)
      by_cases hl : m ≤ 8 * s.size - a
      · have HA : Hid (skipA s a 0 (m : Nat) = a + m) := if_pos ⟨rfl, by omega, by omega⟩
        have HE : Hid (skipE s a 0 (m : Nat) = 0) := by
          show _ = _
          unfold skipE
          rw [if_neg (by omega), if_neg (by omega), if_pos (by omega)]
        have hd : decide ((8 : Int) * s.size - a < m) = false := decide_eq_false (by omega)
        have h0' : decide ((m : Int) < 0) = false := decide_eq_false (by omega)
        go_enter Try.func17, Try.ntmps17
        go_wp2
        go_quiet (fail)
        go_wp2
        first | go_end0 | refine bodyPost_ret (results_none rfl _ _ _) rfl ?_
        refine ⟨rfl, ?_, grown_then (grown_drewN w nq _) (grown_set _ g 1 _)⟩
        rw [HA.out, HE.out]
        exact (HC.out.drewN nq).setAt (a + m)
      · have HA : Hid (skipA s a 0 (m : Nat) = a) := if_neg (by omega)
        have HE : Hid (skipE s a 0 (m : Nat) = 3) := by
          show _ = _
          unfold skipE
          rw [if_neg (by omega), if_neg (by omega), if_neg (by omega)]
        have hd : decide ((8 : Int) * s.size - a < m) = true := decide_eq_true (by omega)
        have h0' : decide ((m : Int) < 0) = false := decide_eq_false (by omega)
        go_enter Try.func17, Try.ntmps17
        go_wp2
        go_quiet (fail)
        go_wp2
        first | go_end0 | refine bodyPost_ret (results_none rfl _ _ _) rfl ?_
        refine ⟨rfl, ?_, grown_then (grown_drewN w nq _) (grown_set _ g 2 _)⟩
        rw [HA.out, HE.out]
        exact (HC.out.drewN nq).setErr 3
  · have HA : Hid (skipA s a e n = a) := if_neg (by omega)
    have HE : Hid (skipE s a e n = e) := if_pos he
    have he' : ((e : Int) == 0) = false := by rw [beq_eq_false_iff_ne]; omega
    clear he
    go_enter Try.func17, Try.ntmps17
    go_wp2
    first | go_end0 | refine bodyPost_ret (results_none rfl _ _ _) rfl ?_
    refine ⟨rfl, ?_, World.grownBy.refl _ _⟩
    rw [HA.out, HE.out]
    exact HC.out

theorem rread_any (g : Nat) (s : ByteArray) (a e : Nat) (n : Int) (hs : s.size ≤ 1000000) (ha : a ≤ 8 * s.size) (w : World) (hc : Rd 28 w g s a e) :
    Calls Try.prog 23 #[.pointer (some ⟨g, 0, none⟩), .int .i64 n] w fun r w' => r = .returned (.int .u32 (bitsAt (num s) a (readM s a e n) : Nat)) ∧ Rd 28 w' g s (a + readM s a e n) (readE s a e n) ∧ w.grownBy w' (some g) := by
  have HC := Lib.hid hc
  have c0 := hc.c0
  have c1 := hc.c1
  have c2 := hc.c2
  have f1 := hc.fr 1
  have f2 := hc.fr 2
  by_cases he : e = 0
  · subst he
    by_cases h0 : n < 0 ∨ 32 < n
    · have HM : Hid (readM s a 0 n = 0) := if_neg (by omega)
      have HE : Hid (readE s a 0 n = 2) := by
        show _ = _
        unfold readE
        rw [if_neg (by omega), if_pos h0]
      clear hc
      rcases h0 with h0 | h0
      · go_enter Try.func23, Try.ntmps23
        go_wp2
        go_ret
        rw [HM.out, HE.out, bitsAt_zero, Nat.add_zero]
        exact ⟨rfl, HC.out.setErr 2, grown_set _ g 2 _⟩
      · go_enter Try.func23, Try.ntmps23
        go_wp2
        go_ret
        rw [HM.out, HE.out, bitsAt_zero, Nat.add_zero]
        exact ⟨rfl, HC.out.setErr 2, grown_set _ g 2 _⟩
    · obtain ⟨m, rfl⟩ := Int.eq_ofNat_of_zero_le (show 0 ≤ n by omega)
      have h32 : m ≤ 32 := by omega
      have h0' : decide ((m : Int) < 0) = false := decide_eq_false (by omega)
      by_cases hl : m ≤ 8 * s.size - a
      · have HM : Hid (readM s a 0 (m : Nat) = m) := if_pos ⟨rfl, by omega, by omega, by omega⟩
        have HE : Hid (readE s a 0 (m : Nat) = 0) := by
          show _ = _
          unfold readE
          rw [if_neg (by omega), if_neg (by omega), if_pos (by omega)]
        have hd : decide ((8 : Int) * s.size - a < m) = false := decide_eq_false (by omega)
        have HN := Lib.hid (fun d => rnumber_any g s a 0 m hs (by omega) h32 (w.drewN d) (hc.drewN d))
        clear hc h0
        go_enter Try.func23, Try.ntmps23
        go_wp2
        go_quiet (fail)
        go_wp2_with (go_at_call 50; refine (HN.out _).mono ?_; rintro r w' ⟨rfl, d, rfl⟩)
        go_ret
        rw [HM.out, HE.out]
        refine ⟨rfl, ?_, grown_then (grown_drewN w (nq + d) _) (grown_set _ g 1 _)⟩
        exact (HC.out.drewN (nq + d)).setAt (a + m)
      · have HM : Hid (readM s a 0 (m : Nat) = 0) := if_neg (by omega)
        have HE : Hid (readE s a 0 (m : Nat) = 3) := by
          show _ = _
          unfold readE
          rw [if_neg (by omega), if_neg (by omega), if_neg (by omega)]
        have hd : decide ((8 : Int) * s.size - a < m) = true := decide_eq_true (by omega)
        clear hc h0
        go_enter Try.func23, Try.ntmps23
        go_wp2
        go_quiet (fail)
        go_wp2
        go_ret
        rw [HM.out, HE.out, bitsAt_zero, Nat.add_zero]
        refine ⟨rfl, ?_, grown_then (grown_drewN w nq _) (grown_set _ g 2 _)⟩
        exact (HC.out.drewN nq).setErr 3
  · have HM : Hid (readM s a e n = 0) := if_neg (by omega)
    have HE : Hid (readE s a e n = e) := if_pos he
    have he' : ((e : Int) == 0) = false := by rw [beq_eq_false_iff_ne]; omega
    clear hc he
    go_enter Try.func23, Try.ntmps23
    go_wp2
    go_ret
    rw [HM.out, HE.out, bitsAt_zero, Nat.add_zero]
    exact ⟨rfl, HC.out, World.grownBy.refl _ _⟩
end Go.Proofs.Ytmmcolfeboammaa
