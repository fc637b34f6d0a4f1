/-
  Contracts: ParseOld on both sides, the document's PrintOwner, the chapter's example.
-/
import Derived.Test.YtmbifoockenniaaFlC
namespace Go.Proofs.Ytmbifoockenniaa
set_option maxRecDepth 100000
open Go.RowKit Go.Joins

def oldRes (s : ByteArray) : Value := if s.size = 0 then .tuple #[.int .u32 0, .int .u32 0, .int .i64 0] else if s.size = 4 then .tuple #[.int .u32 (numL ((nums s).take 2) : Nat), .int .u32 (numL ((nums s).drop 2) : Nat), .int .i64 0] else .tuple #[.int .u32 0, .int .u32 0, .int .i64 24]
theorem size_zero {s : ByteArray} (h : s.size = 0) : s = ⟨#[]⟩ := by
  apply nums_inj
  rw [List.eq_nil_of_length_eq_zero (l := nums s) (by rw [nums_len]; exact h)]
  rfl
theorem size_pos {s : ByteArray} (h : ¬ s.size = 0) : s.toList = [] ↔ False := by
  rw [Lib.toList_data]
  refine ⟨fun e => h ?_, fun e => e.elim⟩
  rw [← nums_len]
  unfold nums
  rw [e]
  rfl

theorem parseOld_any (s : ByteArray) (hs : s.size ≤ maxLen) (w : World) :
    Calls Try.prog 35 #[.string s] w fun e w' => e = .returned (oldRes s) ∧ Below w.heap.size w w' := by
  have HL := Lib.hid hs
  by_cases h0 : s.size = 0
  · obtain rfl := size_zero h0
    clear h0
    go_enter Try.func35, Try.ntmps35
    go_wp2_with fail
    go_ret3
    exact ⟨rfl, Below.refl _ _⟩
  · have hb : s.toList.isEmpty = false := by
      have := size_pos h0
      cases hc : s.toList with
      | nil => exact (this.1 hc).elim
      | cons _ _ => rfl
    have hb2 := size_pos h0
    have H0 := Lib.hid h0
    clear h0
    go_enter Try.func35, Try.ntmps35
    go_wp2_with fail
    refine (over_ci s _).mono ?_; rintro r wF ⟨rfl, C0⟩
    go_wp2_with fail
    refine (two_ci HL.out (Nat.zero_le _) C0).mono ?_; rintro r x1 ⟨rfl, C1⟩
    have hle1 := atB_le s 0 0 (2 : Nat) (Nat.zero_le _)
    have hm1 := numB_lt s 0 0 2
    generalize hA1 : atB s 0 0 (2 : Nat) = a1 at *
    generalize hE1 : errB s 0 0 (2 : Nat) = e1 at *
    generalize hM1 : numB s 0 0 2 = m1 at *
    have A1 := Lib.hid hA1; have E1 := Lib.hid hE1; have M1 := Lib.hid hM1
    clear hA1 hE1 hM1
    go_wp2_with fail
    refine (two_ci HL.out hle1 C1).mono ?_; rintro r x2 ⟨rfl, C2⟩
    have hle2 := atB_le s a1 e1 (2 : Nat) hle1
    have hm2 := numB_lt s a1 e1 2
    generalize hA2 : atB s a1 e1 (2 : Nat) = a2 at *
    generalize hE2 : errB s a1 e1 (2 : Nat) = e2 at *
    generalize hM2 : numB s a1 e1 2 = m2 at *
    have A2 := Lib.hid hA2; have E2 := Lib.hid hE2; have M2 := Lib.hid hM2
    clear hA2 hE2 hM2
    go_wp2_with fail
    refine (through_ci HL.out hle2 C2).mono ?_; rintro r x3 ⟨rfl, d, rfl⟩
    have B := Lib.hid (below_drewN C2.bel d)
    by_cases h4 : s.size = 4
    · have a1' : a1 = 2 := by rw [← A1.out]; exact atB_yes s 0 2 (by omega)
      have e1' : e1 = 0 := by rw [← E1.out]; exact errB_yes s 0 2 (by omega)
      subst a1' e1'
      have a2' : a2 = 4 := by rw [← A2.out]; exact atB_yes s 2 2 (by omega)
      have e2' : e2 = 0 := by rw [← E2.out]; exact errB_yes s 2 2 (by omega)
      subst a2' e2'
      have hm1 : m1 = numL ((nums s).take 2) := by
        rw [← M1.out]
        unfold numB
        rw [nums_piece s 0 2 (by omega)]
        rfl
      have hm2 : m2 = numL ((nums s).drop 2) := by
        rw [← M2.out]
        unfold numB
        rw [nums_piece s 2 2 (by omega), List.take_of_length_le (by rw [List.length_drop, nums_len]; omega)]
      have HR : Hid (oldRes s = .tuple #[.int .u32 (m1 : Nat), .int .u32 (m2 : Nat), .int .i64 0]) := by
        show _ = _
        unfold oldRes
        rw [if_neg H0.out, if_pos h4, hm1, hm2]
      have ht : thrB s 4 0 = true := decide_eq_true ⟨rfl, h4.symm⟩
      rw [ht]
      clear ht h4 hm1 hm2 A1 A2 E1 E2 M1 M2
      go_wp2_with fail
      go_ret3
      exact ⟨by rw [HR.out]; rfl, B.out⟩
    · have HR : Hid (oldRes s = .tuple #[.int .u32 0, .int .u32 0, .int .i64 24]) := by
        show _ = _
        unfold oldRes
        rw [if_neg H0.out, if_neg h4]
      have ht : thrB s a2 e2 = false := decide_eq_false fun h => h4 (by
        obtain ⟨he, ha⟩ := h
        have E2' := E2.out
        rw [he] at E2'
        obtain ⟨he1, _, k2, j2⟩ := errB_zero E2'
        have E1' := E1.out
        rw [he1] at E1'
        obtain ⟨_, _, k1, j1⟩ := errB_zero E1'
        have A2' := A2.out
        rw [he1] at A2' j2
        rw [A2'] at j2
        rw [A1.out] at j1
        rw [Int.toNat_natCast] at *
        omega)
      rw [ht]
      clear ht h4 A1 A2 E1 E2 M1 M2
      go_wp2_with fail
      go_ret3
      exact ⟨by rw [HR.out]; rfl, B.out⟩

theorem rnumber_q (s : ByteArray) (h8 : s.size ≤ 8) (w : World) :
    Calls Try.prog 44 #[.string s] w fun e w' => e = .returned (.int .u64 (numL (nums s) : Nat)) ∧ w' = w :=
  (rnumber_any s h8 w).mono fun _ _ h => ⟨h.1, h.2.symm⟩
theorem rparseOld_any (s : ByteArray) (hs : s.size ≤ maxLen) (w : World) :
    Calls Try.prog 36 #[.string s] w fun e w' => e = .returned (oldRes s) ∧ Below w.heap.size w w' := by
  unfold maxLen at hs
  by_cases h0 : s.size = 0
  · obtain rfl := size_zero h0
    clear h0
    go_enter Try.func36, Try.ntmps36
    go_wp2_with fail
    go_ret3
    exact ⟨rfl, Below.refl _ _⟩
  · have h0b : ((s.size : Int) == 0) = false := by rw [beq_eq_false_iff_ne]; omega
    by_cases h4 : s.size = 4
    · have h4b : ((s.size : Int) != 4) = false := by rw [h4]; rfl
      have z1 : (s.extract 0 2).size ≤ 8 := by rw [ByteArray.size_extract]; omega
      have z2 : (s.extract 2 s.size).size ≤ 8 := by rw [ByteArray.size_extract]; omega
      have y1 : numL (nums (s.extract 0 2)) = numL ((nums s).take 2) := by rw [nums_ext]; rfl
      have y2 : numL (nums (s.extract 2 s.size)) = numL ((nums s).drop 2) := by rw [nums_ext, List.take_of_length_le (by rw [List.length_drop, nums_len]; omega)]
      have q1 : numL ((nums s).take 2) < 65536 := by
        have := numL_lt ((nums s).take 2) (fun x hx => nums_lt s x (List.mem_of_mem_take hx))
        rw [List.length_take, nums_len, h4] at this
        exact this
      have q2 : numL ((nums s).drop 2) < 65536 := by
        have := numL_lt ((nums s).drop 2) (fun x hx => nums_lt s x (List.mem_of_mem_drop hx))
        rw [List.length_drop, nums_len, h4] at this
        exact this
      have HR : Hid (oldRes s = .tuple #[.int .u32 (numL ((nums s).take 2) : Nat), .int .u32 (numL ((nums s).drop 2) : Nat), .int .i64 0]) := by
        show _ = _
        unfold oldRes
        rw [if_neg h0, if_pos h4]
      have hle : 2 ≤ s.size := by omega
      rw [← y1] at q1 HR
      rw [← y2] at q2 HR
      clear h0 h4 y1 y2
      go_enter Try.func36, Try.ntmps36
      go_wp2_with fail
      go_quiet ((go_at_call 44; exact Calls.quiet_of_same (rnumber_q _ (by assumption) _)))
      go_wp2_with fail
      go_ret3
      exact ⟨by rw [HR.out]; rfl, below_drewN (Below.refl _ _) _⟩
    · have h4b : ((s.size : Int) != 4) = true := by rw [bne_iff_ne]; omega
      have HR : Hid (oldRes s = .tuple #[.int .u32 0, .int .u32 0, .int .i64 24]) := by
        show _ = _
        unfold oldRes
        rw [if_neg h0, if_neg h4]
      clear h0 h4
      go_enter Try.func36, Try.ntmps36
      go_wp2_with fail
      go_ret3
      exact ⟨by rw [HR.out]; rfl, Below.refl _ _⟩

theorem rof_n (n m : Nat) (hn : n < 18446744073709551616) (hm : m ≤ 64) (w : World) :
    Calls Try.prog 49 #[.int .u64 n, .int .i64 m] w fun e w' => e = .returned (.string (text (le n m))) ∧ Below w.heap.size w w' := by
  have h := rof_any n hn m (WalkArith.wf_i64 (by omega)) w
  rw [show (min (m : Int) 64).toNat = m by omega] at h
  exact h
theorem rprintOwner_any (u g : Nat) (hu : u < 4294967296) (hg : g < 4294967296) (w : World) :
    Calls Try.prog 38 #[.int .u32 u, .int .u32 g] w fun e w' => e = .returned (.string (ownT u g)) ∧ Below w.heap.size w w' := by
  have z0 : (text (le 1 1)).size ≤ 1 := by rw [text_size, le_len]; omega
  have z3 : (text (le 4 1)).size ≤ 1 := by rw [text_size, le_len]; omega
  have z1 : (text (le u 4)).size ≤ 4 := by rw [text_size, le_len]; omega
  have z2 : (text (le g 4)).size ≤ 4 := by rw [text_size, le_len]; omega
  have HO : Hid (ownT u g = text (le 1 1) ++ text (le 4 1) ++ text (le u 4) ++ text (le 4 1) ++ text (le g 4)) := rfl
  go_enter Try.func38, Try.ntmps38
  go_wp2_with fail
  refine (rof_n 1 1 (by omega) (by omega) _).mono ?_; rintro r w1 ⟨rfl, h1⟩
  go_wp2_with fail
  refine (rof_n 4 1 (by omega) (by omega) _).mono ?_; rintro r w2 ⟨rfl, h2⟩
  have H2 := Lib.hid (below_then h1 h2)
  clear h1 h2
  go_wp2_with fail
  refine (rof_n u 4 (by omega) (by omega) _).mono ?_; rintro r w3 ⟨rfl, h3⟩
  have H3 := Lib.hid (below_then H2.out h3)
  clear h3
  go_wp2_with fail
  refine (rof_n 4 1 (by omega) (by omega) _).mono ?_; rintro r w4 ⟨rfl, h4⟩
  have H4 := Lib.hid (below_then H3.out h4)
  clear h4
  go_wp2_with fail
  refine (rof_n g 4 (by omega) (by omega) _).mono ?_; rintro r w5 ⟨rfl, h5⟩
  have H5 := Lib.hid (below_then H4.out h5)
  clear h5
  go_wp2_with fail
  go_ret
  exact ⟨by rw [HO.out]; rfl, H5.out⟩

theorem own12 (w : World) : Calls Try.prog 37 #[.int .u32 1, .int .u32 2] w fun e w' => e = .returned (.string ⟨#[1, 4, 1, 0, 0, 0, 4, 2, 0, 0, 0]⟩) ∧ Below w.heap.size w w' :=
  printOwner_any 1 2 (by omega) (by omega) w
theorem awake14_any (w : World) :
    Calls Try.prog 24 #[] w fun e w' => e = .returned (.bool true) ∧ Below w.heap.size w w' := by
  go_enter Try.func24, Try.ntmps24
  go_wp2_with fail
  refine (own12 _).mono ?_; rintro r w1 ⟨rfl, h1⟩
  go_wp2_with fail
  go_ret
  exact ⟨rfl, h1⟩
end Go.Proofs.Ytmbifoockenniaa
