/-
  The walk of BlockReads.
-/
import Derived.Test.YtopjmagbcnglhaaRfP
import Derived.Test.YtopjmagbcnglhaaPkCC
namespace Go.Proofs.Ytopjmagbcnglhaa
set_option maxRecDepth 100000
set_option linter.unusedVariables false
set_option linter.unusedSimpArgs false
open Go.RowKit Go.Deep Go.Joins
theorem toks_lt {w : World} {A : Option Addr} {n : Nat} {f : Nat → Tok} (h : Toks w A n f) : ∀ i, i < n → (f i).b < 256 := fun i hi => by
  obtain ⟨_, _, _, _, hc⟩ := h (by omega)
  exact (hc i hi).1.1
theorem text_expT {f : Nat → Tok} {n : Nat} (h : expE f n = 0) : text (expT f n) = text (expO f n) := by rw [expT_ok h]
set_option maxHeartbeats 16000000 in
theorem blockReads_walk (a0 a2 : Option Addr) (n0 c0 n2 c2 kn : Nat) (f g : Nat → Tok) (w : World) (hp0 : Toks w a0 n0 f) (hp2 : Toks w a2 n2 g) (hn0 : n0 ≤ 5864062014634) (hn2 : n2 ≤ 5864062014634) (hkn : kn < 256) :
    Calls Try.prog 3 #[.slice a0 n0 c0, .int .u8 (kn : Nat), .slice a2 n2 c2] w fun e w' => e = .returned (.bool true) ∧ Below w.heap.size w w' := by
  obtain ⟨s, hs⟩ : ∃ s, s = text (expT f n0) := ⟨_, rfl⟩
  obtain ⟨t, ht⟩ : ∃ t, t = text (expT g n2) := ⟨_, rfl⟩
  obtain ⟨e0, he0⟩ : ∃ e0, e0 = expE f n0 := ⟨_, rfl⟩
  obtain ⟨f0, hf0⟩ : ∃ f0, f0 = expE g n2 := ⟨_, rfl⟩
  have HX1 : Hid (∀ A c w1, Toks w1 A n0 f → Calls Try.prog 5 #[.slice A n0 c] w1 fun e w' => e = .returned (.tuple #[.string s, .int .i64 (e0 : Nat)]) ∧ Below w1.heap.size w1 w') := fun A c w1 h => by rw [hs, he0]; exact rexpand_any A n0 c f w1 h hn0
  have HX2 : Hid (∀ A c w1, Toks w1 A n2 g → Calls Try.prog 5 #[.slice A n2 c] w1 fun e w' => e = .returned (.tuple #[.string t, .int .i64 (f0 : Nat)]) ∧ Below w1.heap.size w1 w') := fun A c w1 h => by rw [ht, hf0]; exact rexpand_any A n2 c g w1 h hn2
  have HS := Lib.hid hs
  have HT := Lib.hid ht
  have HE := Lib.hid he0
  have HF := Lib.hid hf0
  have HP0 := Lib.hid hp0
  have HP2 := Lib.hid hp2
  clear hs ht he0 hf0 hp0 hp2
  by_cases b0 : 400 < n0
  · have d0 : decide ((400 : Int) < (n0 : Int)) = true := decide_eq_true (by omega)
    go_enter Try.func3, Try.ntmps3
    go_wp2_with fail
    refine (awake8_any _).mono ?_; rintro e w1 ⟨rfl, rfl⟩
    have HC1 := Lib.hid (to8_any a0 n0 c0 f w HP0.out hn0)
    go_wp2_with fail
    refine HC1.out.mono ?_; rintro e w2 ⟨A2, cc2, rfl, hT2, hb2⟩
    have HC2 := Lib.hid (HX1.out A2 cc2 w2 hT2)
    have HB2 := Lib.hid hb2
    clear hT2 hb2 HC1
    go_wp2_with fail
    refine HC2.out.mono ?_; rintro e w3 ⟨rfl, hb3⟩
    have HB3 := Lib.hid (HB2.out.trans (hb3.mono HB2.out.size))
    have HC3 := Lib.hid (to8_any a2 n2 c2 g w3 (HP2.out.below (Nat.le_refl _) HB3.out) hn2)
    clear hb3 HC2
    go_wp2_with fail
    refine HC3.out.mono ?_; rintro e w4 ⟨A4, cc4, rfl, hT4, hb4⟩
    have HB4 := Lib.hid (HB3.out.trans (hb4.mono HB3.out.size))
    have HC4 := Lib.hid (HX2.out A4 cc4 w4 hT4)
    clear hT4 hb4 HC3
    go_wp2_with fail
    refine HC4.out.mono ?_; rintro e w5 ⟨rfl, hb5⟩
    have HB5 := Lib.hid (HB4.out.trans (hb5.mono HB4.out.size))
    clear hb5 HC4

    go_wp2_with fail
    go_ret
    exact ⟨rfl, HB5.out⟩
  have d0 : decide ((400 : Int) < (n0 : Int)) = false := decide_eq_false (by omega)
  by_cases b1 : 400 < n2
  · have d1 : decide ((400 : Int) < (n2 : Int)) = true := decide_eq_true (by omega)
    go_enter Try.func3, Try.ntmps3
    go_wp2_with fail
    refine (awake8_any _).mono ?_; rintro e w1 ⟨rfl, rfl⟩
    have HC1 := Lib.hid (to8_any a0 n0 c0 f w HP0.out hn0)
    go_wp2_with fail
    refine HC1.out.mono ?_; rintro e w2 ⟨A2, cc2, rfl, hT2, hb2⟩
    have HC2 := Lib.hid (HX1.out A2 cc2 w2 hT2)
    have HB2 := Lib.hid hb2
    clear hT2 hb2 HC1
    go_wp2_with fail
    refine HC2.out.mono ?_; rintro e w3 ⟨rfl, hb3⟩
    have HB3 := Lib.hid (HB2.out.trans (hb3.mono HB2.out.size))
    have HC3 := Lib.hid (to8_any a2 n2 c2 g w3 (HP2.out.below (Nat.le_refl _) HB3.out) hn2)
    clear hb3 HC2
    go_wp2_with fail
    refine HC3.out.mono ?_; rintro e w4 ⟨A4, cc4, rfl, hT4, hb4⟩
    have HB4 := Lib.hid (HB3.out.trans (hb4.mono HB3.out.size))
    have HC4 := Lib.hid (HX2.out A4 cc4 w4 hT4)
    clear hT4 hb4 HC3
    go_wp2_with fail
    refine HC4.out.mono ?_; rintro e w5 ⟨rfl, hb5⟩
    have HB5 := Lib.hid (HB4.out.trans (hb5.mono HB4.out.size))
    clear hb5 HC4

    go_wp2_with fail
    go_ret
    exact ⟨rfl, HB5.out⟩
  have d1 : decide ((400 : Int) < (n2 : Int)) = false := decide_eq_false (by omega)
  by_cases b2 : e0 ≠ 0
  · have d2 : (((e0 : Nat) : Int) != 0) = true := by rw [bne_iff_ne]; omega
    go_enter Try.func3, Try.ntmps3
    go_wp2_with fail
    refine (awake8_any _).mono ?_; rintro e w1 ⟨rfl, rfl⟩
    have HC1 := Lib.hid (to8_any a0 n0 c0 f w HP0.out hn0)
    go_wp2_with fail
    refine HC1.out.mono ?_; rintro e w2 ⟨A2, cc2, rfl, hT2, hb2⟩
    have HC2 := Lib.hid (HX1.out A2 cc2 w2 hT2)
    have HB2 := Lib.hid hb2
    clear hT2 hb2 HC1
    go_wp2_with fail
    refine HC2.out.mono ?_; rintro e w3 ⟨rfl, hb3⟩
    have HB3 := Lib.hid (HB2.out.trans (hb3.mono HB2.out.size))
    have HC3 := Lib.hid (to8_any a2 n2 c2 g w3 (HP2.out.below (Nat.le_refl _) HB3.out) hn2)
    clear hb3 HC2
    go_wp2_with fail
    refine HC3.out.mono ?_; rintro e w4 ⟨A4, cc4, rfl, hT4, hb4⟩
    have HB4 := Lib.hid (HB3.out.trans (hb4.mono HB3.out.size))
    have HC4 := Lib.hid (HX2.out A4 cc4 w4 hT4)
    clear hT4 hb4 HC3
    go_wp2_with fail
    refine HC4.out.mono ?_; rintro e w5 ⟨rfl, hb5⟩
    have HB5 := Lib.hid (HB4.out.trans (hb5.mono HB4.out.size))
    clear hb5 HC4

    go_wp2_with fail
    go_ret
    exact ⟨rfl, HB5.out⟩
  have d2 : (((e0 : Nat) : Int) != 0) = false := by rw [bne_eq_false_iff_eq]; omega
  by_cases b3 : f0 ≠ 0
  · have d3 : (((f0 : Nat) : Int) != 0) = true := by rw [bne_iff_ne]; omega
    go_enter Try.func3, Try.ntmps3
    go_wp2_with fail
    refine (awake8_any _).mono ?_; rintro e w1 ⟨rfl, rfl⟩
    have HC1 := Lib.hid (to8_any a0 n0 c0 f w HP0.out hn0)
    go_wp2_with fail
    refine HC1.out.mono ?_; rintro e w2 ⟨A2, cc2, rfl, hT2, hb2⟩
    have HC2 := Lib.hid (HX1.out A2 cc2 w2 hT2)
    have HB2 := Lib.hid hb2
    clear hT2 hb2 HC1
    go_wp2_with fail
    refine HC2.out.mono ?_; rintro e w3 ⟨rfl, hb3⟩
    have HB3 := Lib.hid (HB2.out.trans (hb3.mono HB2.out.size))
    have HC3 := Lib.hid (to8_any a2 n2 c2 g w3 (HP2.out.below (Nat.le_refl _) HB3.out) hn2)
    clear hb3 HC2
    go_wp2_with fail
    refine HC3.out.mono ?_; rintro e w4 ⟨A4, cc4, rfl, hT4, hb4⟩
    have HB4 := Lib.hid (HB3.out.trans (hb4.mono HB3.out.size))
    have HC4 := Lib.hid (HX2.out A4 cc4 w4 hT4)
    clear hT4 hb4 HC3
    go_wp2_with fail
    refine HC4.out.mono ?_; rintro e w5 ⟨rfl, hb5⟩
    have HB5 := Lib.hid (HB4.out.trans (hb5.mono HB4.out.size))
    clear hb5 HC4

    go_wp2_with fail
    go_ret
    exact ⟨rfl, HB5.out⟩
  have d3 : (((f0 : Nat) : Int) != 0) = false := by rw [bne_eq_false_iff_eq]; omega
  by_cases b4 : 20000 < s.size
  · have d4 : decide ((20000 : Int) < (s.size : Int)) = true := decide_eq_true (by omega)
    go_enter Try.func3, Try.ntmps3
    go_wp2_with fail
    refine (awake8_any _).mono ?_; rintro e w1 ⟨rfl, rfl⟩
    have HC1 := Lib.hid (to8_any a0 n0 c0 f w HP0.out hn0)
    go_wp2_with fail
    refine HC1.out.mono ?_; rintro e w2 ⟨A2, cc2, rfl, hT2, hb2⟩
    have HC2 := Lib.hid (HX1.out A2 cc2 w2 hT2)
    have HB2 := Lib.hid hb2
    clear hT2 hb2 HC1
    go_wp2_with fail
    refine HC2.out.mono ?_; rintro e w3 ⟨rfl, hb3⟩
    have HB3 := Lib.hid (HB2.out.trans (hb3.mono HB2.out.size))
    have HC3 := Lib.hid (to8_any a2 n2 c2 g w3 (HP2.out.below (Nat.le_refl _) HB3.out) hn2)
    clear hb3 HC2
    go_wp2_with fail
    refine HC3.out.mono ?_; rintro e w4 ⟨A4, cc4, rfl, hT4, hb4⟩
    have HB4 := Lib.hid (HB3.out.trans (hb4.mono HB3.out.size))
    have HC4 := Lib.hid (HX2.out A4 cc4 w4 hT4)
    clear hT4 hb4 HC3
    go_wp2_with fail
    refine HC4.out.mono ?_; rintro e w5 ⟨rfl, hb5⟩
    have HB5 := Lib.hid (HB4.out.trans (hb5.mono HB4.out.size))
    clear hb5 HC4

    go_wp2_with fail
    go_ret
    exact ⟨rfl, HB5.out⟩
  have d4 : decide ((20000 : Int) < (s.size : Int)) = false := decide_eq_false (by omega)
  by_cases b5 : 20000 < t.size
  · have d5 : decide ((20000 : Int) < (t.size : Int)) = true := decide_eq_true (by omega)
    go_enter Try.func3, Try.ntmps3
    go_wp2_with fail
    refine (awake8_any _).mono ?_; rintro e w1 ⟨rfl, rfl⟩
    have HC1 := Lib.hid (to8_any a0 n0 c0 f w HP0.out hn0)
    go_wp2_with fail
    refine HC1.out.mono ?_; rintro e w2 ⟨A2, cc2, rfl, hT2, hb2⟩
    have HC2 := Lib.hid (HX1.out A2 cc2 w2 hT2)
    have HB2 := Lib.hid hb2
    clear hT2 hb2 HC1
    go_wp2_with fail
    refine HC2.out.mono ?_; rintro e w3 ⟨rfl, hb3⟩
    have HB3 := Lib.hid (HB2.out.trans (hb3.mono HB2.out.size))
    have HC3 := Lib.hid (to8_any a2 n2 c2 g w3 (HP2.out.below (Nat.le_refl _) HB3.out) hn2)
    clear hb3 HC2
    go_wp2_with fail
    refine HC3.out.mono ?_; rintro e w4 ⟨A4, cc4, rfl, hT4, hb4⟩
    have HB4 := Lib.hid (HB3.out.trans (hb4.mono HB3.out.size))
    have HC4 := Lib.hid (HX2.out A4 cc4 w4 hT4)
    clear hT4 hb4 HC3
    go_wp2_with fail
    refine HC4.out.mono ?_; rintro e w5 ⟨rfl, hb5⟩
    have HB5 := Lib.hid (HB4.out.trans (hb5.mono HB4.out.size))
    clear hb5 HC4

    go_wp2_with fail
    go_ret
    exact ⟨rfl, HB5.out⟩
  have d5 : decide ((20000 : Int) < (t.size : Int)) = false := decide_eq_false (by omega)
  obtain rfl : e0 = 0 := by omega
  obtain rfl : f0 = 0 := by omega
  have hes : expE f n0 = 0 := HE.out.symm
  have het : expE g n2 = 0 := HF.out.symm
  have hS : s = text (expO f n0) := HS.out.trans (text_expT hes)
  have hT : t = text (expO g n2) := HT.out.trans (text_expT het)
  have hls : (expO f n0).length ≤ 20000 := by rw [hS, text_size] at b4; omega
  have hlt : (expO g n2).length ≤ 20000 := by rw [hT, text_size] at b5; omega
  obtain ⟨k1, hk1⟩ : ∃ k1, k1 = kn / 3 % 3 := ⟨_, rfl⟩
  obtain ⟨k2, hk2⟩ : ∃ k2, k2 = kn % 3 := ⟨_, rfl⟩
  have hk1' : k1 ≤ 2 := by omega
  have hk2' : k2 ≤ 2 := by omega
  have hch1 : chkE (k1 : Nat) g n2 t = 0 := chk_exp het hk1' (by omega)
  have hch2 : chkE (k2 : Nat) f n0 s = 0 := chk_exp hes hk2' (by omega)
  obtain ⟨P1, hP1⟩ : ∃ P1, P1 = blkB k1 g n2 t false (0, 0) := ⟨_, rfl⟩
  obtain ⟨P2, hP2⟩ : ∃ P2, P2 = blkB k2 f n0 s true P1 := ⟨_, rfl⟩
  have hge1 : P1.2 ≤ 600000 := by rw [hP1]; have := blkB_small (last := false) (P := (0, 0)) hch1 (show n2 ≤ 1000 by omega); omega
  have hge2 : P2.2 ≤ 1200000 := by rw [hP2]; have := blkB_small (last := true) (P := P1) hch2 (show n0 ≤ 1000 by omega); omega
  have hsub : IntKind.i64.wrap (((P2.2 : Nat) : Int) - ((P1.2 : Nat) : Int)) = ((P2.2 - P1.2 : Nat) : Int) := by have := blkB_ge k2 n0 f s true P1; rw [← hP2] at this; rw [IntWalk.i64_in _ (by omega)]; omega
  have hge3 : P1.2 ≤ P2.2 := by rw [hP2]; exact blkB_ge _ _ _ _ _ _
  have HSZV : Hid (sizeV (k2 : Nat) f n0 s (P1.2 : Nat) = ((P2.2 - P1.2 : Nat) : Int)) := by show sizeV _ _ _ _ _ = _; rw [hP2]; exact sizeV_at hch2
  have HIN : Hid (inflM (srcR (text (le P2.1 ((P2.2 + 7) / 8))) 50000) 0 [] = .ok ((), P2.2, nums t ++ nums s)) := by
    show inflM _ _ _ = _
    have h := two_blocks hk1' hk2' het hes (toks_lt HP2.out) (toks_lt HP0.out) hlt hls
    rw [← hT, ← hS, ← hP1, ← hP2] at h
    rw [h]
    have e1 : nums t = expO g n2 := by rw [hT]; exact nums_text _ (expO_lt g n2 (toks_lt HP2.out))
    have e2 : nums s = expO f n0 := by rw [hS]; exact nums_text _ (expO_lt f n0 (toks_lt HP0.out))
    rw [e1, e2]
  have HP1e := Lib.hid hP1
  have HP2e := Lib.hid hP2
  have HCH1 := Lib.hid hch1
  have HCH2 := Lib.hid hch2
  have HK1 := Lib.hid hk1
  have HK2 := Lib.hid hk2
  have hq1 : (kn : Int).tdiv 3 = ((kn / 3 : Nat) : Int) := by rw [Int.tdiv_eq_ediv_of_nonneg (by omega)]; omega
  have hq2 : IntKind.u8.wrap ((kn / 3 : Nat) : Int) = ((kn / 3 : Nat) : Int) := by rw [IntKind.wrap_u8]; omega
  obtain ⟨kd, hkd⟩ : ∃ kd, kd = kn / 3 := ⟨_, rfl⟩
  rw [← hkd] at hq1 hq2
  have hq3 : (kd : Int).tmod 3 = ((k1 : Nat) : Int) := by rw [Int.tmod_eq_emod_of_nonneg (by omega)]; omega
  have hq4 : (kn : Int).tmod 3 = ((k2 : Nat) : Int) := by rw [Int.tmod_eq_emod_of_nonneg (by omega)]; omega
  have hq5 : IntKind.u8.wrap ((k1 : Nat) : Int) = ((k1 : Nat) : Int) := by rw [IntKind.wrap_u8]; omega
  have hq6 : IntKind.u8.wrap ((k2 : Nat) : Int) = ((k2 : Nat) : Int) := by rw [IntKind.wrap_u8]; omega
  clear hkd hk1 hk2 hP1 hP2 hch1 hch2 hls hlt hS hT hes het

  go_enter Try.func3, Try.ntmps3
  go_wp2_with fail
  refine (awake8_any _).mono ?_; rintro e w1 ⟨rfl, rfl⟩
  have HC1 := Lib.hid (to8_any a0 n0 c0 f w HP0.out hn0)
  go_wp2_with fail
  refine HC1.out.mono ?_; rintro e w2 ⟨A2, cc2, rfl, hT2, hb2⟩
  have HC2 := Lib.hid (HX1.out A2 cc2 w2 hT2)
  have HB2 := Lib.hid hb2
  clear hT2 hb2 HC1
  go_wp2_with fail
  refine HC2.out.mono ?_; rintro e w3 ⟨rfl, hb3⟩
  have HB3 := Lib.hid (HB2.out.trans (hb3.mono HB2.out.size))
  have HC3 := Lib.hid (to8_any a2 n2 c2 g w3 (HP2.out.below (Nat.le_refl _) HB3.out) hn2)
  clear hb3 HC2
  go_wp2_with fail
  refine HC3.out.mono ?_; rintro e w4 ⟨A4, cc4, rfl, hT4, hb4⟩
  have HB4 := Lib.hid (HB3.out.trans (hb4.mono HB3.out.size))
  have HC4 := Lib.hid (HX2.out A4 cc4 w4 hT4)
  clear hT4 hb4 HC3
  go_wp2_with fail
  refine HC4.out.mono ?_; rintro e w5 ⟨rfl, hb5⟩
  have HB5 := Lib.hid (HB4.out.trans (hb5.mono HB4.out.size))
  clear hb5 HC4

  go_upto_region 8 with fail
  have hw0 : WrB (w5.alloc (.cells #[.slice none 0 0, .int .u64 0, .int .i64 0] 32)) w5.heap.size w5.heap.size none (0, 0) := wr_new w5 w5.heap.size (Nat.le_refl _)
  have hb0 : Below w5.heap.size w5 (w5.alloc (.cells #[.slice none 0 0, .int .u64 0, .int .i64 0] 32)) := (Below.refl _ _).alloc (Nat.le_refl _) _
  have hs0 : w5.heap.size ≤ (w5.alloc (.cells #[.slice none 0 0, .int .u64 0, .int .i64 0] 32)).heap.size := by simp
  have hTg := ((HP2.out.below (Nat.le_refl _) HB5.out).tokB (Nat.le_refl w5.heap.size)).later hb0 (Nat.le_refl _)
  have hTf := ((HP0.out.below (Nat.le_refl _) HB5.out).tokB (Nat.le_refl w5.heap.size)).later hb0 (Nat.le_refl _)
  have HPUT1 := Lib.hid (bput_any w5.heap.size w5.heap.size k1 a2 n2 c2 g t false none (0, 0) (by omega) (by show (0 : Nat) ≤ _; omega) _ hs0 hTg hw0 HCH1.out)
  rw [← HP1e.out] at HPUT1
  have HTF := Lib.hid hTf
  have HW0 := Lib.hid hw0
  have HB0 := Lib.hid hb0
  have HS0 := Lib.hid hs0
  clear hw0 hb0 hs0 hTg hTf
  generalize hgw : w5.heap.size = gw at *
  generalize w5.alloc (.cells #[.slice none 0 0, .int .u64 0, .int .i64 0] 32) = w6 at *
  go_wp2_with fail
  refine HPUT1.out.mono ?_; rintro e w7 ⟨rfl, r7, hw7, hu7⟩
  have hTf7 := HTF.out.upd HW0.out hu7
  have hs7 : gw ≤ w7.heap.size := Nat.le_trans HS0.out hu7.1.size
  have HB7 : Hid (Below gw w5 w7) := Kept.below0 HS0.out HB0.out hu7.1 (Wr.ge HW0.out)
  have HW7 := Lib.hid hw7
  have HU7 := Lib.hid hu7
  have HTF7 := Lib.hid hTf7
  have HLEN := Lib.hid (wlen_any gw gw r7 P1.1 P1.2 (by omega) w7 hw7)
  clear hw7 hu7 hTf7 HPUT1
  go_wp2_with fail
  refine HLEN.out.mono ?_; rintro e w8 ⟨rfl, d8, rfl⟩
  have HSIZE := Lib.hid (size_any (k2 : Nat) a0 n0 c0 f s (P1.2 : Nat) (by omega) (w7.drewN d8) (show Toks (w7.drewN d8) a0 n0 f from HTF7.out.toks))
  rw [HSZV.out, HCH2.out] at HSIZE
  have HTF8 : Hid (TokB (w7.drewN d8) gw a0 n0 f) := HTF7.out
  have HW8 : Hid (WrB (w7.drewN d8) gw gw r7 P1) := wr_same HW7.out rfl
  have hs8 : gw ≤ (w7.drewN d8).heap.size := hs7
  have HB8 : Hid (Below gw w5 (w7.drewN d8)) := below_dN HB7.out d8
  clear HLEN HTF7 HW7 HB7 HU7
  generalize w7.drewN d8 = w8 at *
  go_wp2_with fail
  refine HSIZE.out.mono ?_; rintro e w9 ⟨rfl, hb9⟩
  have hs9 : gw ≤ w9.heap.size := Nat.le_trans hs8 hb9.size
  have hw9 := wr_later HW8.out hb9
  have hT9 := HTF8.out.later hb9 (Nat.le_refl _)
  have HPUT2 := Lib.hid (bput_any gw gw k2 a0 n0 c0 f s true r7 P1 (by omega) (by omega) w9 hs9 hT9 hw9 HCH2.out)
  rw [← HP2e.out] at HPUT2
  have HB9 : Hid (Below gw w5 w9) := HB8.out.trans (hb9.mono hs8)
  have HW9 := Lib.hid hw9
  clear hw9 hT9 HSIZE hb9
  go_wp2_with fail
  refine HPUT2.out.mono ?_; rintro e wA ⟨rfl, rA, hwA, huA⟩
  have HUA := Lib.hid huA
  have HWA := Lib.hid hwA
  have HDN := Lib.hid (wdone_any gw gw rA P2.1 P2.2 (by omega) wA hwA)
  obtain ⟨Z, hZ⟩ : ∃ Z, Z = text (le P2.1 ((P2.2 + 7) / 8)) := ⟨_, rfl⟩
  have hZs : Z.size = (P2.2 + 7) / 8 := by rw [hZ, text_size, le_len]
  rw [← hZ] at HDN HIN
  have HZ := Lib.hid hZ
  have HBA : Hid (Below gw w5 wA) := Kept.below0 hs9 HB9.out huA.1 (Wr.ge HW9.out)
  clear hwA huA HPUT2 hZ
  go_wp2_with fail
  refine HDN.out.mono ?_; rintro e wB ⟨rfl, hbB⟩
  have HINF := Lib.hid (rinflate_any Z 50000 (by omega) (by omega) wB)
  rw [HIN.out] at HINF
  have HTX : Hid (text (nums t ++ nums s) = t ++ s) := by show _ = _; rw [text_app, text_nums, text_nums]
  have HINF2 : Hid (Calls Try.prog 10 #[.string Z, .int .i64 50000] wB fun e w' => e = .returned (.tuple #[.string (t ++ s), .int .i64 ((Z.size : Nat) : Int), .int .i64 0]) ∧ Below wB.heap.size wB w') := by
    have h : Calls Try.prog 10 #[.string Z, .int .i64 50000] wB fun e w' => e = .returned (.tuple #[.string (text (nums t ++ nums s)), .int .i64 (((P2.2 + 7) / 8 : Nat) : Int), .int .i64 0]) ∧ Below wB.heap.size wB w' := HINF.out
    rw [HTX.out, ← hZs] at h
    exact h
  have HBB := Lib.hid hbB
  have HBB2 : Hid (Below gw w5 wB) := HBA.out.trans (hbB.mono (Nat.le_trans hs9 (Nat.le_trans HUA.out.1.size (Nat.le_refl _))))
  clear HINF HDN hbB
  go_wp2_with fail
  refine HINF2.out.mono ?_; rintro e wC ⟨rfl, hbC⟩
  have HWC := Lib.hid (wr_later (wr_later HWA.out HBB.out) hbC)
  have HDN2 := Lib.hid (wdone_any gw gw rA P2.1 P2.2 (by omega) wC HWC.out)
  have HBC : Hid (Below gw w5 wC) := HBB2.out.trans (hbC.mono (Nat.le_trans hs9 (Nat.le_trans HUA.out.1.size HBB.out.size)))
  rw [← HZ.out] at HDN2
  have HLE : Hid (w.heap.size ≤ gw) := by rw [← hgw]; exact HB5.out.size
  have hcat : ¬ 9223372036854775807 < t.size + s.size := by omega
  have HCC : Hid (wB.heap.size ≤ wC.heap.size) := hbC.size
  clear hbC HINF2
  go_wp2_with fail
  refine HDN2.out.mono ?_; rintro e wD ⟨rfl, hbD⟩
  have HBD : Hid (Below gw w5 wD) := HBC.out.trans (hbD.mono (Nat.le_trans (Nat.le_trans hs9 (Nat.le_trans HUA.out.1.size HBB.out.size)) HCC.out))
  have HLN2 := Lib.hid (wlen_any gw gw rA P2.1 P2.2 (by omega) wD (wr_later HWC.out hbD))
  clear hbD HDN2
  go_wp2_with fail
  refine HLN2.out.mono ?_; rintro e wE ⟨rfl, dE, rfl⟩
  go_wp2_with fail
  go_ret
  exact ⟨rfl, HB5.out.trans ((below_dN HBD.out dE).mono HLE.out)⟩
end Go.Proofs.Ytopjmagbcnglhaa
