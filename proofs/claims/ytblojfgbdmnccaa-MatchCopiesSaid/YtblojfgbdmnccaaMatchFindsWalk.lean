/-
  The walk of MatchFinds: it returns true, whatever the text and the level.
-/
import Derived.Test.YtblojfgbdmnccaaMatU
namespace Go.Proofs.Ytblojfgbdmnccaa
set_option maxRecDepth 100000
open Go.Joins Go.RowKit Go.Deep

theorem preT_all (s : ByteArray) : text (preT (bt s) s.size) = s := by
  have h : preT (bt s) s.size = nums s := by
    apply List.ext_getElem?
    intro i
    unfold preT
    by_cases hi : i < s.size
    · rw [List.getElem?_map, List.getElem?_range hi]
      have := nums_get s i hi
      rw [this]
      show some (bt s i) = _
      unfold bt
      rw [List.getD_eq_getElem?_getD, this]
      rfl
    · rw [List.getElem?_eq_none (by simp; omega), List.getElem?_eq_none (by rw [nums_len]; omega)]
  rw [h, text_nums]
theorem tok_zero (a : Nat → Nat) (n : Nat) (E : Nat → Int) (p : Nat) : (tokT a n E 0 p).l = 0 := by
  unfold tokT
  rw [long_zero]
  rfl
/-- What is found is the text. -/
theorem found_ok (s : ByteArray) (t k : Nat) (hs : s.size ≤ 10000) (h : Found s t k) : expE (tkT (bt s) s.size (befT (bt s) s.size) t) k = 0 ∧ text (expT (tkT (bt s) s.size (befT (bt s) s.size) t) k) = s ∧ k ≤ s.size := by
  obtain ⟨h1, h2, h3, _⟩ := run_ok (bt s) s.size t (by omega) k h.2
  refine ⟨h1, ?_, by rw [h.1] at h3; exact h3⟩
  rw [expT_ok h1, h2, h.1, preT_all]

set_option maxHeartbeats 8000000 in
theorem matchFinds_walk (s : ByteArray) (lv : Int) (_w0 : s.size ≤ maxLen) (_w1 : (Lit.int .i64 lv).wf = true) (w : World) :
    Calls Try.prog 5 #[.string s, .int .i64 lv] w fun e w' => e = .returned (.bool true) ∧ Below w.heap.size w w' := by
  unfold maxLen at *
  clear _w1
  by_cases h1 : 5000 < s.size
  · have g1 : decide ((5000 : Int) < (s.size : Int)) = true := decide_eq_true (by omega)
    have g2 : decide (5000 < s.size) = true := decide_eq_true h1
    go_enter Try.func5, Try.ntmps5
    go_wp2_with fail
    refine (awake7_any _).mono ?_; rintro e w1 ⟨rfl, hb1⟩
    go_wp2
    go_ret
    exact ⟨rfl, hb1⟩
  · have g1 : decide ((5000 : Int) < (s.size : Int)) = false := decide_eq_false (by omega)
    have g2 : decide (5000 < s.size) = false := decide_eq_false h1
    by_cases hl : lv < 0 ∨ 9 < lv
    · have HF := Lib.hid (fun W => find_arg s lv hl W)
      go_enter Try.func5, Try.ntmps5
      rcases hl with hl | hl
      · have g3 : decide (lv < 0) = true := decide_eq_true hl
        go_wp2_with fail
        refine (awake7_any _).mono ?_; rintro e w1 ⟨rfl, hb1⟩
        go_wp2_with fail
        refine (HF.out _).mono ?_; rintro e w2 ⟨rfl, rfl⟩
        go_wp2
        go_ret
        exact ⟨rfl, hb1⟩
      · have g3 : decide (lv < 0) = false := decide_eq_false (by omega)
        have g4 : decide (9 < lv) = true := decide_eq_true hl
        go_wp2_with fail
        refine (awake7_any _).mono ?_; rintro e w1 ⟨rfl, hb1⟩
        go_wp2_with fail
        refine (HF.out _).mono ?_; rintro e w2 ⟨rfl, rfl⟩
        go_wp2
        go_ret
        exact ⟨rfl, hb1⟩
    · obtain ⟨n, rfl⟩ : ∃ n : Nat, lv = (n : Nat) := ⟨lv.toNat, by omega⟩
      have hn : n ≤ 9 := by omega
      have HF := Lib.hid (fun W => find_any s n (by omega) hn W)
      have g3 : decide ((n : Int) < 0) = false := decide_eq_false (by omega)
      have g4 : decide ((9 : Int) < (n : Int)) = false := decide_eq_false (by omega)
      have g5 : decide (9 < n) = false := decide_eq_false (by omega)
      go_enter Try.func5, Try.ntmps5
      go_wp2_with fail
      refine (awake7_any _).mono ?_; rintro e w1 ⟨rfl, hb1⟩
      have HB1 := Lib.hid hb1
      clear hb1
      go_wp2_with fail
      refine (HF.out _).mono ?_; rintro e w2 ⟨k, A, c, rfl, hfd, hT, hb2⟩
      obtain ⟨hE, hX, hks⟩ := found_ok s (triesOf n) k (by omega) hfd
      have hz : n = 0 → ∀ i, (tkT (bt s) s.size (befT (bt s) s.size) (triesOf n) i).l = 0 := fun h i => by
        subst h
        exact tok_zero _ _ _ _
      have HT := Lib.hid hT
      have HB2 := Lib.hid (HB1.out.trans (hb2.mono HB1.out.size))
      have HTO := Lib.hid (to7_any A k c _ w2 hT (by omega))
      have HRX := Lib.hid (fun W A c (h : Toks W A k (tkT (bt s) s.size (befT (bt s) s.size) (triesOf n))) => rexpand_any A k c _ W h (by omega))
      rw [hE] at HRX
      have HZ := Lib.hid hz
      have hkb : k ≤ 5000 := by omega
      have hks2 : decide ((s.size : Int) < (k : Int)) = false := decide_eq_false (by omega)
      have hks3 : decide (s.size < k) = false := decide_eq_false (by omega)
      have htt : (text (expT (tkT (bt s) s.size (befT (bt s) s.size) (triesOf n)) k)).toList = s.toList := by rw [hX]
      clear hfd hE hX hT hb2 hz HF hks
      generalize tkT (bt s) s.size (befT (bt s) s.size) (triesOf n) = f at *
      go_wp2_with fail
      refine (HTO.out).mono ?_; rintro e w3 ⟨A3, c3, rfl, hT3, hb3⟩
      have HB3 := Lib.hid (HB2.out.trans (hb3.mono HB2.out.size))
      have HR3 := Lib.hid (HRX.out w3 A3 c3 hT3)
      have HTW : Hid (Toks w3 A k f) := HT.out.below (Nat.le_refl _) hb3
      clear hb3 hT3 HTO
      go_wp2_with fail
      refine (HR3.out).mono ?_; rintro e w4 ⟨rfl, hb4⟩
      have HB4 := Lib.hid (HB3.out.trans (hb4.mono HB3.out.size))
      have HTX : Hid (Toks w4 A k f) := HTW.out.below (Nat.le_refl _) hb4
      clear hb4 HR3 HRX
      generalize text (expT f k) = X at *
      go_wp2_with fail
      have hit := info_tok
      go_loopw [61] (fun i wr => ∃ j : Nat, j ≤ k ∧ i = .int .i64 (j : Nat) ∧ Hid (Toks wr A k f) ∧ Hid (Below w.heap.size w wr)) (fun i _ => k - (intOf i).toNat)
      case atStart => exact ⟨0, Nat.zero_le _, rfl, HTX, HB4⟩
      case round =>
        obtain ⟨j, hj, rfl, HTJ, HBJ⟩ := hrel
        by_cases hjk : j < k
        · obtain ⟨b, off, rfl, hbl, hc⟩ := HTJ.out (by omega)
          obtain ⟨hok, c0, c1, c2⟩ := hc j hjk
          have hzj := fun h => HZ.out h j
          have HBN := Lib.hid (HBJ.out.alloc HBJ.out.size (.cells #[.int .u8 ((f j).b : Nat), .int .i64 (f j).l, .int .i64 (f j).d] 56))
          have HTN := Lib.hid (HTJ.out.below (Nat.le_refl _) ((Below.refl _ _).alloc (Nat.le_refl _) (.cells #[.int .u8 ((f j).b : Nat), .int .i64 (f j).l, .int .i64 (f j).d] 56)))
          clear hc hok
          generalize hfj : f j = T at *
          clear hfj
          obtain ⟨tb, tl, td⟩ := T
          dsimp only at *
          by_cases hn0 : n = 0
          · have hl0 := hzj hn0
            subst hl0
            have hz1 : ((n : Int) == 0) = true := by rw [beq_iff_eq]; omega
            clear hn0 hzj
            go_wp2_with fail
            go_roundw
            case rel => exact ⟨j + 1, by omega, by go_num, HTN, HBN⟩
            case measure => simp [intOf]; omega
          · have hz1 : ((n : Int) == 0) = false := by rw [beq_eq_false_iff_ne]; omega
            clear hzj
            go_wp2_with fail
            go_roundw
            case rel => exact ⟨j + 1, by omega, by go_num, HTN, HBN⟩
            case measure => simp [intOf]; omega
        · obtain rfl : j = k := by omega
          go_wp2
          go_ret
          exact ⟨rfl, HBJ.out⟩
end Go.Proofs.Ytblojfgbdmnccaa
