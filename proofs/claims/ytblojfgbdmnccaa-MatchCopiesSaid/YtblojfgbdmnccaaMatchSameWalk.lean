/-
  The walk of MatchSame: it returns true, whatever the texts and the level.
-/
import Derived.Test.YtblojfgbdmnccaaMatchFindsWalk
namespace Go.Proofs.Ytblojfgbdmnccaa
set_option maxRecDepth 100000
open Go.Joins Go.RowKit Go.Deep

theorem found_one (s : ByteArray) (t j k : Nat) (h1 : Found s t j) (h2 : Found s t k) : j = k := by
  rcases Nat.lt_trichotomy j k with h | h | h
  · have := h2.2 j h; have := h1.1; omega
  · exact h
  · have := h1.2 k h; have := h2.1; omega
/-- Find of any level: it answers, and nothing of old memory is turned. -/
theorem find_all (s : ByteArray) (lv : Int) (hs : s.size ≤ 10000) (w : World) : Calls Try.prog 32 #[.string s, .int .i64 lv] w fun e w' =>
    ∃ A k c x, e = .returned (.tuple #[.slice A k c, .int .i64 x]) ∧ Below w.heap.size w w' := by
  by_cases hl : lv < 0 ∨ 9 < lv
  · refine (find_arg s lv hl w).mono ?_
    rintro e w' ⟨rfl, rfl⟩
    exact ⟨none, 0, 0, 2, rfl, Below.refl _ _⟩
  · obtain ⟨n, rfl⟩ : ∃ n : Nat, lv = (n : Nat) := ⟨lv.toNat, by omega⟩
    refine (find_any s n hs (by omega) w).mono ?_
    rintro e w' ⟨k, A, c, rfl, _, _, hb⟩
    exact ⟨A, k, c, 0, rfl, hb⟩
set_option maxHeartbeats 8000000 in
theorem matchSame_walk (s o : ByteArray) (lv : Int) (_w0 : s.size ≤ maxLen) (_w1 : o.size ≤ maxLen) (_w2 : (Lit.int .i64 lv).wf = true) (w : World) :
    Calls Try.prog 7 #[.string s, .string o, .int .i64 lv] w fun e w' => e = .returned (.bool true) ∧ Below w.heap.size w w' := by
  unfold maxLen at *
  clear _w2
  by_cases h1 : 3000 < s.size
  · have g1 : decide ((3000 : Int) < (s.size : Int)) = true := decide_eq_true (by omega)
    have g2 : decide (3000 < s.size) = true := decide_eq_true h1
    go_enter Try.func7, Try.ntmps7
    go_wp2_with fail
    refine (awake7_any _).mono ?_; rintro e w1 ⟨rfl, hb1⟩
    go_wp2
    go_ret
    exact ⟨rfl, hb1⟩
  · have g1 : decide ((3000 : Int) < (s.size : Int)) = false := decide_eq_false (by omega)
    have g2 : decide (3000 < s.size) = false := decide_eq_false h1
    by_cases h2 : 3000 < o.size
    · have g3 : decide ((3000 : Int) < (o.size : Int)) = true := decide_eq_true (by omega)
      have g4 : decide (3000 < o.size) = true := decide_eq_true h2
      go_enter Try.func7, Try.ntmps7
      go_wp2_with fail
      refine (awake7_any _).mono ?_; rintro e w1 ⟨rfl, hb1⟩
      go_wp2
      go_ret
      exact ⟨rfl, hb1⟩
    · have g3 : decide ((3000 : Int) < (o.size : Int)) = false := decide_eq_false (by omega)
      have g4 : decide (3000 < o.size) = false := decide_eq_false h2
      have HO := Lib.hid (fun W => find_all o lv (by omega) W)
      by_cases hl : lv < 0 ∨ 9 < lv
      · have HF := Lib.hid (fun W => find_arg s lv hl W)
        go_enter Try.func7, Try.ntmps7
        go_wp2_with fail
        refine (awake7_any _).mono ?_; rintro e w1 ⟨rfl, hb1⟩
        go_wp2_with fail
        refine (HF.out _).mono ?_; rintro e w2 ⟨rfl, rfl⟩
        go_wp2_with fail
        refine (HO.out _).mono ?_; rintro e w3 ⟨A3, k3, c3, x3, rfl, hb3⟩
        go_wp2_with fail
        refine (HF.out _).mono ?_; rintro e w4 ⟨rfl, rfl⟩
        go_wp2_with fail
        refine wp_loop_rounds 1 ?_
        rw [rounds_succ]
        go_wp2
        go_ret
        exact ⟨rfl, hb1.trans (hb3.mono hb1.size)⟩
      · obtain ⟨n, rfl⟩ : ∃ n : Nat, lv = (n : Nat) := ⟨lv.toNat, by omega⟩
        have HF := Lib.hid (fun W => find_any s n (by omega) (by omega) W)
        have HONE := Lib.hid (fun j k => found_one s (triesOf n) j k)
        have HKS := Lib.hid (fun k h => (found_ok s (triesOf n) k (by omega) h).2.2)
        clear hl
        generalize tkT (bt s) s.size (befT (bt s) s.size) (triesOf n) = f at *
        go_enter Try.func7, Try.ntmps7
        go_wp2_with fail
        refine (awake7_any _).mono ?_; rintro e w1 ⟨rfl, hb1⟩
        have HB1 := Lib.hid hb1
        clear hb1
        go_wp2_with fail
        refine (HF.out _).mono ?_; rintro e w2 ⟨k, A, c, rfl, hfd, hT, hb2⟩
        have hkb := HKS.out k hfd
        have HFD := Lib.hid hfd
        have HT := Lib.hid hT
        have HB2 := Lib.hid (HB1.out.trans (hb2.mono HB1.out.size))
        clear hfd hT hb2
        go_wp2_with fail
        refine (HO.out _).mono ?_; rintro e w3 ⟨A3, k3, c3, x3, rfl, hb3⟩
        have HB3 := Lib.hid (HB2.out.trans (hb3.mono HB2.out.size))
        have HT3 : Hid (Toks w3 A k f) := HT.out.below (Nat.le_refl _) hb3
        clear hb3
        go_wp2_with fail
        refine (HF.out _).mono ?_; rintro e w4 ⟨k2, A4, c4, rfl, hfd2, hT4, hb4⟩
        obtain rfl := HONE.out k k2 HFD.out hfd2
        have HB4 := Lib.hid (HB3.out.trans (hb4.mono HB3.out.size))
        have HT4 : Hid (Toks w4 A k f) := HT3.out.below (Nat.le_refl _) hb4
        have HU4 : Hid (Toks w4 A4 k f) := hT4
        clear hfd2 hT4 hb4
        have hkb2 : k ≤ 3000 := by omega
        have hit := info_tok
        go_wp2_with fail
        go_loopw [49] (fun i wr => ∃ j : Nat, j ≤ k ∧ i = .int .i64 (j : Nat) ∧ Hid (∃ n, wr = w4.drewN n)) (fun i _ => k - (intOf i).toNat)
        case atStart => exact ⟨0, Nat.zero_le _, rfl, 0, rfl⟩
        case round =>
          obtain ⟨j, hj, rfl, HD⟩ := hrel
          obtain ⟨nd, hd⟩ := HD.out
          by_cases hjk : j < k
          · obtain ⟨b, off, rfl, hbl, hc⟩ := HT4.out (by omega)
            obtain ⟨b2, off2, rfl, hbl2, hc2⟩ := HU4.out (by omega)
            obtain ⟨_, c0, c1, c2⟩ := hc j hjk
            obtain ⟨_, d0, d1, d2⟩ := hc2 j hjk
            have e0 := (World.cell?_of_block (w := w4) (w' := wr) (by rw [hd]; rfl)).trans c0
            have e1 := (World.cell?_of_block (w := w4) (w' := wr) (by rw [hd]; rfl)).trans c1
            have e2 := (World.cell?_of_block (w := w4) (w' := wr) (by rw [hd]; rfl)).trans c2
            have f0 := (World.cell?_of_block (w := w4) (w' := wr) (by rw [hd]; rfl)).trans d0
            have f1 := (World.cell?_of_block (w := w4) (w' := wr) (by rw [hd]; rfl)).trans d1
            have f2 := (World.cell?_of_block (w := w4) (w' := wr) (by rw [hd]; rfl)).trans d2
            clear hc hc2 c0 c1 c2 d0 d1 d2 hd
            go_wp2_with fail
            go_quiet (fail)
            go_wp2_with fail
            go_roundw
            case rel =>
              refine ⟨j + 1, by omega, by go_num, ?_⟩
              obtain ⟨nd, hd⟩ := HD.out
              exact ⟨nd + _, by rw [hd, World.drewN_drewN]⟩
            case measure => simp [intOf]; omega
          · obtain rfl : j = k := by omega
            rw [hd]
            clear hd
            go_wp2
            go_ret
            exact ⟨rfl, below_drewN HB4.out nd⟩
end Go.Proofs.Ytblojfgbdmnccaa
