/-
  The walk of GlobQuotes.
-/
import Derived.Test.YtmhalkkfpbkafaaDoorGlAA
import Derived.Test.YtmhalkkfpbkafaaDoorGlR
namespace Go.Proofs.YtmhalkkfpbkafaaDoor
set_option maxRecDepth 100000
set_option linter.unusedSimpArgs false
set_option linter.unusedVariables false
open Go.RowKit Go.Deep Go.Joins
open Go.Lib hiding intOf

theorem match_some (p s : ByteArray) (hp : p.size ≤ 65535) (hs : s.size ≤ 1000000) (C : Prop) (hC : C → ∃ ats, compF (runesB p) 0 [] = some ats ∧ mtB ats (runesB s) = true) (w : World) (hT : Tabs w) :
    Calls Tryd.prog 15 #[.string p, .string s] w fun e w' => ∃ (b : Bool) (z : Int), e = .returned (.tuple #[.bool b, .int .i64 z]) ∧ (C → b = true) ∧ Below w.heap.size w w' := by
  refine (match_any p s hp hs w hT).mono ?_
  rintro e w' ⟨⟨h1, h2⟩ | ⟨ats, h1, h2⟩, hb⟩
  · exact ⟨false, 22, h2, (fun c => by obtain ⟨ats, e1, _⟩ := hC c; rw [h1] at e1; cases e1), hb⟩
  · refine ⟨_, 0, h2, (fun c => ?_), hb⟩
    obtain ⟨ats', e1, e2⟩ := hC c
    rw [h1] at e1
    injection e1 with e1
    rw [e1]; exact e2
set_option maxHeartbeats 8000000 in
theorem globQuotes_walk (s o : ByteArray) (_ : s.size ≤ maxLen) (_ : o.size ≤ maxLen) (w : World) (hT : Tabs w) :
    Calls Tryd.prog 6 #[.string s, .string o] w fun e w' => e = .returned (.bool true) ∧ Below w.heap.size w w' := by
  have HA := Lib.hid (awake11_any w hT)
  by_cases h1 : 300 < s.size
  · have g1 : decide ((300 : Int) < (s.size : Int)) = true := decide_eq_true (by omega)
    have g2 : decide (300 < s.size) = true := decide_eq_true h1
    go_enter Tryd.func6, Tryd.ntmps6
    go_wp2_with fail
    refine HA.out.mono ?_; rintro e w1 ⟨rfl, hb⟩
    have HB1 := Lib.hid hb
    clear hb
    go_wp2_with fail
    go_ret
    exact ⟨rfl, HB1.out⟩
  have g1 : decide ((300 : Int) < (s.size : Int)) = false := decide_eq_false (by omega)
  by_cases h2 : 300 < o.size
  · have g2 : decide ((300 : Int) < (o.size : Int)) = true := decide_eq_true (by omega)
    go_enter Tryd.func6, Tryd.ntmps6
    go_wp2_with fail
    refine HA.out.mono ?_; rintro e w1 ⟨rfl, hb⟩
    have HB1 := Lib.hid hb
    clear hb
    go_wp2_with fail
    go_ret
    exact ⟨rfl, HB1.out⟩
  have g2 : decide ((300 : Int) < (o.size : Int)) = false := decide_eq_false (by omega)
  have hqs : (text (quoL (nums s))).size ≤ 600 := by
    have := quoL_len (nums s)
    rw [nums_len] at this
    rw [text_size]; omega
  have HT := Lib.hid hT
  have HQ := Lib.hid (fun w1 => quote_any s (by omega) w1)
  have H1 := Lib.hid (fun w1 h => match_val (text (quoL (nums s))) s (by omega) (by omega) (pat_self s) ((mtB_iff _ _).2 ((mt_plains _ _).2 rfl)) w1 h)
  obtain ⟨B2, hB2⟩ : ∃ B2, B2 = mtB (plains (runesB s)) (runesB o) := ⟨_, rfl⟩
  have H2 := Lib.hid (fun w1 h => match_val (text (quoL (nums s))) o (by omega) (by omega) (pat_self s) hB2.symm w1 h)
  have H3 := Lib.hid (fun w1 h => match_val ⟨#[42]⟩ s (by decide) (by omega) (pat_star (runesB s)).1 (pat_star (runesB s)).2 w1 h)
  have H4 := Lib.hid (fun w1 h => match_some (text (quoL (nums s)) ++ ⟨#[42]⟩) (s ++ o) (by rw [ByteArray.size_append]; show _ + 1 ≤ _; omega) (by rw [ByteArray.size_append]; omega) (validD o.data.toList = true) (fun hv => ⟨_, pat_ahead s, by rw [runesB_app _ _ (valid_nc o hv)]; exact mt_ahead _ _⟩) w1 h)
  have H5 := Lib.hid (fun w1 h => match_some (⟨#[42]⟩ ++ text (quoL (nums s))) (o ++ s) (by rw [ByteArray.size_append]; show 1 + _ ≤ _; omega) (by rw [ByteArray.size_append]; omega) (validD s.data.toList = true) (fun hv => ⟨_, pat_behind s (by rw [nums_text _ (quoL_lt _ (nums_lt256 s))]; exact quo_nc _ (valid_nc s hv)), by rw [runesB_app _ _ (valid_nc s hv)]; exact mt_behind _ _⟩) w1 h)
  have HV1 := Lib.hid (fun w1 h => valid_any s w1 (by omega) h)
  have HV2 := Lib.hid (fun w1 h => valid_any o w1 (by omega) h)
  have HEQ : Hid (validD s.data.toList = true → validD o.data.toList = true → B2 = decide (s = o)) := fun v1 v2 => by
    rw [hB2, Bool.eq_iff_iff, mtB_iff, mt_plains, decide_eq_true_iff]
    exact ⟨fun h => valid_inj s o v1 v2 h.symm, fun h => by rw [h]⟩
  clear hB2 hT
  generalize text (quoL (nums s)) = q at *
  generalize validD s.data.toList = V1 at *
  generalize validD o.data.toList = V2 at *
  have k1 : ¬ 9223372036854775807 < q.size + 1 := by omega
  have k2 : ¬ 9223372036854775807 < 1 + q.size := by omega
  have k3 : ¬ 9223372036854775807 < s.size + o.size := by omega
  have k4 : ¬ 9223372036854775807 < o.size + s.size := by omega
  have z1 : (⟨#[42]⟩ : ByteArray).size = 1 := rfl
  clear hqs
  go_enter Tryd.func6, Tryd.ntmps6
  go_wp2_with fail
  refine HA.out.mono ?_; rintro e w1 ⟨rfl, hb⟩
  have HT1 := Lib.hid (HT.out.below hb)
  have HB1 := Lib.hid hb
  clear hb
  go_wp2_with fail
  refine (HQ.out _).mono ?_; rintro e w2 ⟨rfl, hb⟩
  have HT2 := Lib.hid (HT1.out.below hb)
  have HB2 := Lib.hid (below_then HB1.out hb)
  clear hb
  go_wp2_with fail
  refine (H1.out _ HT2.out).mono ?_; rintro e w3 ⟨rfl, hb⟩
  have HT3 := Lib.hid (HT2.out.below hb)
  have HB3 := Lib.hid (below_then HB2.out hb)
  clear hb
  go_wp2_with fail
  refine (H2.out _ HT3.out).mono ?_; rintro e w4 ⟨rfl, hb⟩
  have HT4 := Lib.hid (HT3.out.below hb)
  have HB4 := Lib.hid (below_then HB3.out hb)
  clear hb
  go_wp2_with fail
  refine (H3.out _ HT4.out).mono ?_; rintro e w5 ⟨rfl, hb⟩
  have HT5 := Lib.hid (HT4.out.below hb)
  have HB5 := Lib.hid (below_then HB4.out hb)
  clear hb
  go_wp2_with fail
  refine (H4.out _ HT5.out).mono ?_; rintro e w6 ⟨B4, z4, rfl, hc4, hb⟩
  have HT6 := Lib.hid (HT5.out.below hb)
  have HB6 := Lib.hid (below_then HB5.out hb)
  have HC4 := Lib.hid hc4
  clear hb hc4
  go_wp2_with fail
  refine (H5.out _ HT6.out).mono ?_; rintro e w7 ⟨B5, z5, rfl, hc5, hb⟩
  have HT7 := Lib.hid (HT6.out.below hb)
  have HB7 := Lib.hid (below_then HB6.out hb)
  have HC5 := Lib.hid hc5
  clear hb hc5
  go_wp2_with fail
  refine (HV1.out _ HT7.out).mono ?_; rintro e w8 ⟨rfl, hb⟩
  have HT8 := Lib.hid (HT7.out.below hb)
  have HB8 := Lib.hid (below_then HB7.out hb)
  clear hb
  cases V1 with
  | false =>
    go_wp2_with fail
    go_ret
    exact ⟨rfl, HB8.out⟩
  | true =>
    go_wp2_with fail
    refine (HV2.out _ HT8.out).mono ?_; rintro e w9 ⟨rfl, hb⟩
    have HB9 := Lib.hid (below_then HB8.out hb)
    clear hb
    cases V2 with
    | false =>
      go_wp2_with fail
      go_ret
      exact ⟨rfl, HB9.out⟩
    | true =>
      obtain rfl : B4 = true := HC4.out (by simp)
      obtain rfl : B5 = true := HC5.out (by simp)
      have hEQ := HEQ.out (by simp) (by simp)
      by_cases hso : s = o
      · obtain rfl : B2 = true := by rw [hEQ]; exact decide_eq_true hso
        subst hso
        clear hEQ
        go_wp2_with fail
        go_ret
        exact ⟨rfl, HB9.out⟩
      · obtain rfl : B2 = false := by rw [hEQ]; exact decide_eq_false hso
        clear hEQ
        have hne : (s.toList == o.toList) = false := by
          rw [beq_eq_false_iff_ne]
          intro h
          rw [Lib.toList_data, Lib.toList_data] at h
          apply hso
          cases s with
          | mk a => cases o with
            | mk b =>
              have : a = b := Array.ext' h
              rw [this]
        clear hso
        go_wp2_with fail
        go_ret
        exact ⟨rfl, HB9.out⟩
end Go.Proofs.YtmhalkkfpbkafaaDoor
