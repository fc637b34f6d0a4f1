/-
  The walk of WeighLengths.
-/
import Derived.Test.YtljekdnjdcfliaaWLst
import Derived.Test.YtljekdnjdcfliaaWeighMoreWalk
import Derived.Test.YtljekdnjdcfliaaWeighCostsWalk
namespace Go.Proofs.Ytljekdnjdcfliaa
open Go.RowKit

theorem sum_scale (L : Nat → Nat) (most : Nat) (hm : most ≤ 15) (l : List Nat) (h : ∀ s ∈ l, L s ≤ most) : (l.map fun s => 2 ^ (15 - L s)).sum = 2 ^ (15 - most) * (l.map fun s => 2 ^ (most - L s)).sum := by
  induction l with
  | nil => simp
  | cons s l ih =>
    have hs := h s (by simp)
    rw [List.map_cons, List.map_cons, List.sum_cons, List.sum_cons, ih fun t ht => h t (by simp [ht]), Nat.mul_add, ← Nat.pow_add, show 15 - most + (most - L s) = 15 - L s by omega]
theorem fill_come (f L : Nat → Nat) (n : Nat) (h : ∀ i, i < n → (0 < L i ↔ 0 < f i)) : fillN L n = ((comeL f n).map fun s => 2 ^ (15 - L s)).sum := by
  induction n with
  | zero => rfl
  | succ n ih =>
    have hn := h n (by omega)
    rw [fillN, comeL, ih fun i hi => h i (by omega)]
    by_cases hf : 0 < f n
    · rw [if_pos hf, if_neg (by omega), List.map_append, List.sum_append]; simp
    · rw [if_neg hf, if_pos (by omega)]; simp
/-- A length for each that comes, and for no other. -/
theorem spec_iff {f L : Nat → Nat} {n most : Nat} (h : LenSpec f n most L) (hm : 1 ≤ most) (hpow : (comeL f n).length ≤ 2 ^ most) (i : Nat) (hi : i < n) : (0 < L i ↔ 0 < f i) ∧ ((comeL f n).length = 1 → L i ≤ 1) := by
  rcases Nat.lt_or_ge (comeL f n).length 2 with h2 | h2
  · obtain ⟨S, hp, hs, h0, hone, _⟩ := h
    have hl := hp.length_eq
    rcases Nat.eq_zero_or_pos (f i) with hz | hz
    · rw [h0 i hi hz, hz]; simp
    · obtain ⟨j, hj, e⟩ := List.getElem_of_mem (hp.mem_iff.2 (comeL_mem f n i hi hz))
      have hj0 : j = 0 := by omega
      subst hj0
      have e2 : at0 S 0 = i := by rw [at0, List.getElem?_eq_getElem hj, e]; rfl
      have := hone (by omega)
      rw [e2] at this
      exact ⟨by omega, by omega⟩
  · obtain ⟨_, _, _, _, hb, _⟩ := spec_cost h hm h2 hpow
    obtain ⟨S, hp, hs, h0, _, _⟩ := h
    rcases Nat.eq_zero_or_pos (f i) with hz | hz
    · rw [h0 i hi hz, hz]; simp
    · have := hb i (comeL_mem f n i hi hz)
      exact ⟨by omega, by omega⟩
theorem spec_fill {f L : Nat → Nat} {n most : Nat} (h : LenSpec f n most L) (hm : 1 ≤ most) (hm15 : most ≤ 15) (h2 : 2 ≤ (comeL f n).length) (hpow : (comeL f n).length ≤ 2 ^ most) : fillN L n = 32768 := by
  obtain ⟨_, _, _, _, hb, hk⟩ := spec_cost h hm h2 hpow
  rw [fill_come f L n fun i hi => (spec_iff h hm hpow i hi).1, sum_scale L most hm15 _ fun s hs => (hb s hs).2, hk, ← Nat.pow_add, show 15 - most + most = 15 by omega]
theorem spec_leastL {f L : Nat → Nat} {n most : Nat} (h : LenSpec f n most L) (hm : 1 ≤ most) (h2 : 2 ≤ (comeL f n).length) (hpow : (comeL f n).length ≤ 2 ^ most) : costN f L n = leastOf (sgL f n) most := by
  obtain ⟨S, hp, hpw, hc, _⟩ := spec_cost h hm h2 hpow
  rw [hc, sorted_perm ((hp.map f).trans (sgL_perm f n).symm) hpw (sgL_srt f n)]

set_option maxRecDepth 100000 in
set_option maxHeartbeats 16000000 in
theorem lengths_law (a0 : Option Addr) (len0 cap0 : Nat) (a1 : Int) (f : Nat → Nat) (w : World) (hC : Cts w a0 len0 f) :
    Calls Try.prog 5 #[.slice a0 len0 cap0, .int .i64 a1] w fun e w' => e = .returned (.bool true) ∧ Below w.heap.size w w' := by
  go_enter Try.func5, Try.ntmps5
  go_wp2_with fail
  refine (awake_any w).mono ?_
  rintro e w2 ⟨rfl, hb2⟩
  have HC2 := Lib.hid (hC.below (Nat.le_refl _) hb2)
  have HB2 := Lib.hid hb2
  clear hC
  by_cases hbig : 410 < len0
  · go_wp2_with fail
    go_ret
    exact ⟨rfl, hb2⟩
  · clear hb2
    have HCM := Lib.hid (fun w3 (h : Below w2.heap.size w2 w3) => come_any a0 len0 cap0 f (by omega) w3 (HC2.out.below (Nat.le_refl _) h))
    have hle := comeL_le f len0
    by_cases hr : a1 < 1 ∨ 15 < a1
    · have HL := Lib.hid (lengths_range a0 len0 cap0 a1 hr w2)
      generalize (comeL f len0).length = c at *
      go_wp2_with fail
      refine (HL.out).mono ?_
      rintro e w3 ⟨rfl, rfl⟩
      go_wp2_with fail
      refine (HCM.out w3 (Below.refl _ _)).mono ?_
      rintro e w4 ⟨rfl, rfl⟩
      rcases hr with hr | hr
      · go_wp2_with fail
        go_ret
        exact ⟨rfl, HB2.out⟩
      · have hr1 : ¬ a1 < 1 := by omega
        go_wp2_with fail
        go_ret
        exact ⟨rfl, HB2.out⟩
    · obtain ⟨M, rfl⟩ := Int.eq_ofNat_of_zero_le (show 0 ≤ a1 by omega)
      have hM1 : 1 ≤ M := by omega
      have hM15 : M ≤ 15 := by omega
      have hI1 : ¬ (M : Int) < 1 := by omega
      have hI2 : ¬ 15 < (M : Int) := by omega
      have hp15 : 2 ^ M ≤ 2 ^ 15 := Nat.pow_le_pow_right (by omega) hM15
      obtain ⟨q, hq⟩ : ∃ q, q = 2 ^ M := ⟨_, rfl⟩
      have hsh : wrap64 ((2 : Int) ^ M) = (q : Int) := by
        have e : ((2 : Int) ^ M) = ((2 ^ M : Nat) : Int) := by push_cast; rfl
        rw [e, ← hq]
        unfold wrap64
        omega
      have HQ := Lib.hid hq
      rw [← hq] at hp15
      clear hr hq
      by_cases h400 : 400 < len0
      · have HL := Lib.hid (lengths_big a0 len0 cap0 M hM1 hM15 h400 w2)
        generalize (comeL f len0).length = c at *
        go_wp2_with fail
        refine (HL.out).mono ?_
        rintro e w3 ⟨rfl, rfl⟩
        go_wp2_with fail
        refine (HCM.out w3 (Below.refl _ _)).mono ?_
        rintro e w4 ⟨rfl, rfl⟩
        go_wp2_with fail
        go_ret
        exact ⟨rfl, HB2.out⟩
      · by_cases hpow : (comeL f len0).length ≤ 2 ^ M
        · have HPW := Lib.hid hpow
          have HL := Lib.hid (lengths_any a0 len0 cap0 M f w2 HC2.out (by omega) hM1 hM15 hpow (fun base gd m cap pc _ h2 => sym_ok base gd m cap pc len0 f (by omega)))
          rw [← HQ.out] at hpow
          have hI4 : ¬ (q : Int) < ((comeL f len0).length : Int) := by omega
          obtain ⟨c, hc⟩ : ∃ c, c = (comeL f len0).length := ⟨_, rfl⟩
          rw [← hc] at hI4 hpow hle
          have HCC := Lib.hid hc
          rw [← hc] at HCM
          clear hc
          have hI5 : ¬ q < c := by omega
          have hI6 : decide (q < c) = false := decide_eq_false hI5
          have hI7 : decide ((400 : Int) < (len0 : Int)) = false := decide_eq_false (by omega)
          have hI8 : decide (400 < len0) = false := decide_eq_false (by omega)
          go_wp2_with fail
          refine (HL.out).mono ?_
          rintro e w3 ⟨gl, L, rfl, hl, hsp, _, hb3⟩
          have HSP := Lib.hid hsp
          have HIS := Lib.hid hl
          have HB3 := Lib.hid hb3
          have HMS := Lib.hid (fun i (h : i < len0) => spec_most hsp hM1 i h)
          have HIF := Lib.hid (fun i (h : i < len0) => spec_iff hsp hM1 HPW.out i h)
          clear hl hsp hb3
          go_wp2_with fail
          refine (HCM.out w3 HB3.out).mono ?_
          rintro e w4 ⟨rfl, hw4⟩
          rw [hw4]
          clear hw4
          have HC3 := Lib.hid (HC2.out.below (Nat.le_refl _) HB3.out)
          have HLE := Lib.hid (lens_isLen HIS.out (fun i h => by have := HMS.out i h; omega))
          go_wp2_with fail
          go_loopw [67] (fun vi w5 => ∃ i d : Nat, i ≤ len0 ∧ vi = .int .i64 i ∧ w5 = w3.drewN d) (fun vi _ => len0 - (intOf vi).toNat)
          case atStart => exact ⟨0, 0, Nat.zero_le _, rfl, rfl⟩
          case round =>
            obtain ⟨i, d, hi, rfl, rfl⟩ := hrel
            by_cases hlt : i < len0
            · obtain ⟨bk, off, rfl, hbl, hcc⟩ := HC3.out (by omega)
              have c1 := (hcc i hlt).1
              have x1 := HIS.out.cell i hlt
              have hms := HMS.out i hlt
              obtain ⟨hif, hone⟩ := HIF.out i hlt
              rw [← HCC.out] at hone
              clear hcc
              generalize f i = fi at *
              generalize L i = li at *
              by_cases hf : 0 < fi
              · have hl0 : 0 < li := hif.2 hf
                have g1 : ¬ M < li := by omega
                have g2 : decide ((M : Int) < (li : Int)) = false := decide_eq_false (by omega)
                have g2' : decide (M < li) = false := decide_eq_false g1
                by_cases hc1 : c = 1
                · have h1 := hone hc1
                  have g3 : ¬ 1 < li := by omega
                  have g4 : decide (1 < li) = false := decide_eq_false g3
                  have HC1 := Lib.hid hc1
                  have g5 : ((c : Int) == 1) = true := by rw [hc1]; rfl
                  clear hone hif hc1
                  go_wp2_with fail
                  go_quiet (fail)
                  go_wp2_with fail
                  go_roundw
                  case rel => exact ⟨i + 1, _, by omega, by go_num, rfl⟩
                  case measure => simp [intOf]; omega
                · have g5 : ((c : Int) == 1) = false := by rw [beq_eq_false_iff_ne]; omega
                  clear hone hif
                  go_wp2_with fail
                  go_quiet (fail)
                  go_wp2_with fail
                  go_roundw
                  case rel => exact ⟨i + 1, _, by omega, by go_num, rfl⟩
                  case measure => simp [intOf]; omega
              · have hf0 : fi = 0 := by omega
                have hl0 : li = 0 := by
                  rcases Nat.eq_zero_or_pos li with h | h
                  · exact h
                  · exact absurd (hif.1 h) hf
                subst hf0
                subst hl0
                have g1 : ¬ (M : Int) < 0 := by omega
                have g2 : decide ((M : Int) < 0) = false := decide_eq_false g1
                by_cases hc1 : c = 1
                · have g5 : ((c : Int) == 1) = true := by rw [hc1]; rfl
                  clear hone hif hc1
                  go_wp2_with fail
                  go_quiet (fail)
                  go_wp2_with fail
                  rw [← hsh]
                  clear hsh
                  go_roundw
                  case rel => exact ⟨i + 1, _, by omega, by go_num, rfl⟩
                  case measure => simp [intOf]; omega
                · have g5 : ((c : Int) == 1) = false := by rw [beq_eq_false_iff_ne]; omega
                  clear hone hif
                  go_wp2_with fail
                  go_quiet (fail)
                  go_wp2_with fail
                  rw [← hsh]
                  clear hsh
                  go_roundw
                  case rel => exact ⟨i + 1, _, by omega, by go_num, rfl⟩
                  case measure => simp [intOf]; omega
            · have HB5 := Lib.hid (below_drewN HB3.out d)
              have HC5 := Lib.hid (show Cts (w3.drewN d) a0 len0 f from HC3.out)
              have HL5 := Lib.hid (show Lens (w3.drewN d) (some ⟨gl, 0, none⟩) len0 L from HLE.out)
              clear HC3 HLE HIS
              generalize w3.drewN d = w5 at *
              have HBT := Lib.hid (below_then' HB2.out HB5.out)
              by_cases h2 : c < 2
              · go_wp2_with fail
                go_ret
                exact ⟨rfl, HBT.out⟩
              · have hfl := wfill_ok (some ⟨gl, 0, none⟩) len0 len0 L (by omega) w5 HL5.out (fun i h => by have := HMS.out i h; omega)
                rw [spec_fill HSP.out hM1 hM15 (by rw [← HCC.out]; omega) HPW.out] at hfl
                have hck := fun w6 (h : Below w5.heap.size w5 w6) => cost_any a0 (some ⟨gl, 0, none⟩) len0 cap0 len0 len0 f L w6 (HC5.out.below (Nat.le_refl _) h) (HL5.out.below (Nat.le_refl _) h) (by omega) (by omega)
                have hcr := fun w6 (h : Below w5.heap.size w5 w6) => rcost_any a0 (some ⟨gl, 0, none⟩) len0 cap0 len0 len0 f L w6 (HC5.out.below (Nat.le_refl _) h) (HL5.out.below (Nat.le_refl _) h) (by omega) (by omega)
                have hls := fun w6 (h : Below w5.heap.size w5 w6) => least_any a0 len0 cap0 M f w6 (HC5.out.below (Nat.le_refl _) h) (by omega) hM1 hM15 (by rw [← HCC.out]; omega) HPW.out
                rw [Nat.min_self] at hck hcr
                rw [← spec_leastL HSP.out hM1 (by rw [← HCC.out]; omega) HPW.out] at hls
                generalize costN f L len0 = z at *
                have HFL := Lib.hid hfl
                have HCK := Lib.hid hck
                have HCR := Lib.hid hcr
                have HLS := Lib.hid hls
                clear hfl hck hcr hls
                go_wp2_with fail
                refine (HFL.out).mono ?_
                rintro e w6 ⟨rfl, rfl⟩
                go_wp2_with fail
                refine (HCK.out w5 (Below.refl _ _)).mono ?_
                rintro e w6 ⟨rfl, hb6⟩
                go_wp2_with fail
                refine (HLS.out w6 hb6).mono ?_
                rintro e w7 ⟨rfl, hb7⟩
                have HB7 := Lib.hid (below_then' hb6 hb7)
                clear hb6 hb7
                go_wp2_with fail
                refine (HCR.out w7 HB7.out).mono ?_
                rintro e w8 ⟨rfl, hb8⟩
                have HB8 := Lib.hid (below_then' HB7.out hb8)
                clear hb8
                go_wp2_with fail
                refine (HCK.out w8 HB8.out).mono ?_
                rintro e w9 ⟨rfl, hb9⟩
                have HB9 := Lib.hid (below_then' HBT.out (below_then' HB8.out hb9))
                clear hb9
                go_wp2_with fail
                go_ret
                exact ⟨rfl, HB9.out⟩
        · have HL := Lib.hid (lengths_many a0 len0 cap0 M f w2 HC2.out (by omega) hM1 hM15 (by omega))
          rw [← HQ.out] at hpow
          generalize (comeL f len0).length = c at *
          have hI4 : (q : Int) < (c : Int) := by omega
          go_wp2_with fail
          refine (HL.out).mono ?_
          rintro e w3 ⟨rfl, hb3⟩
          go_wp2_with fail
          refine (HCM.out w3 hb3).mono ?_
          rintro e w4 ⟨rfl, rfl⟩
          have HB4 := Lib.hid (below_then' HB2.out hb3)
          clear hb3
          go_wp2_with fail
          go_ret
          exact ⟨rfl, HB4.out⟩

theorem weighLengths_walk (a0 : Option Addr) (len0 cap0 : Nat) (z0 : List Int) (a1 : Int) (w : World)
    (w0 : (a0 = none ∧ len0 = 0 ∧ cap0 = 0 ∧ z0 = []) ∨ ∃ x, a0 = some x ∧ len0 ≤ cap0 ∧ cap0 ≤ maxLen ∧ z0.length = cap0 ∧ (∀ i, i < z0.length → w.cell? (x.add i) = some (.int .u32 (z0.getD i 0))) ∧ ∀ n ∈ z0, (Lit.int .u32 n).wf = true)
    (_ : (Lit.int .i64 a1).wf = true) :
    Calls Try.prog 5 #[.slice a0 len0 cap0, .int .i64 a1] w fun e w' => e = .returned (.bool true) ∧ Below w.heap.size w w' :=
  lengths_law a0 len0 cap0 a1 _ w (cts_row w0)
end Go.Proofs.Ytljekdnjdcfliaa
