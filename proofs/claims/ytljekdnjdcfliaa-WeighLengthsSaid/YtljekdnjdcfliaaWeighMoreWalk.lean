/-
  The walk of WeighMore.
-/
import Derived.Test.YtljekdnjdcfliaaWeY
import Derived.Test.YtljekdnjdcfliaaWeX
import Derived.Test.YtljekdnjdcfliaaWeI
namespace Go.Proofs.Ytljekdnjdcfliaa
open Go.RowKit

theorem lens_isLen {w : World} {g n : Nat} {L : Nat → Nat} (h : IsLen w g n L) (hL : ∀ i, i < n → L i < 256) : Lens w (some ⟨g, 0, none⟩) n L := fun _ => ⟨g, 0, rfl, lt_of_cells h, fun i hi => ⟨by rw [Nat.zero_add]; exact h.cell i hi, hL i hi⟩⟩
/-- No word is longer than the most. -/
theorem spec_most {f L : Nat → Nat} {n most : Nat} (h : LenSpec f n most L) (h1 : 1 ≤ most) (i : Nat) (hi : i < n) : L i ≤ most := by
  obtain ⟨S, hp, hs, h0, hone, hL⟩ := h
  rcases Nat.eq_zero_or_pos (f i) with hz | hz
  · rw [h0 i hi hz]; omega
  · obtain ⟨j, hj, e⟩ := List.getElem_of_mem (hp.mem_iff.2 (comeL_mem f n i hi hz))
    have e2 : at0 S j = i := by rw [at0, List.getElem?_eq_getElem hj, e]; rfl
    rcases Nat.lt_or_ge S.length 2 with h2 | h2
    · have hj0 : j = 0 := by omega
      subst hj0
      rw [← e2, hone (by omega)]
      exact h1
    · rw [← e2, hL h2 j hj]
      exact lensOf_le _ _ _

set_option maxRecDepth 100000 in
set_option maxHeartbeats 8000000 in
theorem more_any (a0 : Option Addr) (len0 cap0 mo : Nat) (f : Nat → Nat) (w : World) (hC : Cts w a0 len0 f) (hmo : mo < 256) :
    Calls Try.prog 8 #[.slice a0 len0 cap0, .int .u8 mo] w fun e w' => e = .returned (.bool true) ∧ Below w.heap.size w w' := by
  go_enter Try.func8, Try.ntmps8
  go_wp2_with fail
  refine (awake_any w).mono ?_
  rintro e w2 ⟨rfl, hb2⟩
  have HC2 := Lib.hid (hC.below (Nat.le_refl _) hb2)
  have HB2 := Lib.hid hb2
  clear hC
  obtain ⟨M, hM⟩ : ∃ M : Nat, M = 1 + mo % 14 := ⟨_, rfl⟩
  have hM1 : 1 ≤ M := by omega
  have hM14 : M ≤ 14 := by omega
  by_cases hbig : 100 < len0
  · go_wp2_with fail
    go_ret
    exact ⟨rfl, hb2⟩
  · clear hb2
    have hsym : ∀ base gd m cap pc, 20 < m → m ≤ (comeL f len0).length → SymOk base gd m cap pc len0 f := fun base gd m cap pc _ h2 => sym_ok base gd m cap pc len0 f (by have := comeL_le f len0; omega)
    have wM : IntKind.i64.wrap ((M : Int) + 1) = ((M + 1 : Nat) : Int) := by rw [IntKind.wrap_i64]; omega
    by_cases hpow : (comeL f len0).length ≤ 2 ^ M
    · have HL1 := Lib.hid (lengths_any a0 len0 cap0 M f w2 HC2.out (by omega) hM1 (by omega) hpow hsym)
      have HL2 := Lib.hid (fun w3 (h : Below w2.heap.size w2 w3) => lengths_any a0 len0 cap0 (M + 1) f w3 (HC2.out.below (Nat.le_refl _) h) (by omega) (by omega) (by omega) (by rw [Nat.pow_succ]; omega) hsym)
      have HPW := Lib.hid hpow
      clear hpow hsym
      go_wp2_with fail
      rw [show (1 + (mo : Int) % 14) = (M : Int) by omega]
      clear hM
      refine (HL1.out).mono ?_
      rintro e w3 ⟨g1, La, rfl, hl1, hsp1, _, hb3⟩
      have HSP1 := Lib.hid hsp1
      have HLE1 := Lib.hid (lens_isLen hl1 (fun i hi => by have := spec_most hsp1 hM1 i hi; omega))
      have HB3 := Lib.hid hb3
      clear hl1 hsp1 hb3
      go_wp2_with fail
      refine (HL2.out w3 HB3.out).mono ?_
      rintro e w4 ⟨g2, Lb, rfl, hl2, hsp2, _, hb4⟩
      have HMC := Lib.hid (more_cost HSP1.out hsp2 hM1 HPW.out)
      have HLE2 := Lib.hid (lens_isLen hl2 (fun i hi => by have := spec_most hsp2 (by omega) i hi; omega))
      have HLE1' := Lib.hid (HLE1.out.below (Nat.le_refl _) hb4)
      have HB4 := Lib.hid (below_then' HB3.out hb4)
      clear hl2 hsp2 hb4
      have hc1 := cost_any a0 (some ⟨g2, 0, none⟩) len0 cap0 len0 len0 f Lb w4 (HC2.out.below (Nat.le_refl _) HB4.out) HLE2.out (by omega) (by omega)
      have hc2 := fun w5 (h : Below w4.heap.size w4 w5) => cost_any a0 (some ⟨g1, 0, none⟩) len0 cap0 len0 len0 f La w5 (HC2.out.below (Nat.le_refl _) (below_then' HB4.out h)) (HLE1'.out.below (Nat.le_refl _) h) (by omega) (by omega)
      rw [Nat.min_self] at hc1 hc2
      have HC1 := Lib.hid hc1
      have HC3 := Lib.hid hc2
      clear hc1 hc2
      generalize costN f La len0 = ca at *
      generalize costN f Lb len0 = cb at *
      go_wp2_with fail
      refine (HC1.out).mono ?_
      rintro e w5 ⟨rfl, hb5⟩
      go_wp2_with fail
      refine (HC3.out w5 hb5).mono ?_
      rintro e w6 ⟨rfl, hb6⟩
      have HB6 := Lib.hid (below_then' (below_then' (below_then' HB2.out HB4.out) hb5) hb6)
      have hle := HMC.out
      clear hb5 hb6
      go_wp2_with fail
      go_ret
      exact ⟨by simp, HB6.out⟩
    · have HL1 := Lib.hid (lengths_many a0 len0 cap0 M f w2 HC2.out (by omega) hM1 (by omega) (by omega))
      by_cases hpow2 : (comeL f len0).length ≤ 2 ^ (M + 1)
      · have HL2 := Lib.hid (fun w3 (h : Below w2.heap.size w2 w3) => lengths_any a0 len0 cap0 (M + 1) f w3 (HC2.out.below (Nat.le_refl _) h) (by omega) (by omega) (by omega) hpow2 hsym)
        clear hpow hpow2 hsym
        go_wp2_with fail
        rw [show (1 + (mo : Int) % 14) = (M : Int) by omega]
        clear hM
        refine (HL1.out).mono ?_
        rintro e w3 ⟨rfl, hb3⟩
        go_wp2_with fail
        refine (HL2.out w3 hb3).mono ?_
        rintro e w4 ⟨g2, Lb, rfl, _, _, _, hb4⟩
        have HB6 := Lib.hid (below_then' (below_then' HB2.out hb3) hb4)
        clear hb3 hb4
        go_wp2_with fail
        go_ret
        exact ⟨rfl, HB6.out⟩
      · have HL2 := Lib.hid (fun w3 (h : Below w2.heap.size w2 w3) => lengths_many a0 len0 cap0 (M + 1) f w3 (HC2.out.below (Nat.le_refl _) h) (by omega) (by omega) (by omega) (by omega))
        clear hpow hpow2 hsym
        go_wp2_with fail
        rw [show (1 + (mo : Int) % 14) = (M : Int) by omega]
        clear hM
        refine (HL1.out).mono ?_
        rintro e w3 ⟨rfl, hb3⟩
        go_wp2_with fail
        refine (HL2.out w3 hb3).mono ?_
        rintro e w4 ⟨rfl, hb4⟩
        have HB6 := Lib.hid (below_then' (below_then' HB2.out hb3) hb4)
        clear hb3 hb4
        go_wp2_with fail
        go_ret
        exact ⟨rfl, HB6.out⟩

theorem weighMore_walk (a0 : Option Addr) (len0 cap0 : Nat) (z0 : List Int) (a1 : Int) (w : World)
    (w0 : (a0 = none ∧ len0 = 0 ∧ cap0 = 0 ∧ z0 = []) ∨ ∃ x, a0 = some x ∧ len0 ≤ cap0 ∧ cap0 ≤ maxLen ∧ z0.length = cap0 ∧ (∀ i, i < z0.length → w.cell? (x.add i) = some (.int .u32 (z0.getD i 0))) ∧ ∀ n ∈ z0, (Lit.int .u32 n).wf = true)
    (w1 : (Lit.int .u8 a1).wf = true) :
    Calls Try.prog 8 #[.slice a0 len0 cap0, .int .u8 a1] w fun e w' => e = .returned (.bool true) ∧ Below w.heap.size w w' := by
  obtain ⟨mo, rfl, hmo⟩ := nat_u8 w1
  exact more_any a0 len0 cap0 mo _ w (cts_row w0) hmo
end Go.Proofs.Ytljekdnjdcfliaa
