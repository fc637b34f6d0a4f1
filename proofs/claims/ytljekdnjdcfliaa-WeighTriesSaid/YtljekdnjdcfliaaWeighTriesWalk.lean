/-
  The walk of WeighTries.
-/
import Derived.Test.YtljekdnjdcfliaaWTryC
import Derived.Test.YtljekdnjdcfliaaWeI
namespace Go.Proofs.Ytljekdnjdcfliaa
open Go.RowKit

def comeV (f : Nat → Nat) (n : Nat) : List Value := (comeL f n).map fun s => Value.int .u32 (f s : Nat)
theorem info_u32c : (Try.prog.info? 29).map (fun i => (i.zero, i.size, i.bytes)) = some (some (.int .u32 0), 1, 4) := by kernel_rfl
theorem lens_of_isLen {w : World} {g n : Nat} {L : Nat → Nat} (h : IsLen w g n L) (hL : ∀ i, i < n → L i < 256) : Lens w (some ⟨g, 0, none⟩) n L := fun _ => ⟨g, 0, rfl, lt_of_cells h, fun i hi => ⟨by rw [Nat.zero_add]; exact h.cell i hi, hL i hi⟩⟩
/-- No word is longer than the most. -/
theorem spec_lt {f L : Nat → Nat} {n most : Nat} (h : LenSpec f n most L) (h1 : 1 ≤ most) (i : Nat) (hi : i < n) : L i ≤ most := by
  obtain ⟨S, hp, hs, h0, hone, hL⟩ := h
  rcases Nat.eq_zero_or_pos (f i) with hz | hz
  · rw [h0 i hi hz]; omega
  · have hm := hp.mem_iff.2 (comeL_mem f n i hi hz)
    obtain ⟨j, hj, e⟩ := List.getElem_of_mem hm
    have e2 : at0 S j = i := by rw [at0, List.getElem?_eq_getElem hj, e]; rfl
    rcases Nat.lt_or_ge S.length 2 with h2 | h2
    · have hj0 : j = 0 := by omega
      subst hj0
      rw [← e2, hone (by omega)]
      exact h1
    · rw [← e2, hL h2 j hj]
      exact lensOf_le _ _ _

theorem cts_of_list {w : World} {base : Nat} {v : Value} {W : List Nat} (h : w.ownsRow base 29 1 v W.length (W.map fun x => Value.int .u32 (x : Nat))) (hW : ∀ x ∈ W, x < 4294967296) : ∃ A cap, v = .slice A W.length cap ∧ W.length ≤ cap ∧ cap ≤ maxLen ∧ Cts w A W.length (fun i => W[i]?.getD 0) := by
  have h' := h
  obtain ⟨_, ⟨rfl, hz⟩ | ⟨g, cap, cur, rfl, hb, hh, h1, h2, _⟩⟩ := h'
  · exact ⟨none, 0, by rw [hz], by omega, Nat.zero_le _, fun h => by omega⟩
  · refine ⟨_, cap, rfl, h1, h2, fun _ => ⟨g, 0, rfl, lt_of_cells hh, fun i hi => ⟨?_, ?_⟩⟩⟩
    · rw [Nat.zero_add, h.cellAt i (by omega), List.getElem?_map]
      simp only [List.getElem?_eq_getElem hi, Option.map_some, Option.getD_some]
    · simp only [List.getElem?_eq_getElem hi, Option.getD_some]
      exact hW _ (List.getElem_mem _)

set_option maxRecDepth 100000 in
set_option maxHeartbeats 8000000 in
theorem tries_any (a0 : Option Addr) (len0 cap0 mo : Nat) (f : Nat → Nat) (w : World) (hC : Cts w a0 len0 f) (hmo : mo < 256) (hreach : len0 * 4 ≤ 140737488351232) :
    Calls Try.prog 7 #[.slice a0 len0 cap0, .int .u8 mo] w fun e w' => e = .returned (.bool true) ∧ Below w.heap.size w w' := by
  obtain ⟨i0, hi, hz0, hz1, hz2⟩ := info_parts info_u32c
  go_enter Try.func7, Try.ntmps7
  go_wp2_with fail
  refine (awake_any w).mono ?_
  rintro e w2 ⟨rfl, hb2⟩
  have HC2 := Lib.hid (hC.below (Nat.le_refl _) hb2)
  have HB2 := Lib.hid hb2
  clear hb2 hC
  go_wp2_with fail
  obtain ⟨M, hM⟩ : ∃ M : Nat, M = 3 + mo % 3 := ⟨_, rfl⟩
  have hM3 : 3 ≤ M := by omega
  have hM5 : M ≤ 5 := by omega
  rw [show (3 + (mo : Int) % 3) = (M : Int) by omega]
  have hem : (mo : Int) % 3 = ((M - 3 : Nat) : Int) := by omega
  rw [hem]
  clear hem hM
  generalize (M - 3) = M3 at *
  go_loopw [6, 21] (fun v i wr => ∃ k : Nat, k ≤ len0 ∧ i = .int .i64 k ∧ wr.ownsRow w2.heap.size 29 1 v (comeL f k).length (comeV f k) ∧ Below w2.heap.size w2 wr) (fun _ i _ => len0 - (intOf i).toNat)
  case atStart => exact ⟨0, Nat.zero_le _, rfl, World.ownsRow_nil _ _ _ _, Below.refl _ _⟩
  case round =>
    obtain ⟨k, hk, rfl, hown, hb⟩ := hrel
    have HO := Lib.hid hown
    have HB := Lib.hid hb
    clear hown hb
    by_cases hlt : k < len0
    · obtain ⟨bk, off, rfl, hbl, hcc⟩ := HC2.out (by omega)
      have c1 := (HB.out.cell (p := ⟨bk, off + k, none⟩) hbl).trans (hcc k hlt).1
      clear hcc
      by_cases hf : 0 < f k
      · have HST : Hid (comeL f (k + 1) = comeL f k ++ [k]) := by rw [Hid, comeL, if_pos hf]
        have hlen := comeL_le f k
        generalize hx : f k = x at *
        have HXK := Lib.hid hx
        clear hx
        go_wp2_with (at_builtin; refine wpList_append_own _ rfl _ _ 65 rfl w2.heap.size 29 i0 (.int .u32 0) 1 4 Try.underlying65 hi hz0 hz1 hz2 rfl (by decide) _ _ _ rfl (HO.out.alloc _) ⟨wr.heap.size, 0, none⟩ 1 1 [.int .u32 (x : Nat)] rfl rfl ?c1 ?c2 ?c3 ?c4 ?c5 ?_)
        case c1 =>
          intro j u hj
          match j, hj with
          | 0, hj => simp at hj; subst hj; simp [Addr.add]
        case c2 => intro u hu; simp at hu; subst hu; rfl
        case c3 => unfold maxLen; omega
        case c4 => omega
        case c5 => have := HB.out.size; simp; omega
        intro v' w3 hown3 hgrow3 _
        have HOW := Lib.hid (fun h => (HO.out.lt h))
        go_wp2
        go_roundw
        case rel => exact ⟨k + 1, by omega, by go_num, by rw [comeV, HST.out]; simpa [comeV, HXK.out] using hown3, (below_alloc HB.out _).grown hgrow3 (by have := HB.out.size; simp; omega) (fun h e => (HOW.out h e).1)⟩
        case measure => simp [intOf]; omega
      · have hf0 : f k = 0 := by omega
        have HST : Hid (comeL f (k + 1) = comeL f k) := by rw [Hid, comeL, if_neg hf]
        rw [hf0] at c1
        go_wp2_with fail
        go_roundw
        case rel => exact ⟨k + 1, by omega, by go_num, by rw [comeV, HST.out]; exact HO.out, HB.out⟩
        case measure => simp [intOf]; omega
    · obtain rfl : k = len0 := by omega
      have hlen := comeL_le f k
      have hmem := comeL_lt f k
      have hcl : (comeV f k).length = (comeL f k).length := by simp [comeV]
      have hW : ∀ x ∈ (comeL f k).map f, x < 4294967296 := fun x hx => by
        obtain ⟨s, hs, rfl⟩ := List.mem_map.1 hx
        have := hmem s hs
        obtain ⟨_, _, _, _, hcc⟩ := HC2.out (by omega)
        exact (hcc s this.1).2
      have hO2 := HO.out
      rw [show comeV f k = ((comeL f k).map f).map (fun x => Value.int .u32 (x : Nat)) by simp [comeV]] at hO2
      rw [show (comeL f k).length = ((comeL f k).map f).length by simp] at hO2
      obtain ⟨A, cap, rfl, hcap, hcapm, hcts⟩ := cts_of_list hO2 hW
      have hWl : ((comeL f k).map f).length = (comeL f k).length := by simp
      have HCT := Lib.hid hcts
      have HWL := Lib.hid hWl
      have HW := Lib.hid hW
      have HBW := Lib.hid (below_then' HB2.out HB.out)
      clear hcts hO2 hW hcl HO
      rw [hWl] at hcap
      rw [hWl]
      clear hWl
      generalize hc : (comeL f k).length = c at *
      have HCC := Lib.hid hc
      clear hc
      by_cases h6 : 6 < c
      · have h6I : 6 < (c : Int) := by omega
        go_wp2_with fail
        go_ret
        exact ⟨rfl, HBW.out⟩
      · by_cases h2 : c < 2
        · have h2I : (c : Int) < 2 := by omega
          have h6I : ¬ 6 < (c : Int) := by omega
          go_wp2_with fail
          go_ret
          exact ⟨rfl, HBW.out⟩
        · by_cases h50 : 50 < k
          · have h2I : ¬ (c : Int) < 2 := by omega
            have h6I : ¬ 6 < (c : Int) := by omega
            have h50I : 50 < (k : Int) := by omega
            go_wp2_with fail
            go_ret
            exact ⟨rfl, HBW.out⟩
          · have h2I : ¬ (c : Int) < 2 := by omega
            have h6I : ¬ 6 < (c : Int) := by omega
            have h50I : ¬ 50 < (k : Int) := by omega
            have hpow : (comeL f k).length ≤ 2 ^ M := by
              have : 2 ^ 3 ≤ 2 ^ M := Nat.pow_le_pow_right (by omega) hM3
              rw [HCC.out]; omega
            have HLN := Lib.hid (lengths_any a0 k cap0 M f wr (HC2.out.below (Nat.le_refl _) HB.out) (by omega) (by omega) (by omega) hpow (fun _ _ _ _ _ h1 h2 => by rw [HCC.out] at h2; omega))
            obtain ⟨q, hq⟩ : ∃ q, q = 2 ^ M := ⟨_, rfl⟩
            have hq32 : q ≤ 32 := by
              have : 2 ^ M ≤ 2 ^ 5 := Nat.pow_le_pow_right (by omega) hM5
              omega
            have hsh : wrap64 ((2 : Int) ^ M) = (q : Int) := by
              have e : ((2 : Int) ^ M) = ((2 ^ M : Nat) : Int) := by push_cast; rfl
              rw [e, ← hq]
              unfold wrap64
              omega
            have HQ := Lib.hid hq
            have HPW := Lib.hid hpow
            clear hq hpow
            go_wp2_with fail
            refine (HLN.out).mono ?_
            rintro e w4 ⟨gl, L, rfl, hl, hsp, hgl, hb4⟩
            have HSP := Lib.hid hsp
            have hL256 : ∀ i, i < k → L i < 256 := fun i hi => by have := spec_lt hsp (by omega) i hi; omega
            have HLE := Lib.hid (lens_of_isLen hl hL256)
            have HB4 := Lib.hid hb4
            have htr := try_any M hM5 ((comeL f k).map f) HW.out (by rw [HWL.out]; omega) A cap q (by rw [HWL.out]; omega) hcapm hq32 w4 (HCT.out.below (Nat.le_refl _) hb4)
            rw [HWL.out, show tryF M ((comeL f k).map f) q = some (costN f L k) by rw [HQ.out]; exact try_is hsp (by omega) (by rw [HCC.out]; omega) HPW.out] at htr
            have HTR := Lib.hid htr
            have HBB4 := Lib.hid (below_then' HB.out hb4)
            clear hl hsp hb4 hL256 htr
            go_wp2_with fail
            refine (HTR.out).mono ?_
            rintro e w5 ⟨rfl, hb5⟩
            have hct := cost_any a0 (some ⟨gl, 0, none⟩) k cap0 k k f L w5 (HC2.out.below (Nat.le_refl _) (below_then' HBB4.out hb5)) (HLE.out.below (Nat.le_refl _) hb5) (by omega) (by omega)
            rw [Nat.min_self] at hct
            have HCO := Lib.hid hct
            have HB5 := Lib.hid (below_then' HB2.out (below_then' HBB4.out hb5))
            clear hct hb5
            generalize costN f L k = z at *
            go_wp2_with fail
            refine (HCO.out).mono ?_
            rintro e w6 ⟨rfl, hb6⟩
            have HB6 := Lib.hid (below_then' HB5.out hb6)
            clear hb6
            go_wp2_with fail
            go_ret
            exact ⟨rfl, HB6.out⟩

theorem weighTries_walk (a0 : Option Addr) (len0 cap0 : Nat) (z0 : List Int) (a1 : Int) (w : World)
    (w0 : (a0 = none ∧ len0 = 0 ∧ cap0 = 0 ∧ z0 = []) ∨ ∃ x, a0 = some x ∧ len0 ≤ cap0 ∧ cap0 ≤ maxLen ∧ z0.length = cap0 ∧ (∀ i, i < z0.length → w.cell? (x.add i) = some (.int .u32 (z0.getD i 0))) ∧ ∀ n ∈ z0, (Lit.int .u32 n).wf = true)
    (w1 : (Lit.int .u8 a1).wf = true) (hreach : len0 * 4 ≤ 140737488351232) :
    Calls Try.prog 7 #[.slice a0 len0 cap0, .int .u8 a1] w fun e w' => e = .returned (.bool true) ∧ Below w.heap.size w w' := by
  obtain ⟨mo, rfl, hmo⟩ := nat_u8 w1
  exact tries_any a0 len0 cap0 mo _ w (cts_row w0) hmo hreach
end Go.Proofs.Ytljekdnjdcfliaa
