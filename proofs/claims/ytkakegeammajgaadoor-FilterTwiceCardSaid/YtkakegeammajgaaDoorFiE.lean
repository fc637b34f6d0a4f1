/-
  Filter: the law's Light; the chapter's example (awake).
-/
import Derived.Test.YtkakegeammajgaaDoorFiD
namespace Go.Proofs.YtkakegeammajgaaDoor
set_option maxRecDepth 100000
set_option linter.unusedSimpArgs false
set_option linter.unusedVariables false
open Go.RowKit Go.Joins Go.Deep
open Go.Lib hiding intOf
/-- Are some texts few and short? -/
def LitP (ss : List ByteArray) : Prop := ss.length = 0 ∨ (ss.length ≤ 110 ∧ ∀ s ∈ ss, s.size ≤ 100)
instance (ss : List ByteArray) : Decidable (LitP ss) := by unfold LitP; infer_instance
set_option maxHeartbeats 4000000 in
theorem light_any (A : Option Addr) (c : Nat) (ss : List ByteArray) (hn : ss.length ≤ 9223372036854775807) (w : World) (hT : TxS w A ss) :
    Calls Tryd.prog 5 #[.slice A ss.length c] w fun e w' => e = .returned (.bool (decide (LitP ss))) ∧ Below w.heap.size w w' := by
  have HT := Lib.hid hT
  obtain ⟨V, hV⟩ : ∃ V, V = decide (LitP ss) := ⟨_, rfl⟩
  rw [← hV]
  have HV := Lib.hid hV
  clear hT hV
  go_enter Tryd.func5, Tryd.ntmps5
  go_wp2_with fail
  go_loopw [4, 7] (fun _ v7 wr => ∃ k : Nat, k ≤ ss.length ∧ v7 = .int .i64 (k : Nat) ∧ Hid (∀ s ∈ ss.take k, s.size ≤ 100) ∧ Hid (k = 0 ∨ ss.length ≤ 110) ∧ Hid (Below w.heap.size w wr)) (fun _ v _ => ss.length - (intOf v).toNat)
  case atStart => exact ⟨0, Nat.zero_le _, rfl, (fun s hs => by cases hs), .inl rfl, Below.refl _ _⟩
  case round =>
    obtain ⟨k, hk, rfl, HS, HL, HB⟩ := hrel
    by_cases hlt : k < ss.length
    · have hd : decide ((k : Int) < (ss.length : Int)) = true := decide_eq_true (by omega)
      obtain ⟨b, off, rfl, hb, hc⟩ := (HT.out.below HB.out) (by omega)
      have c1 := hc k ss[k] (List.getElem?_eq_getElem hlt)
      have HMEM : Hid (ss[k] ∈ ss) := List.getElem_mem hlt
      have HTK : Hid (ss.take (k + 1) = ss.take k ++ [ss[k]]) := List.take_succ_eq_append_getElem hlt
      clear hc
      generalize ss[k] = sk at *
      by_cases h110 : 110 < ss.length
      · have d1 : decide ((110 : Int) < (ss.length : Int)) = true := decide_eq_true (by omega)
        have HF : Hid (V = false) := by
          show V = false
          rw [HV.out]
          exact decide_eq_false (fun h => by rcases h with h | h <;> omega)
        go_wp2_with fail
        go_ret
        exact ⟨by rw [HF.out]; rfl, HB.out⟩
      · have d1 : decide ((110 : Int) < (ss.length : Int)) = false := decide_eq_false (by omega)
        by_cases h100 : 100 < sk.size
        · have d2 : decide ((100 : Int) < (sk.size : Int)) = true := decide_eq_true (by omega)
          have HF : Hid (V = false) := by
            show V = false
            rw [HV.out]
            exact decide_eq_false (fun h => by
              rcases h with h | ⟨_, h⟩
              · omega
              · have := h sk HMEM.out; omega)
          go_wp2_with fail
          go_ret
          exact ⟨by rw [HF.out]; rfl, HB.out⟩
        · have d2 : decide ((100 : Int) < (sk.size : Int)) = false := decide_eq_false (by omega)
          have HS2 : Hid (∀ s ∈ ss.take (k + 1), s.size ≤ 100) := fun s hs => by
            rw [HTK.out, List.mem_append] at hs
            rcases hs with hs | hs
            · exact HS.out s hs
            · obtain rfl : s = sk := by simpa using hs
              omega
          have HL2 : Hid (k + 1 = 0 ∨ ss.length ≤ 110) := .inr (by omega)
          have hk62 : (k : Int) + 1 < 9223372036854775807 := by omega
          clear HT
          go_wp2_with fail
          go_roundw
          case rel => exact ⟨k + 1, by omega, by go_num, HS2, HL2, HB⟩
          case measure => simp [intOf]; omega
    · obtain rfl : k = ss.length := by omega
      have hd : decide ((ss.length : Int) < (ss.length : Int)) = false := decide_eq_false (by omega)
      have HF : Hid (V = true) := by
        show V = true
        rw [HV.out]
        refine decide_eq_true ?_
        rcases HL.out with h | h
        · exact .inl h
        · refine .inr ⟨h, fun s hs => ?_⟩
          have := HS.out
          rw [List.take_length] at this
          exact this s hs
      go_wp2_with fail
      go_ret
      exact ⟨by rw [HF.out]; rfl, HB.out⟩
/-! ## The example -/
theorem fx1 : cmp1 ⟨#[42, 46, 103, 111]⟩ = some [⟨3, 0, false, []⟩, ⟨1, 46, false, []⟩, ⟨1, 103, false, []⟩, ⟨1, 111, false, []⟩] := by
  unfold cmp1
  rw [show runesB ⟨#[42, 46, 103, 111]⟩ = [42, 46, 103, 111] by kernel_rfl, compF_more (by decide) (x := ⟨3, 0, false, []⟩) (k := 1) (by kernel_rfl), compF_more (by decide) (x := ⟨1, 46, false, []⟩) (k := 1) (by kernel_rfl), compF_more (by decide) (x := ⟨1, 103, false, []⟩) (k := 1) (by kernel_rfl), compF_more (by decide) (x := ⟨1, 111, false, []⟩) (k := 1) (by kernel_rfl), compF_end (by decide)]
  rfl
theorem fx2 : cmp1 ⟨#[97, 42]⟩ = some [⟨1, 97, false, []⟩, ⟨3, 0, false, []⟩] := by
  unfold cmp1
  rw [show runesB ⟨#[97, 42]⟩ = [97, 42] by kernel_rfl, compF_more (by decide) (x := ⟨1, 97, false, []⟩) (k := 1) (by kernel_rfl), compF_more (by decide) (x := ⟨3, 0, false, []⟩) (k := 1) (by kernel_rfl), compF_end (by decide)]
  rfl
def pGo : List Atm := [⟨3, 0, false, []⟩, ⟨1, 46, false, []⟩, ⟨1, 103, false, []⟩, ⟨1, 111, false, []⟩]
def pA : List Atm := [⟨1, 97, false, []⟩, ⟨3, 0, false, []⟩]
theorem mb1 : mtB pGo (runesB ⟨#[98, 46, 103, 111]⟩) = true := by
  rw [show runesB ⟨#[98, 46, 103, 111]⟩ = [98, 46, 103, 111] by kernel_rfl]
  exact (mtB_iff _ _).2 ((Mt_star rfl _ _).2 ⟨[98], [46, 103, 111], rfl, (Mt_one (by decide) _ _).2 ⟨46, _, rfl, by decide, (Mt_one (by decide) _ _).2 ⟨103, _, rfl, by decide, (Mt_one (by decide) _ _).2 ⟨111, [], rfl, by decide, rfl⟩⟩⟩⟩)
theorem mb2 : mtB pA (runesB ⟨#[98, 46, 103, 111]⟩) = false := by
  rw [show runesB ⟨#[98, 46, 103, 111]⟩ = [98, 46, 103, 111] by kernel_rfl, Bool.eq_false_iff]
  intro h
  obtain ⟨x, t, e, h1, _⟩ := (Mt_one (by decide) _ _).1 ((mtB_iff _ _).1 h)
  injection e with e _
  subst e
  exact absurd h1 (by decide)
theorem mb3 : mtB pA (runesB ⟨#[97, 46, 103, 111]⟩) = true := by
  rw [show runesB ⟨#[97, 46, 103, 111]⟩ = [97, 46, 103, 111] by kernel_rfl]
  exact (mtB_iff _ _).2 ((Mt_one (by decide) _ _).2 ⟨97, _, rfl, by decide, (Mt_star rfl _ _).2 ⟨[46, 103, 111], [], rfl, rfl⟩⟩)
theorem tk1 : takM [pGo] [pA] ⟨#[98, 46, 103, 111]⟩ false = true := by
  unfold takM mchM anyM
  simp only [List.any_cons, List.any_nil, mb1, mb2, List.length_cons, List.length_nil]
  rfl
theorem tk2 : takM [pGo] [pA] ⟨#[97, 46, 103, 111]⟩ false = false := by
  unfold takM mchM anyM
  simp only [List.any_cons, List.any_nil, mb3, List.length_cons, List.length_nil]
  simp
end Go.Proofs.YtkakegeammajgaaDoor
