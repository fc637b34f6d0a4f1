/-
  Filter: the law's Light; the chapter's example (awake).
  Filter: the chapter's example (awake); what more patterns do.
  FilterTakes: what both make, what both answer.
-/
import Derived.Test.YtjnoapbddifcpaaGreatDoorPkBB
import Derived.Test.YtjnoapbddifcpaaGreatDoorPkAH
import Derived.Test.YtjnoapbddifcpaaGreatDoorPkDA
import Derived.Test.YtjnoapbddifcpaaGreatDoorPkDE

namespace Go.Proofs.YtjnoapbddifcpaaGreatDoor
set_option maxRecDepth 100000
set_option linter.unusedSimpArgs false
set_option linter.unusedVariables false
open Go.RowKit Go.Joins Go.Deep
open Go.Lib hiding intOf
/-- Are some texts few and short? -/
def LitP (ss : List ByteArray) : Prop := ss.length = 0 ∨ (ss.length ≤ 110 ∧ ∀ s ∈ ss, s.size ≤ 100)
instance (ss : List ByteArray) : Decidable (LitP ss) := by unfold LitP; infer_instance
set_option maxHeartbeats 4000000 in
theorem light_any (A : Option Addr) (c : Nat) (ss : List ByteArray) (hn : ss.length ≤ 9223372036854775807) (w : World) (hT : TxS w A ss) :
    Calls Tryz.prog 6 #[.slice A ss.length c] w fun e w' => e = .returned (.bool (decide (LitP ss))) ∧ Below w.heap.size w w' := by
  have HT := Lib.hid hT
  obtain ⟨V, hV⟩ : ∃ V, V = decide (LitP ss) := ⟨_, rfl⟩
  rw [← hV]
  have HV := Lib.hid hV
  clear hT hV
  go_enter Tryz.func6, Tryz.ntmps6
  go_wp2_with fail
  go_loopw [4, 7] (fun _ v7 wr => ∃ k : Nat, k ≤ ss.length ∧ v7 = .int .i64 (k : Nat) ∧ Hid (∀ s ∈ ss.take k, s.size ≤ 100) ∧ Hid (k = 0 ∨ ss.length ≤ 110) ∧ Hid (Below w.heap.size w wr)) (fun _ v _ => ss.length - (intOf v).toNat)
  case atStart => exact ⟨0, Nat.zero_le _, rfl, (fun s hs => by cases hs), .inl rfl, Below.refl _ _⟩
  case round =>
    obtain ⟨k, hk, rfl, HS, HL, HB⟩ := hrel
    by_cases hlt : k < ss.length
    · have hd : decide ((k : Int) < (ss.length : Int)) = true := decide_eq_true (by omega)
      obtain ⟨b, off, rfl, hb, hc⟩ := (HT.out.below HB.out) (by omega)
      have c1 := hc k ss[k] (List.getElem?_eq_getElem hlt)
      have HMEM : Hid (ss[k] ∈ ss) := List.getElem_mem hlt
      have HTK : Hid (ss.take (k + 1) = ss.take k ++ [ss[k]]) := List.take_succ_eq_append_getElem hlt
      clear hc
      generalize ss[k] = sk at *
      by_cases h110 : 110 < ss.length
      · have d1 : decide ((110 : Int) < (ss.length : Int)) = true := decide_eq_true (by omega)
        have HF : Hid (V = false) := by
          show V = false
          rw [HV.out]
          exact decide_eq_false (fun h => by rcases h with h | h <;> omega)
        go_wp2_with fail
        go_ret
        exact ⟨by rw [HF.out]; rfl, HB.out⟩
      · have d1 : decide ((110 : Int) < (ss.length : Int)) = false := decide_eq_false (by omega)
        by_cases h100 : 100 < sk.size
        · have d2 : decide ((100 : Int) < (sk.size : Int)) = true := decide_eq_true (by omega)
          have HF : Hid (V = false) := by
            show V = false
            rw [HV.out]
            exact decide_eq_false (fun h => by
              rcases h with h | ⟨_, h⟩
              · omega
              · have := h sk HMEM.out; omega)
          go_wp2_with fail
          go_ret
          exact ⟨by rw [HF.out]; rfl, HB.out⟩
        · have d2 : decide ((100 : Int) < (sk.size : Int)) = false := decide_eq_false (by omega)
          have HS2 : Hid (∀ s ∈ ss.take (k + 1), s.size ≤ 100) := fun s hs => by
            rw [HTK.out, List.mem_append] at hs
            rcases hs with hs | hs
            · exact HS.out s hs
            · obtain rfl : s = sk := by simpa using hs
              omega
          have HL2 : Hid (k + 1 = 0 ∨ ss.length ≤ 110) := .inr (by omega)
          have hk62 : (k : Int) + 1 < 9223372036854775807 := by omega
          clear HT
          go_wp2_with fail
          go_roundw
          case rel => exact ⟨k + 1, by omega, by go_num, HS2, HL2, HB⟩
          case measure => simp [intOf]; omega
    · obtain rfl : k = ss.length := by omega
      have hd : decide ((ss.length : Int) < (ss.length : Int)) = false := decide_eq_false (by omega)
      have HF : Hid (V = true) := by
        show V = true
        rw [HV.out]
        refine decide_eq_true ?_
        rcases HL.out with h | h
        · exact .inl h
        · refine .inr ⟨h, fun s hs => ?_⟩
          have := HS.out
          rw [List.take_length] at this
          exact this s hs
      go_wp2_with fail
      go_ret
      exact ⟨by rw [HF.out]; rfl, HB.out⟩
/-! ## The example -/
theorem fx1 : cmp1 ⟨#[42, 46, 103, 111]⟩ = some [⟨3, 0, false, []⟩, ⟨1, 46, false, []⟩, ⟨1, 103, false, []⟩, ⟨1, 111, false, []⟩] := by
  unfold cmp1
  rw [show runesB ⟨#[42, 46, 103, 111]⟩ = [42, 46, 103, 111] by kernel_rfl, compF_more (by decide) (x := ⟨3, 0, false, []⟩) (k := 1) (by kernel_rfl), compF_more (by decide) (x := ⟨1, 46, false, []⟩) (k := 1) (by kernel_rfl), compF_more (by decide) (x := ⟨1, 103, false, []⟩) (k := 1) (by kernel_rfl), compF_more (by decide) (x := ⟨1, 111, false, []⟩) (k := 1) (by kernel_rfl), compF_end (by decide)]
  rfl
theorem fx2 : cmp1 ⟨#[97, 42]⟩ = some [⟨1, 97, false, []⟩, ⟨3, 0, false, []⟩] := by
  unfold cmp1
  rw [show runesB ⟨#[97, 42]⟩ = [97, 42] by kernel_rfl, compF_more (by decide) (x := ⟨1, 97, false, []⟩) (k := 1) (by kernel_rfl), compF_more (by decide) (x := ⟨3, 0, false, []⟩) (k := 1) (by kernel_rfl), compF_end (by decide)]
  rfl
def pGo : List Atm := [⟨3, 0, false, []⟩, ⟨1, 46, false, []⟩, ⟨1, 103, false, []⟩, ⟨1, 111, false, []⟩]
def pA : List Atm := [⟨1, 97, false, []⟩, ⟨3, 0, false, []⟩]
theorem mb1 : mtB pGo (runesB ⟨#[98, 46, 103, 111]⟩) = true := by
  rw [show runesB ⟨#[98, 46, 103, 111]⟩ = [98, 46, 103, 111] by kernel_rfl]
  exact (mtB_iff _ _).2 ((Mt_star rfl _ _).2 ⟨[98], [46, 103, 111], rfl, (Mt_one (by decide) _ _).2 ⟨46, _, rfl, by decide, (Mt_one (by decide) _ _).2 ⟨103, _, rfl, by decide, (Mt_one (by decide) _ _).2 ⟨111, [], rfl, by decide, rfl⟩⟩⟩⟩)
theorem mb2 : mtB pA (runesB ⟨#[98, 46, 103, 111]⟩) = false := by
  rw [show runesB ⟨#[98, 46, 103, 111]⟩ = [98, 46, 103, 111] by kernel_rfl, Bool.eq_false_iff]
  intro h
  obtain ⟨x, t, e, h1, _⟩ := (Mt_one (by decide) _ _).1 ((mtB_iff _ _).1 h)
  injection e with e _
  subst e
  exact absurd h1 (by decide)
theorem mb3 : mtB pA (runesB ⟨#[97, 46, 103, 111]⟩) = true := by
  rw [show runesB ⟨#[97, 46, 103, 111]⟩ = [97, 46, 103, 111] by kernel_rfl]
  exact (mtB_iff _ _).2 ((Mt_one (by decide) _ _).2 ⟨97, _, rfl, by decide, (Mt_star rfl _ _).2 ⟨[46, 103, 111], [], rfl, rfl⟩⟩)
theorem tk1 : takM [pGo] [pA] ⟨#[98, 46, 103, 111]⟩ false = true := by
  unfold takM mchM anyM
  simp only [List.any_cons, List.any_nil, mb1, mb2, List.length_cons, List.length_nil]
  rfl
theorem tk2 : takM [pGo] [pA] ⟨#[97, 46, 103, 111]⟩ false = false := by
  unfold takM mchM anyM
  simp only [List.any_cons, List.any_nil, mb3, List.length_cons, List.length_nil]
  simp
end Go.Proofs.YtjnoapbddifcpaaGreatDoor

namespace Go.Proofs.YtjnoapbddifcpaaGreatDoor
set_option maxRecDepth 100000
set_option linter.unusedSimpArgs false
set_option linter.unusedVariables false
open Go.RowKit Go.Joins Go.Deep
open Go.Lib hiding intOf
theorem cmp_small {s : ByteArray} {p : List Atm} (h : cmp1 s = some p) (hs : s.size ≤ 1000) : p.length ≤ 1000000 ∧ ∀ x ∈ p, x.rs.length ≤ 1000000 := by
  have hl : (runesB s).length ≤ s.size := runeF_len s s.size 0
  have h1 := compF_count h (fun x hx => by cases hx) (Nat.zero_le _)
  refine ⟨by have := h1.1; simp at this; omega, fun x hx => ?_⟩
  have := h1.2 x hx
  omega
theorem small_pats {ss : List ByteArray} {pats : List (List Atm)} (h : ss.map cmp1 = pats.map some) (hn : ss.length ≤ 1000) (hs : ∀ s ∈ ss, s.size ≤ 1000) : SmallP pats := by
  have hl : ss.length = pats.length := by have := congrArg List.length h; simpa using this
  refine ⟨by omega, fun p hp => ?_⟩
  have hm : some p ∈ ss.map cmp1 := by rw [h]; exact List.mem_map_of_mem hp
  obtain ⟨s, hs1, hs2⟩ := List.mem_map.1 hm
  have h1 := hs s hs1
  exact cmp_small hs2 h1
theorem txs_one (w : World) (s : ByteArray) (b : Nat) (f : Nat × Nat) (h : w.heap[b]? = some (.cells #[.string s] 9 f)) : TxS w (some ⟨b, 0, none⟩) [s] := fun _ => ⟨b, 0, rfl, lt_of_block h, fun i x hx => by
  match i, hx with
  | 0, hx =>
    injection hx with hx
    subst hx
    exact (cell_of_row _ _ 0 _ _ _ h).trans rfl⟩
set_option maxHeartbeats 4000000 in
theorem awake22_any (w : World) (hT : Tabs w) :
    Calls Tryz.prog 5 #[] w fun e w' => e = .returned (.bool true) ∧ Below w.heap.size w w' := by
  have hif := info_fil
  have hb1 := below_alG w (.cells #[.string ⟨#[42, 46, 103, 111]⟩] 9)
  have hx1 := heap_alloc_new w (.cells #[.string ⟨#[42, 46, 103, 111]⟩] 9)
  have hs1 : (w.alloc (.cells #[.string ⟨#[42, 46, 103, 111]⟩] 9)).heap.size = w.heap.size + 1 := by simp
  have hb2 := below_alG (w.alloc (.cells #[.string ⟨#[42, 46, 103, 111]⟩] 9)) (.cells #[.string ⟨#[97, 42]⟩] 9)
  have hx2 := heap_alloc_new (w.alloc (.cells #[.string ⟨#[42, 46, 103, 111]⟩] 9)) (.cells #[.string ⟨#[97, 42]⟩] 9)
  have hx1' := (hb2.block _ (lt_of_block hx1)).trans hx1
  rw [hs1] at hx2
  have HM : Hid (Calls Tryz.prog 9 #[.slice (some ⟨w.heap.size, 0, none⟩) 1 1, .slice (some ⟨w.heap.size + 1, 0, none⟩) 1 1] ((w.alloc (.cells #[.string ⟨#[42, 46, 103, 111]⟩] 9)).alloc (.cells #[.string ⟨#[97, 42]⟩] 9)) (MakR ((w.alloc (.cells #[.string ⟨#[42, 46, 103, 111]⟩] 9)).alloc (.cells #[.string ⟨#[97, 42]⟩] 9)) [⟨#[42, 46, 103, 111]⟩] [⟨#[97, 42]⟩])) :=
    fmake_any _ _ 1 1 [⟨#[42, 46, 103, 111]⟩] [⟨#[97, 42]⟩] (by decide) (by decide) (by decide) (by decide) _ (txs_one _ _ _ _ hx1') (txs_one _ _ _ _ hx2)
  have HB2 := Lib.hid (below_then hb1 hb2)
  have HT2 := Lib.hid ((hT.below hb1).below hb2)
  clear hb1 hx1 hs1 hb2 hx2 hx1' hT
  go_enter Tryz.func5, Tryz.ntmps5
  go_wp2_with fail
  refine HM.out.mono ?_; rintro e w3 hout
  clear HM
  generalize (w.alloc (.cells #[.string ⟨#[42, 46, 103, 111]⟩] 9)).alloc (.cells #[.string ⟨#[97, 42]⟩] 9) = w2 at *
  rcases hout with ⟨⟨s, hs, hn⟩, _⟩ | ⟨ins, outs, A1, c1, A2, c2, hi, ho, rfl, hF, hb3⟩
  · exfalso
    simp at hs
    rcases hs with rfl | rfl
    · rw [fx1] at hn; cases hn
    · rw [fx2] at hn; cases hn
  · obtain rfl : ins = [pGo] := by
      have h : [cmp1 ⟨#[42, 46, 103, 111]⟩] = ins.map some := hi
      rw [fx1] at h
      match ins, h with
      | [a], h => injection h with h _; injection h with h; rw [← h]; rfl
    obtain rfl : outs = [pA] := by
      have h : [cmp1 ⟨#[97, 42]⟩] = outs.map some := ho
      rw [fx2] at h
      match outs, h with
      | [a], h => injection h with h _; injection h with h; rw [← h]; rfl
    have HS1 : Hid (SmallP [pGo]) := small_pats hi (by decide) (by decide)
    have HS2 : Hid (SmallP [pA]) := small_pats ho (by decide) (by decide)
    have HB3 := Lib.hid (below_then HB2.out hb3)
    have HT3 := Lib.hid (HT2.out.below hb3)
    have hb4 := below_alG w3 (.cells #[.slice A1 1 c1, .slice A2 1 c2] 36)
    have HF4 : Hid (FilV (w3.alloc (.cells #[.slice A1 1 c1, .slice A2 1 c2] 36)) (.agg #[.slice A1 1 c1, .slice A2 1 c2]) [pGo] [pA]) := hF.below hb4
    have HX4 := Lib.hid (heap_alloc_new w3 (.cells #[.slice A1 1 c1, .slice A2 1 c2] 36))
    have HB4 := Lib.hid (below_then HB3.out hb4)
    have HT4 := Lib.hid (HT3.out.below hb4)
    clear hi ho hF hb4
    go_upto_region 2 with fail
    have HLT : Hid (w3.heap.size < (w3.alloc (.cells #[.slice A1 1 c1, .slice A2 1 c2] 36)).heap.size) := by show _ < _; simp
    generalize w3.alloc (.cells #[.slice A1 1 c1, .slice A2 1 c2] 36) = w4 at *
    have HK1 := Lib.hid (takes_any (.agg #[.slice A1 1 c1, .slice A2 1 c2]) [pGo] [pA] ⟨#[98, 46, 103, 111]⟩ false (by decide) HS1.out HS2.out w4 HF4.out HT4.out)
    rw [tk1] at HK1
    have a0 := (cell_of_row _ _ 0 _ _ _ HX4.out).trans (show _ = some (Value.slice A1 1 c1) from rfl)
    have a1 := (cell_of_row _ _ 1 _ _ _ HX4.out).trans (show _ = some (Value.slice A2 1 c2) from rfl)
    go_wp2_with fail
    refine HK1.out.mono ?_; rintro e w5 ⟨rfl, hb5⟩
    have HX5 := Lib.hid ((hb5.block _ HLT.out).trans HX4.out)
    have b0 := (cell_of_row _ _ 0 _ _ _ HX5.out).trans (show _ = some (Value.slice A1 1 c1) from rfl)
    have b1 := (cell_of_row _ _ 1 _ _ _ HX5.out).trans (show _ = some (Value.slice A2 1 c2) from rfl)
    have HB5 := Lib.hid (below_then HB4.out hb5)
    have HK2 := Lib.hid (takes_any (.agg #[.slice A1 1 c1, .slice A2 1 c2]) [pGo] [pA] ⟨#[97, 46, 103, 111]⟩ false (by decide) HS1.out HS2.out w5 (HF4.out.below hb5) (HT4.out.below hb5))
    rw [tk2] at HK2
    clear hb5 HK1 a0 a1
    go_wp2_with fail
    refine HK2.out.mono ?_; rintro e w6 ⟨rfl, hb6⟩
    have HB6 := Lib.hid (below_then HB5.out hb6)
    clear hb6
    go_wp2_with fail
    go_ret
    exact ⟨rfl, HB6.out⟩
end Go.Proofs.YtjnoapbddifcpaaGreatDoor

namespace Go.Proofs.YtjnoapbddifcpaaGreatDoor
set_option maxRecDepth 100000
set_option linter.unusedSimpArgs false
set_option linter.unusedVariables false
open Go.RowKit Go.Joins Go.Deep
open Go.Lib hiding intOf
set_option maxHeartbeats 4000000 in
theorem fmakeManyG_any (A1 A2 : Option Addr) (c1 c2 : Nat) (n1 n2 : Nat) (h : 100 < n1 ∨ 100 < n2) (w : World) :
    Calls Tryz.prog 9 #[.slice A1 n1 c1, .slice A2 n2 c2] w fun e w' => e = .returned (.tuple #[.agg #[.slice none 0 0, .slice none 0 0], .int .i64 6]) ∧ Below w.heap.size w w' := by
  have hif := info_fil
  have hzf := zero_fil
  have hmx : decide ((100 : Int) < (if (n1 : Int) < (n2 : Int) then (n2 : Int) else (n1 : Int))) = true := decide_eq_true (by split <;> omega)
  have hmx2 : decide ((100 : Int) < max (n1 : Int) (n2 : Int)) = true := decide_eq_true (by omega)
  have hmx3 : ¬ max (n1 : Int) (n2 : Int) ≤ 100 := by omega
  have HB0 := Lib.hid (below_alP w (.cells #[.slice none 0 0, .slice none 0 0] 36))
  have HX0 := Lib.hid (heap_alloc_new w (.cells #[.slice none 0 0, .slice none 0 0] 36))
  clear h
  go_enter Tryz.func9, Tryz.ntmps9
  go_upto_region 1 with fail
  generalize w.alloc (.cells #[.slice none 0 0, .slice none 0 0] 36) = w1 at *
  go_wp2_with (refine wpList_store_row rfl 36 (.tmp 4) (.tmp 15) rfl w.heap.size #[.slice none 0 0, .slice none 0 0] rfl rfl 36 _ HX0.out info_fil rfl (by simp [Value.oneCell']) ?_)
  have HY := Lib.hid (setRow_heap _ _ _ #[.slice none 0 0, .slice none 0 0] _ _ HX0.out)
  exact bodyPost_ret (results_ct_rowD rfl _ _ w.heap.size 36 #[.slice none 0 0, .slice none 0 0] (0, 0) _ rfl HY.out Tryz.underlying36 rfl info_fil) rfl ⟨rfl, below_setRow HB0.out (Nat.le_refl _) _⟩
theorem patR_nilG (w : World) (A : Option Addr) : PatR w A [] := fun h => absurd h (by decide)
theorem filK_nilG {w : World} (hT : Tabs w) : FilK w (.agg #[.slice none 0 0, .slice none 0 0]) [] [] := ⟨⟨none, 0, none, 0, rfl, patR_nilG _ _, patR_nilG _ _, Nat.le_refl _, Nat.le_refl _⟩, ⟨by decide, fun p h => by cases h⟩, ⟨by decide, fun p h => by cases h⟩, hT⟩
noncomputable def patO (s : ByteArray) : List Atm := (cmp1 s).getD []
/-- What patterns make. -/
noncomputable def mkV (ssi sso : List ByteArray) : List (List Atm) × List (List Atm) × Int :=
  if 100 < ssi.length ∨ 100 < sso.length then ([], [], 6) else if (ssi ++ sso).any (fun s => (cmp1 s).isNone) = true then ([], [], 22) else (ssi.map patO, sso.map patO, 0)
theorem pats_patO {ss : List ByteArray} {ps : List (List Atm)} (h : ss.map cmp1 = ps.map some) : ps = ss.map patO ∧ ∀ s ∈ ss, (cmp1 s).isNone = false := by
  induction ss generalizing ps with
  | nil =>
    cases ps with
    | nil => exact ⟨rfl, fun s hs => by cases hs⟩
    | cons p ps => cases h
  | cons s ss ih =>
    cases ps with
    | nil => cases h
    | cons p ps =>
      rw [List.map_cons, List.map_cons] at h
      injection h with h1 h2
      obtain ⟨e1, e2⟩ := ih h2
      refine ⟨?_, fun x hx => ?_⟩
      · rw [List.map_cons, ← e1]
        unfold patO
        rw [h1]
        rfl
      · rcases List.mem_cons.1 hx with rfl | hx
        · rw [h1]; rfl
        · exact e2 x hx
theorem mkV_many {ssi sso : List ByteArray} (h : 100 < ssi.length ∨ 100 < sso.length) : mkV ssi sso = ([], [], 6) := by unfold mkV; rw [if_pos h]
theorem mkV_bad {ssi sso : List ByteArray} (h : ¬ (100 < ssi.length ∨ 100 < sso.length)) (hb : ∃ s ∈ ssi ++ sso, cmp1 s = none) : mkV ssi sso = ([], [], 22) := by
  unfold mkV
  rw [if_neg h, if_pos]
  obtain ⟨s, hs, hn⟩ := hb
  rw [List.any_eq_true]
  exact ⟨s, hs, by rw [hn]; rfl⟩
theorem mkV_good {ssi sso : List ByteArray} {ins outs : List (List Atm)} (h : ¬ (100 < ssi.length ∨ 100 < sso.length)) (h1 : ssi.map cmp1 = ins.map some) (h2 : sso.map cmp1 = outs.map some) : mkV ssi sso = (ins, outs, 0) := by
  obtain ⟨e1, n1⟩ := pats_patO h1
  obtain ⟨e2, n2⟩ := pats_patO h2
  unfold mkV
  rw [if_neg h, if_neg, e1, e2]
  rw [List.any_eq_true]
  rintro ⟨s, hs, hn⟩
  rcases List.mem_append.1 hs with hs | hs
  · rw [n1 s hs] at hn; cases hn
  · rw [n2 s hs] at hn; cases hn
theorem mkV_none {ssi sso : List ByteArray} {ins outs : List (List Atm)} {z : Int} (h : mkV ssi sso = (ins, outs, z)) (hz : z ≠ 0) : ins.length = 0 ∧ outs.length = 0 := by
  unfold mkV at h
  split at h
  · injection h with h1 h2; injection h2 with h2 h3; subst h1; subst h2; exact ⟨rfl, rfl⟩
  · split at h
    · injection h with h1 h2; injection h2 with h2 h3; subst h1; subst h2; exact ⟨rfl, rfl⟩
    · injection h with h1 h2; injection h2 with h2 h3; exact absurd h3.symm hz
theorem light_sz {ss : List ByteArray} (h : LitP ss) : ∀ s ∈ ss, s.size ≤ 1000 := fun s hs => by
  rcases h with h | ⟨_, h⟩
  · obtain rfl : ss = [] := List.eq_nil_of_length_eq_zero h
    cases hs
  · have := h s hs; omega
theorem cmp_small2 {s : ByteArray} {p : List Atm} (h : cmp1 s = some p) (hs : s.size ≤ 1000) : p.length ≤ 100000 := by
  have hl : (runesB s).length ≤ s.size := runeF_len s s.size 0
  have h1 := compF_count h (fun x hx => by cases hx) (Nat.zero_le _)
  have := h1.1; simp at this; omega
theorem small_pats2 {ss : List ByteArray} {pats : List (List Atm)} (h : ss.map cmp1 = pats.map some) (hs : ∀ s ∈ ss, s.size ≤ 1000) : ∀ p ∈ pats, p.length ≤ 100000 := fun p hp => by
  have hm : some p ∈ ss.map cmp1 := by rw [h]; exact List.mem_map_of_mem hp
  obtain ⟨s, hs1, hs2⟩ := List.mem_map.1 hm
  exact cmp_small2 hs2 (hs s hs1)
theorem filE_nil (w : World) : FilE w (.agg #[.slice none 0 0, .slice none 0 0]) [] [] := ⟨⟨none, 0, none, 0, rfl, fun h => absurd h (by decide), fun h => absurd h (by decide)⟩, ⟨by decide, fun p h => by cases h⟩, ⟨by decide, fun p h => by cases h⟩, (fun p h => by cases h), (fun p h => by cases h)⟩
theorem fmakeV_any (A1 A2 : Option Addr) (c1 c2 : Nat) (ssi sso : List ByteArray) (h1 : LitP ssi) (h2 : LitP sso) (ins outs : List (List Atm)) (z : Int) (hm : mkV ssi sso = (ins, outs, z)) (w : World) (hT1 : TxS w A1 ssi) (hT2 : TxS w A2 sso) (hT : Tabs w) :
    Calls Tryz.prog 9 #[.slice A1 ssi.length c1, .slice A2 sso.length c2] w fun e w' => ∃ FA fa FB fb, e = .returned (.tuple #[.agg #[.slice FA ins.length fa, .slice FB outs.length fb], .int .i64 z]) ∧ FilK w' (.agg #[.slice FA ins.length fa, .slice FB outs.length fb]) ins outs ∧ Below w.heap.size w w' := by
  by_cases hmn : 100 < ssi.length ∨ 100 < sso.length
  · rw [mkV_many hmn] at hm
    injection hm with e1 e2; injection e2 with e2 e3; subst e1; subst e2; subst e3
    refine (fmakeManyG_any A1 A2 c1 c2 ssi.length sso.length hmn w).mono ?_
    rintro e w' ⟨rfl, hb⟩
    exact ⟨none, 0, none, 0, rfl, filK_nilG (hT.below hb), hb⟩
  · refine (fmake_any A1 A2 c1 c2 ssi sso (by omega) (by omega) (fun s hs => by have := light_sz h1 s hs; omega) (fun s hs => by have := light_sz h2 s hs; omega) w hT1 hT2).mono ?_
    rintro e w' hout
    rcases hout with ⟨hbad, rfl, hb⟩ | ⟨ins', outs', A5, c5, A6, c6, g1, g2, rfl, hF, hb⟩
    · rw [mkV_bad hmn hbad] at hm
      injection hm with e1 e2; injection e2 with e2 e3; subst e1; subst e2; subst e3
      exact ⟨none, 0, none, 0, rfl, filK_nilG (hT.below hb), hb⟩
    · rw [mkV_good hmn g1 g2] at hm
      injection hm with e1 e2; injection e2 with e2 e3; subst e1; subst e2; subst e3
      exact ⟨_, _, _, _, rfl, ⟨hF, small_pats g1 (by omega) (light_sz h1), small_pats g2 (by omega) (light_sz h2), hT.below hb⟩, hb⟩
theorem rmakeV_any (A1 A2 : Option Addr) (c1 c2 : Nat) (ssi sso : List ByteArray) (h1 : LitP ssi) (h2 : LitP sso) (ins outs : List (List Atm)) (z : Int) (hm : mkV ssi sso = (ins, outs, z)) (w : World) (hT1 : TxS w A1 ssi) (hT2 : TxS w A2 sso) :
    Calls Tryz.prog 10 #[.slice A1 ssi.length c1, .slice A2 sso.length c2] w fun e w' => ∃ FA fa FB fb, e = .returned (.tuple #[.agg #[.slice FA ins.length fa, .slice FB outs.length fb], .int .i64 z]) ∧ FilE w' (.agg #[.slice FA ins.length fa, .slice FB outs.length fb]) ins outs ∧ Below w.heap.size w w' := by
  by_cases hmn : 100 < ssi.length ∨ 100 < sso.length
  · rw [mkV_many hmn] at hm
    injection hm with e1 e2; injection e2 with e2 e3; subst e1; subst e2; subst e3
    refine (rfmakeMany_any A1 A2 c1 c2 ssi.length sso.length hmn w).mono ?_
    rintro e w' ⟨rfl, hb⟩
    exact ⟨none, 0, none, 0, rfl, filE_nil w', hb⟩
  · refine (rfmake_any A1 A2 c1 c2 ssi sso (by omega) (by omega) (fun s hs => by have := light_sz h1 s hs; omega) (fun s hs => by have := light_sz h2 s hs; omega) w hT1 hT2).mono ?_
    rintro e w' hout
    rcases hout with ⟨hbad, rfl, hb⟩ | ⟨ins', outs', A5, c5, A6, c6, g1, g2, rfl, hF, hb⟩
    · rw [mkV_bad hmn hbad] at hm
      injection hm with e1 e2; injection e2 with e2 e3; subst e1; subst e2; subst e3
      exact ⟨none, 0, none, 0, rfl, filE_nil w', hb⟩
    · rw [mkV_good hmn g1 g2] at hm
      injection hm with e1 e2; injection e2 with e2 e3; subst e1; subst e2; subst e3
      exact ⟨_, _, _, _, rfl, ⟨hF, small_pats g1 (by omega) (light_sz h1), small_pats g2 (by omega) (light_sz h2), small_pats2 g1 (light_sz h1), small_pats2 g2 (light_sz h2)⟩, hb⟩
/-- The places that Entries answers. -/
noncomputable def entQ (ins outs : List (List Atm)) (l : List Ent) : List Int := if entZ l = 0 then entP ins outs l l.length else []
theorem entQ_len (ins outs : List (List Atm)) (l : List Ent) : (entQ ins outs l).length ≤ l.length := by
  unfold entQ
  split
  · exact entP_len _ _ _ _
  · exact Nat.zero_le _
theorem entX_forms {w w' : World} {ins outs : List (List Atm)} {l : List Ent} {e : Ending} (h : EntX w ins outs l e w') : ∃ A c, e = .returned (.tuple #[.slice A (entQ ins outs l).length c, .int .i64 (entZ l)]) ∧ IntW w' A (entQ ins outs l) ∧ Below w.heap.size w w' := by
  rcases h with ⟨hz, rfl, hb⟩ | ⟨hz, A, c, rfl, hi, _, hb⟩
  · have hq : entQ ins outs l = [] := by unfold entQ; rw [if_neg hz]
    rw [hq]
    exact ⟨none, 0, rfl, fun h => absurd h (by decide), hb⟩
  · have hq : entQ ins outs l = entP ins outs l l.length := by unfold entQ; rw [if_pos hz]
    rw [hq, hz]
    exact ⟨A, c, rfl, hi, hb⟩
theorem entriesQ_any (V : Value) (ins outs : List (List Atm)) (A : Option Addr) (c : Nat) (l : List Ent) (w : World) (hR : Ents w A l) (hl : l.length ≤ 1000) (hL : LightL l) (hU : Upper w) (hE : Env w) (hF : FilK w V ins outs) :
    Calls Tryz.prog 11 #[V, .slice A l.length c] w fun e w' => ∃ A c, e = .returned (.tuple #[.slice A (entQ ins outs l).length c, .int .i64 (entZ l)]) ∧ IntW w' A (entQ ins outs l) ∧ Below w.heap.size w w' :=
  (entriesX_any V ins outs A c l w hR hl hL hU hE hF).mono fun e w' h => entX_forms h
theorem rentriesQ_any (V : Value) (ins outs : List (List Atm)) (A : Option Addr) (c : Nat) (l : List Ent) (w : World) (hR : Ents w A l) (hl : l.length ≤ 1000) (hL : LightL l) (hF : FilE w V ins outs) :
    Calls Tryz.prog 12 #[V, .slice A l.length c] w fun e w' => ∃ A c, e = .returned (.tuple #[.slice A (entQ ins outs l).length c, .int .i64 (entZ l)]) ∧ IntW w' A (entQ ins outs l) ∧ Below w.heap.size w w' :=
  (rentries_any V ins outs A c l w hR hl hL hF).mono fun e w' h => entX_forms h
end Go.Proofs.YtjnoapbddifcpaaGreatDoor
