/-
  Filter: the chapter's example (awake); what more patterns do.
-/
import Derived.Test.YtkakegeammajgaaDoorFiE
import Derived.Test.YtkakegeammajgaaDoorGlJ
namespace Go.Proofs.YtkakegeammajgaaDoor
set_option maxRecDepth 100000
set_option linter.unusedSimpArgs false
set_option linter.unusedVariables false
open Go.RowKit Go.Joins Go.Deep
open Go.Lib hiding intOf
theorem cmp_small {s : ByteArray} {p : List Atm} (h : cmp1 s = some p) (hs : s.size ≤ 1000) : p.length ≤ 1000000 ∧ ∀ x ∈ p, x.rs.length ≤ 1000000 := by
  have hl : (runesB s).length ≤ s.size := runeF_len s s.size 0
  have h1 := compF_count h (fun x hx => by cases hx) (Nat.zero_le _)
  refine ⟨by have := h1.1; simp at this; omega, fun x hx => ?_⟩
  have := h1.2 x hx
  omega
theorem small_pats {ss : List ByteArray} {pats : List (List Atm)} (h : ss.map cmp1 = pats.map some) (hn : ss.length ≤ 1000) (hs : ∀ s ∈ ss, s.size ≤ 1000) : SmallP pats := by
  have hl : ss.length = pats.length := by have := congrArg List.length h; simpa using this
  refine ⟨by omega, fun p hp => ?_⟩
  have hm : some p ∈ ss.map cmp1 := by rw [h]; exact List.mem_map_of_mem hp
  obtain ⟨s, hs1, hs2⟩ := List.mem_map.1 hm
  have h1 := hs s hs1
  exact cmp_small hs2 h1
theorem txs_one (w : World) (s : ByteArray) (b : Nat) (f : Nat × Nat) (h : w.heap[b]? = some (.cells #[.string s] 9 f)) : TxS w (some ⟨b, 0, none⟩) [s] := fun _ => ⟨b, 0, rfl, lt_of_block h, fun i x hx => by
  match i, hx with
  | 0, hx =>
    injection hx with hx
    subst hx
    exact (cell_of_row _ _ 0 _ _ _ h).trans rfl⟩
set_option maxHeartbeats 4000000 in
theorem awake22_any (w : World) (hT : Tabs w) :
    Calls Tryd.prog 4 #[] w fun e w' => e = .returned (.bool true) ∧ Below w.heap.size w w' := by
  have hif := info_fil
  have hb1 := below_al w (.cells #[.string ⟨#[42, 46, 103, 111]⟩] 9)
  have hx1 := heap_alloc_new w (.cells #[.string ⟨#[42, 46, 103, 111]⟩] 9)
  have hs1 : (w.alloc (.cells #[.string ⟨#[42, 46, 103, 111]⟩] 9)).heap.size = w.heap.size + 1 := by simp
  have hb2 := below_al (w.alloc (.cells #[.string ⟨#[42, 46, 103, 111]⟩] 9)) (.cells #[.string ⟨#[97, 42]⟩] 9)
  have hx2 := heap_alloc_new (w.alloc (.cells #[.string ⟨#[42, 46, 103, 111]⟩] 9)) (.cells #[.string ⟨#[97, 42]⟩] 9)
  have hx1' := (hb2.block _ (lt_of_block hx1)).trans hx1
  rw [hs1] at hx2
  have HM : Hid (Calls Tryd.prog 7 #[.slice (some ⟨w.heap.size, 0, none⟩) 1 1, .slice (some ⟨w.heap.size + 1, 0, none⟩) 1 1] ((w.alloc (.cells #[.string ⟨#[42, 46, 103, 111]⟩] 9)).alloc (.cells #[.string ⟨#[97, 42]⟩] 9)) (MakR ((w.alloc (.cells #[.string ⟨#[42, 46, 103, 111]⟩] 9)).alloc (.cells #[.string ⟨#[97, 42]⟩] 9)) [⟨#[42, 46, 103, 111]⟩] [⟨#[97, 42]⟩])) :=
    make_any _ _ 1 1 [⟨#[42, 46, 103, 111]⟩] [⟨#[97, 42]⟩] (by decide) (by decide) (by decide) (by decide) _ (txs_one _ _ _ _ hx1') (txs_one _ _ _ _ hx2)
  have HB2 := Lib.hid (below_then hb1 hb2)
  have HT2 := Lib.hid ((hT.below hb1).below hb2)
  clear hb1 hx1 hs1 hb2 hx2 hx1' hT
  go_enter Tryd.func4, Tryd.ntmps4
  go_wp2_with fail
  refine HM.out.mono ?_; rintro e w3 hout
  clear HM
  generalize (w.alloc (.cells #[.string ⟨#[42, 46, 103, 111]⟩] 9)).alloc (.cells #[.string ⟨#[97, 42]⟩] 9) = w2 at *
  rcases hout with ⟨⟨s, hs, hn⟩, _⟩ | ⟨ins, outs, A1, c1, A2, c2, hi, ho, rfl, hF, hb3⟩
  · exfalso
    simp at hs
    rcases hs with rfl | rfl
    · rw [fx1] at hn; cases hn
    · rw [fx2] at hn; cases hn
  · obtain rfl : ins = [pGo] := by
      have h : [cmp1 ⟨#[42, 46, 103, 111]⟩] = ins.map some := hi
      rw [fx1] at h
      match ins, h with
      | [a], h => injection h with h _; injection h with h; rw [← h]; rfl
    obtain rfl : outs = [pA] := by
      have h : [cmp1 ⟨#[97, 42]⟩] = outs.map some := ho
      rw [fx2] at h
      match outs, h with
      | [a], h => injection h with h _; injection h with h; rw [← h]; rfl
    have HS1 : Hid (SmallP [pGo]) := small_pats hi (by decide) (by decide)
    have HS2 : Hid (SmallP [pA]) := small_pats ho (by decide) (by decide)
    have HB3 := Lib.hid (below_then HB2.out hb3)
    have HT3 := Lib.hid (HT2.out.below hb3)
    have hb4 := below_al w3 (.cells #[.slice A1 1 c1, .slice A2 1 c2] 29)
    have HF4 : Hid (FilV (w3.alloc (.cells #[.slice A1 1 c1, .slice A2 1 c2] 29)) (.agg #[.slice A1 1 c1, .slice A2 1 c2]) [pGo] [pA]) := hF.below hb4
    have HX4 := Lib.hid (heap_alloc_new w3 (.cells #[.slice A1 1 c1, .slice A2 1 c2] 29))
    have HB4 := Lib.hid (below_then HB3.out hb4)
    have HT4 := Lib.hid (HT3.out.below hb4)
    clear hi ho hF hb4
    go_upto_region 2 with fail
    have HLT : Hid (w3.heap.size < (w3.alloc (.cells #[.slice A1 1 c1, .slice A2 1 c2] 29)).heap.size) := by show _ < _; simp
    generalize w3.alloc (.cells #[.slice A1 1 c1, .slice A2 1 c2] 29) = w4 at *
    have HK1 := Lib.hid (takes_any (.agg #[.slice A1 1 c1, .slice A2 1 c2]) [pGo] [pA] ⟨#[98, 46, 103, 111]⟩ false (by decide) HS1.out HS2.out w4 HF4.out HT4.out)
    rw [tk1] at HK1
    have a0 := (cell_of_row _ _ 0 _ _ _ HX4.out).trans (show _ = some (Value.slice A1 1 c1) from rfl)
    have a1 := (cell_of_row _ _ 1 _ _ _ HX4.out).trans (show _ = some (Value.slice A2 1 c2) from rfl)
    go_wp2_with fail
    refine HK1.out.mono ?_; rintro e w5 ⟨rfl, hb5⟩
    have HX5 := Lib.hid ((hb5.block _ HLT.out).trans HX4.out)
    have b0 := (cell_of_row _ _ 0 _ _ _ HX5.out).trans (show _ = some (Value.slice A1 1 c1) from rfl)
    have b1 := (cell_of_row _ _ 1 _ _ _ HX5.out).trans (show _ = some (Value.slice A2 1 c2) from rfl)
    have HB5 := Lib.hid (below_then HB4.out hb5)
    have HK2 := Lib.hid (takes_any (.agg #[.slice A1 1 c1, .slice A2 1 c2]) [pGo] [pA] ⟨#[97, 46, 103, 111]⟩ false (by decide) HS1.out HS2.out w5 (HF4.out.below hb5) (HT4.out.below hb5))
    rw [tk2] at HK2
    clear hb5 HK1 a0 a1
    go_wp2_with fail
    refine HK2.out.mono ?_; rintro e w6 ⟨rfl, hb6⟩
    have HB6 := Lib.hid (below_then HB5.out hb6)
    clear hb6
    go_wp2_with fail
    go_ret
    exact ⟨rfl, HB6.out⟩
end Go.Proofs.YtkakegeammajgaaDoor
