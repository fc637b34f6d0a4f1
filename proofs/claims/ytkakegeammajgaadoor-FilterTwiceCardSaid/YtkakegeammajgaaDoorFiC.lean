/-
  Filter: Make, matched, Takes.
-/
import Derived.Test.YtkakegeammajgaaDoorFiB
namespace Go.Proofs.YtkakegeammajgaaDoor
set_option maxRecDepth 100000
set_option linter.unusedSimpArgs false
set_option linter.unusedVariables false
open Go.RowKit Go.Joins Go.Deep
open Go.Lib hiding intOf
theorem info_fil : (Tryd.prog.info? 29).map (·.size) = some 2 := by kernel_rfl
theorem zero_fil (w : World) : (zeroValue 29).run Tryd.prog w = .ok (.agg #[.slice none 0 0, .slice none 0 0]) w := by kernel_rfl
/-- A filter's value. -/
def FilV (w : World) (V : Value) (ins outs : List (List Atm)) : Prop := ∃ A1 c1 A2 c2, V = .agg #[.slice A1 ins.length c1, .slice A2 outs.length c2] ∧ PatR w A1 ins ∧ PatR w A2 outs ∧ ins.length ≤ c1 ∧ outs.length ≤ c2
theorem FilV.below {w w' : World} {V : Value} {ins outs : List (List Atm)} (h : FilV w V ins outs) (hb : Below w.heap.size w w') : FilV w' V ins outs := by
  obtain ⟨A1, c1, A2, c2, e, h1, h2, h3, h4⟩ := h
  exact ⟨A1, c1, A2, c2, e, h1.below hb, h2.below hb, h3, h4⟩
/-- Does one of some patterns match? -/
noncomputable def anyM (pats : List (List Atm)) (s : ByteArray) : Bool := pats.any fun p => mtB p (runesB s)
def slash (s : ByteArray) : ByteArray := s ++ ⟨#[47]⟩
noncomputable def mchM (pats : List (List Atm)) (s : ByteArray) (dir : Bool) : Bool := anyM pats s || (dir && anyM pats (slash s))
noncomputable def takM (ins outs : List (List Atm)) (s : ByteArray) (dir : Bool) : Bool := (decide (ins.length = 0) || mchM ins s dir) && !mchM outs s dir
/-- All is small. -/
def SmallP (pats : List (List Atm)) : Prop := pats.length ≤ 1000 ∧ ∀ p ∈ pats, p.length ≤ 1000000 ∧ ∀ x ∈ p, x.rs.length ≤ 1000000
theorem fany_any (A : Option Addr) (c : Nat) (pats : List (List Atm)) (s : ByteArray) (hs : s.size ≤ 1000000) (hp : SmallP pats) (w : World) (hR : PatR w A pats) (hT : Tabs w) :
    Calls Tryd.prog 19 #[.slice A pats.length c, .string s] w fun e w' => e = .returned (.bool (anyM pats s)) ∧ Below w.heap.size w w' := by
  by_cases h0 : pats.length = 0
  · obtain rfl : pats = [] := List.eq_nil_of_length_eq_zero h0
    have h := any_any (fun _ => True) (fun _ _ _ _ => trivial) s [] A c w (fun q hq => by cases hq) (by decide) (fun h => by cases h) trivial
    exact h
  · obtain ⟨b, cs, e, hb, hc⟩ := hR (by omega)
    have hV : ∀ i, i < pats.length → ∃ V, cs[i]? = some V ∧ ∀ p, pats[i]? = some p → PV w V p := fun i hi => by
      obtain ⟨V, h1, h2⟩ := hc i pats[i] (List.getElem?_eq_getElem hi)
      exact ⟨V, h1, fun p hp => by rw [List.getElem?_eq_getElem hi] at hp; injection hp with hp; rw [← hp]; exact h2⟩
    -- the values with their answers
    have hps : ∃ ps : List (Value × Bool), ps.length = pats.length ∧ (∀ (i : Nat) q, ps[i]? = some q → cs[i]? = some q.1 ∧ ∃ p, pats[i]? = some p ∧ PV w q.1 p ∧ q.2 = mtB p (runesB s)) ∧ ps.map (·.2) = pats.map fun p => mtB p (runesB s) := by
      have key : ∀ k, k ≤ pats.length → ∃ ps : List (Value × Bool), ps.length = k ∧ (∀ (i : Nat) q, ps[i]? = some q → cs[i]? = some q.1 ∧ ∃ p, pats[i]? = some p ∧ PV w q.1 p ∧ q.2 = mtB p (runesB s)) ∧ ps.map (·.2) = (pats.take k).map fun p => mtB p (runesB s) := by
        intro k
        induction k with
        | zero => intro _; exact ⟨[], rfl, (fun i q h => by cases h), rfl⟩
        | succ k ih =>
          intro hk
          obtain ⟨ps, h1, h2, h3⟩ := ih (by omega)
          obtain ⟨V, g1, g2⟩ := hV k (by omega)
          refine ⟨ps ++ [(V, mtB pats[k] (runesB s))], by rw [List.length_append, h1]; rfl, fun i q hq => ?_, ?_⟩
          · by_cases e : i = k
            · subst e
              rw [List.getElem?_append_right (by omega), h1, Nat.sub_self] at hq
              injection hq with hq
              subst hq
              exact ⟨g1, pats[i], List.getElem?_eq_getElem (by omega), g2 _ (List.getElem?_eq_getElem (by omega)), rfl⟩
            · have hi : i < k := by
                have := (List.getElem?_eq_some_iff.1 hq).1
                rw [List.length_append, h1] at this
                simp at this
                omega
              rw [List.getElem?_append_left (by omega)] at hq
              exact h2 i q hq
          · rw [List.map_append, h3, List.take_succ_eq_append_getElem (by omega), List.map_append]
            rfl
      obtain ⟨ps, h1, h2, h3⟩ := key pats.length (Nat.le_refl _)
      rw [List.take_length] at h3
      exact ⟨ps, h1, h2, h3⟩
    obtain ⟨ps, h1, h2, h3⟩ := hps
    have h := any_any (fun w1 => Tabs w1 ∧ KeepG w w1) (fun w1 w2 hw hb => ⟨hw.1.below hb, hw.2.then (keepG_below hb)⟩) s ps A c w (fun q hq => by
      obtain ⟨i, hi⟩ := List.getElem?_of_mem hq
      obtain ⟨g1, p, g2, g3, g4⟩ := h2 i q hi
      refine ⟨g3.one, fun w1 hw => ?_⟩
      obtain ⟨A1, c1, k1, k2, k3⟩ := g3.keep hw.2
      obtain ⟨m1, m2⟩ := hp.2 p (List.mem_of_getElem? g2)
      rw [k1, g4]
      exact matches_any p A1 c1 s hs m1 k2 m2 w1 hw.1 k3.ats) (by rw [h1]; exact hp.1) (fun _ => ⟨b, 0, e, lt_of_block hb, fun i q hq => by
        rw [Nat.zero_add]
        exact (cell_of_row _ _ _ _ _ _ hb).trans (h2 i q hq).1⟩) ⟨hT, fun T b cs _ hx => hx⟩
    rw [h1] at h
    have hany : ps.any (fun q => q.2) = anyM pats s := by
      have e1 : ps.any (fun q => q.2) = (ps.map (·.2)).any id := by rw [List.any_map]; rfl
      have e2 : anyM pats s = (pats.map fun p => mtB p (runesB s)).any id := by unfold anyM; rw [List.any_map]; rfl
      rw [e1, e2, h3]
    rw [hany] at h
    exact h
set_option maxHeartbeats 4000000 in
theorem matched_any (A : Option Addr) (c : Nat) (pats : List (List Atm)) (s : ByteArray) (dir : Bool) (hs : s.size ≤ 10000) (hp : SmallP pats) (w : World) (hR : PatR w A pats) (hT : Tabs w) :
    Calls Tryd.prog 16 #[.slice A pats.length c, .string s, .bool dir] w fun e w' => e = .returned (.bool (mchM pats s dir)) ∧ Below w.heap.size w w' := by
  have H1 := Lib.hid (fany_any A c pats s (by omega) hp w hR hT)
  have H2 := Lib.hid (fun w1 (hb : Below w.heap.size w w1) => fany_any A c pats (slash s) (by unfold slash; rw [ByteArray.size_append]; show s.size + 1 ≤ _; omega) hp w1 (hR.below hb) (hT.below hb))
  have HV : Hid (mchM pats s dir = (anyM pats s || (dir && anyM pats (slash s)))) := rfl
  generalize mchM pats s dir = V at *
  generalize anyM pats s = X at *
  generalize anyM pats (slash s) = Y at *
  have hcat : ¬ 9223372036854775807 < s.size + (⟨#[47]⟩ : ByteArray).size := by show ¬ 9223372036854775807 < s.size + 1; omega
  have hcat1 : ¬ 9223372036854775807 < s.size + 1 := by omega
  have HSL : Hid (slash s = s ++ ⟨#[47]⟩) := rfl
  rw [HSL.out] at H2
  go_enter Tryd.func16, Tryd.ntmps16
  go_wp2_with fail
  refine H1.out.mono ?_; rintro e w1 ⟨rfl, hb1⟩
  have HB1 := Lib.hid hb1
  clear hb1
  cases X with
  | true =>
    go_wp2_with fail
    go_ret
    exact ⟨by rw [HV.out]; rfl, HB1.out⟩
  | false =>
    cases dir with
    | false =>
      go_wp2_with fail
      go_ret
      exact ⟨by rw [HV.out]; rfl, HB1.out⟩
    | true =>
      go_wp2_with fail
      refine (H2.out _ HB1.out).mono ?_; rintro e w2 ⟨rfl, hb2⟩
      have HB2 := Lib.hid (below_then HB1.out hb2)
      clear hb2
      go_wp2_with fail
      go_ret
      exact ⟨by rw [HV.out]; rfl, HB2.out⟩
set_option maxHeartbeats 4000000 in
theorem takes_any (V : Value) (ins outs : List (List Atm)) (s : ByteArray) (dir : Bool) (hs : s.size ≤ 10000) (h1 : SmallP ins) (h2 : SmallP outs) (w : World) (hF : FilV w V ins outs) (hT : Tabs w) :
    Calls Tryd.prog 9 #[V, .string s, .bool dir] w fun e w' => e = .returned (.bool (takM ins outs s dir)) ∧ Below w.heap.size w w' := by
  obtain ⟨A1, c1, A2, c2, rfl, hR1, hR2, _, _⟩ := hF
  have hif := info_fil
  have hb0 := below_al w (.cells #[.slice A1 ins.length c1, .slice A2 outs.length c2] 29)
  have hx0 := heap_alloc_new w (.cells #[.slice A1 ins.length c1, .slice A2 outs.length c2] 29)
  have HB0 := Lib.hid hb0
  have HX0 := Lib.hid hx0
  have H1 := Lib.hid (matched_any A1 c1 ins s dir hs h1 _ (hR1.below hb0) (hT.below hb0))
  have H2 := Lib.hid (fun w1 (hb : Below w.heap.size w w1) => matched_any A2 c2 outs s dir hs h2 w1 (hR2.below hb) (hT.below hb))
  have HV : Hid (takM ins outs s dir = ((decide (ins.length = 0) || mchM ins s dir) && !mchM outs s dir)) := rfl
  generalize takM ins outs s dir = V at *
  generalize mchM ins s dir = X at *
  generalize mchM outs s dir = Y at *
  clear hR1 hR2 hT hb0
  have a0 := (cell_of_row _ _ 0 _ _ _ hx0).trans (show _ = some (Value.slice A1 ins.length c1) from rfl)
  have a1 := (cell_of_row _ _ 1 _ _ _ hx0).trans (show _ = some (Value.slice A2 outs.length c2) from rfl)
  clear hx0
  by_cases h0 : ins.length = 0
  · have d0 : ((((ins.length : Nat) : Int)) == 0) = true := by rw [beq_iff_eq]; omega
    have HD : Hid (decide (ins.length = 0) = true) := decide_eq_true h0
    clear h0
    go_enter Tryd.func9, Tryd.ntmps9
    go_upto_region 1 with fail
    generalize hg : w.heap.size = g at *
    generalize w.alloc (.cells #[.slice A1 ins.length c1, .slice A2 outs.length c2] 29) = w1 at *
    have HLT : Hid (g < w1.heap.size) := lt_of_block HX0.out
    go_wp2_with fail
    refine (H2.out _ HB0.out).mono ?_; rintro e w3 ⟨rfl, hb3⟩
    have HB3 := Lib.hid (below_then (by rw [hg]; exact HB0.out : Below w.heap.size w w1) hb3)
    clear hb3
    go_wp2_with fail
    go_ret
    exact ⟨by rw [HV.out, HD.out]; rfl, HB3.out⟩
  · have d0 : ((((ins.length : Nat) : Int)) == 0) = false := by rw [beq_eq_false_iff_ne]; omega
    have HD : Hid (decide (ins.length = 0) = false) := decide_eq_false h0
    clear h0
    go_enter Tryd.func9, Tryd.ntmps9
    go_upto_region 1 with fail
    generalize hg : w.heap.size = g at *
    generalize w.alloc (.cells #[.slice A1 ins.length c1, .slice A2 outs.length c2] 29) = w1 at *
    have HLT : Hid (g < w1.heap.size) := lt_of_block HX0.out
    go_wp2_with fail
    refine H1.out.mono ?_; rintro e w2 ⟨rfl, hb2⟩
    have HB2 := Lib.hid (below_then (by rw [hg]; exact HB0.out : Below w.heap.size w w1) hb2)
    have b1 := (hb2.cell (p := ⟨g, 1, none⟩) HLT.out).trans a1
    clear hb2
    cases X with
    | false =>
      go_wp2_with fail
      go_ret
      exact ⟨by rw [HV.out, HD.out]; rfl, HB2.out⟩
    | true =>
      go_wp2_with fail
      refine (H2.out _ (by rw [← hg]; exact HB2.out)).mono ?_; rintro e w3 ⟨rfl, hb3⟩
      have HB3 := Lib.hid (below_then HB2.out hb3)
      clear hb3
      go_wp2_with fail
      go_ret
      exact ⟨by rw [HV.out, HD.out]; rfl, HB3.out⟩
end Go.Proofs.YtkakegeammajgaaDoor
