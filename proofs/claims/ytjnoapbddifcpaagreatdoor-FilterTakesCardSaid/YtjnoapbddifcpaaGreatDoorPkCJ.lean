/-
  The document's filter: what it means.
  Filter: Make of more than a hundred patterns.
  Filter: takes, of a node.
  Filter: what Tree deletes.
  Filter: items in memory; the first that Tree deletes.
-/
import Derived.Test.YtjnoapbddifcpaaGreatDoorFrB
import Derived.Test.YtjnoapbddifcpaaGreatDoorPkBA
import Derived.Test.YtjnoapbddifcpaaGreatDoorPkBB
import Derived.Deep.MidRow
import Derived.Test.YtjnoapbddifcpaaGreatDoorPkBF

namespace Go.Proofs.YtjnoapbddifcpaaGreatDoor
set_option maxRecDepth 100000
set_option linter.unusedSimpArgs false
set_option linter.unusedVariables false
open Go.RowKit Go.Joins Go.Deep
open Go.Lib hiding intOf
/-- Does one pattern match, or the path as a directory's? -/
noncomputable def hitB (s : ByteArray) (dir : Bool) (p : List Atm) : Bool := mtB p (runesB s) || (dir && mtB p (runesB (slash s)))
theorem hit_any (pats : List (List Atm)) (s : ByteArray) (dir : Bool) : pats.any (hitB s dir) = mchM pats s dir := by
  unfold mchM anyM hitB
  induction pats with
  | nil => cases dir <;> rfl
  | cons p l ih =>
    rw [List.any_cons, ih, List.any_cons, List.any_cons]
    cases dir <;> cases mtB p (runesB s) <;> cases mtB p (runesB (slash s)) <;> simp
theorem hit_take (pats : List (List Atm)) (s : ByteArray) (dir : Bool) (k : Nat) (h : k < pats.length) : (pats.take (k + 1)).any (hitB s dir) = ((pats.take k).any (hitB s dir) || hitB s dir pats[k]) := by
  rw [List.take_succ_eq_append_getElem h, List.any_append, List.any_cons, List.any_nil, Bool.or_false]
set_option maxHeartbeats 8000000 in
theorem rhits_any (A : Option Addr) (c : Nat) (pats : List (List Atm)) (s : ByteArray) (dir : Bool) (hs : s.size ≤ 99000) (hp : SmallP pats) (hsm : ∀ p ∈ pats, p.length ≤ 100000) (w : World) (hR : PatD w A pats) :
    Calls Tryz.prog 33 #[.slice A pats.length c, .string s, .bool dir] w fun e w' => e = .returned (.bool (mchM pats s dir)) ∧ Below w.heap.size w w' := by
  have HR := Lib.hid (fun w1 (hb : Below w.heap.size w w1) => hR.below hb)
  have HPS := Lib.hid hp
  have HSM := Lib.hid hsm
  obtain ⟨V, hV⟩ : ∃ V, V = mchM pats s dir := ⟨_, rfl⟩
  rw [← hV]
  rw [← hit_any] at hV
  have HV := Lib.hid hV
  have hl := hp.1
  have hsl : (slash s).size = s.size + 1 := by unfold slash; rw [ByteArray.size_append]; rfl
  have HSL := Lib.hid hsl
  have HSE : Hid (slash s = s ++ ⟨#[47]⟩) := rfl
  clear hR hp hsm hV hsl
  go_enter Tryz.func33, Tryz.ntmps33
  go_wp2_with fail
  go_loopw [11] (fun v11 wr => ∃ k : Nat, k ≤ pats.length ∧ v11 = .int .i64 (k : Nat) ∧ Hid ((pats.take k).any (hitB s dir) = false) ∧ Hid (Below w.heap.size w wr)) (fun v _ => pats.length - (intOf v).toNat)
  case atStart => exact ⟨0, Nat.zero_le _, rfl, rfl, Below.refl _ _⟩
  case round =>
    obtain ⟨k, hk, rfl, HN, HB⟩ := hrel
    by_cases hlt : k < pats.length
    · have hd : decide ((k : Int) < (pats.length : Int)) = true := decide_eq_true (by omega)
      obtain ⟨b, cs, rfl, hb, hc⟩ := (HR.out wr HB.out) (by omega)
      obtain ⟨V1, hv1, A1, c1, rfl, hat⟩ := hc k pats[k] (List.getElem?_eq_getElem hlt)
      have c0 := (cell_of_row _ _ k _ _ _ hb).trans hv1
      have HMEM : Hid (pats[k] ∈ pats) := List.getElem_mem hlt
      have HM1 := Lib.hid (rmatches_any pats[k] A1 c1 s (by omega) (HSM.out _ HMEM.out) (HPS.out.2 _ HMEM.out).2 wr hat.rats)
      have HM2 := Lib.hid (fun w1 (hb2 : Below wr.heap.size wr w1) => rmatches_any pats[k] A1 c1 (slash s) (by have := HSL.out; omega) (HSM.out _ HMEM.out) (HPS.out.2 _ HMEM.out).2 w1 (hat.below hb2).rats)
      have HTK := Lib.hid (hit_take pats s dir k hlt)
      have HHB : Hid (hitB s dir pats[k] = (mtB pats[k] (runesB s) || (dir && mtB pats[k] (runesB (slash s))))) := rfl
      have HVT : Hid (hitB s dir pats[k] = true → V = true) := fun h => by rw [HV.out, List.any_eq_true]; exact ⟨_, HMEM.out, h⟩
      generalize hitB s dir pats[k] = H at *
      generalize mtB pats[k] (runesB s) = m1 at *
      generalize mtB pats[k] (runesB (slash s)) = m2 at *
      generalize pats[k].length = n1 at *
      clear hc hat hv1 hb
      have hsz2 : ¬ 9223372036854775807 < s.size + 1 := by omega
      rw [HSE.out] at HM2
      cases m1 with
      | true =>
        have HVV : Hid (V = true) := HVT.out (by rw [HHB.out]; rfl)
        clear HHB HVT HTK HM2
        go_wp2_with fail
        refine HM1.out.mono ?_; rintro e w2 ⟨rfl, hb2⟩
        have HB2 := Lib.hid (below_thenE HB.out hb2)
        clear hb2 HM1
        go_wp2_with fail
        go_ret
        exact ⟨by rw [HVV.out]; rfl, HB2.out⟩
      | false =>
        cases dir with
        | false =>
          have HN2 : Hid ((pats.take (k + 1)).any (hitB s false) = false) := by show _ = _; rw [HTK.out, HN.out, HHB.out]; rfl
          clear HHB HVT HTK HM2
          go_wp2_with fail
          refine HM1.out.mono ?_; rintro e w2 ⟨rfl, hb2⟩
          have HB2 := Lib.hid (below_thenE HB.out hb2)
          clear hb2 HM1
          go_wp2_with fail
          go_roundw
          case rel => exact ⟨k + 1, by omega, by go_num, HN2, HB2⟩
          case measure => simp [intOf]; omega
        | true =>
          cases m2 with
          | true =>
            have HVV : Hid (V = true) := HVT.out (by rw [HHB.out]; rfl)
            clear HHB HVT HTK
            go_wp2_with fail
            refine HM1.out.mono ?_; rintro e w2 ⟨rfl, hb2⟩
            have HB2 := Lib.hid (below_thenE HB.out hb2)
            have HQ := Lib.hid (HM2.out w2 hb2)
            clear hb2 HM1 HM2
            go_wp2_with fail
            refine HQ.out.mono ?_; rintro e w3 ⟨rfl, hb3⟩
            have HB3 := Lib.hid (below_thenE HB2.out hb3)
            clear hb3 HQ
            go_wp2_with fail
            go_ret
            exact ⟨by rw [HVV.out]; rfl, HB3.out⟩
          | false =>
            have HN2 : Hid ((pats.take (k + 1)).any (hitB s true) = false) := by show _ = _; rw [HTK.out, HN.out, HHB.out]; rfl
            clear HHB HVT HTK
            go_wp2_with fail
            refine HM1.out.mono ?_; rintro e w2 ⟨rfl, hb2⟩
            have HB2 := Lib.hid (below_thenE HB.out hb2)
            have HQ := Lib.hid (HM2.out w2 hb2)
            clear hb2 HM1 HM2
            go_wp2_with fail
            refine HQ.out.mono ?_; rintro e w3 ⟨rfl, hb3⟩
            have HB3 := Lib.hid (below_thenE HB2.out hb3)
            clear hb3 HQ
            go_wp2_with fail
            go_roundw
            case rel => exact ⟨k + 1, by omega, by go_num, HN2, HB3⟩
            case measure => simp [intOf]; omega
    · obtain rfl : k = pats.length := by omega
      have hd : decide ((pats.length : Int) < (pats.length : Int)) = false := decide_eq_false (by omega)
      have HVV : Hid (V = false) := by show _ = _; rw [HV.out]; have h := HN.out; rw [List.take_length] at h; exact h
      go_wp2_with fail
      go_ret
      exact ⟨by rw [HVV.out]; rfl, HB.out⟩
/-- A filter that may be gone by. -/
def FilE (w : World) (V : Value) (ins outs : List (List Atm)) : Prop := FilD w V ins outs ∧ SmallP ins ∧ SmallP outs ∧ (∀ p ∈ ins, p.length ≤ 100000) ∧ (∀ p ∈ outs, p.length ≤ 100000)
theorem FilE.below {w w' : World} {V : Value} {ins outs : List (List Atm)} (h : FilE w V ins outs) (hb : Below w.heap.size w w') : FilE w' V ins outs := ⟨h.1.below hb, h.2⟩
set_option maxHeartbeats 8000000 in
theorem rtakes22_any (V : Value) (ins outs : List (List Atm)) (s : ByteArray) (dir : Bool) (hs : s.size ≤ 99000) (w : World) (hF : FilE w V ins outs) :
    Calls Tryz.prog 14 #[V, .string s, .bool dir] w fun e w' => e = .returned (.bool (takM ins outs s dir)) ∧ Below w.heap.size w w' := by
  obtain ⟨⟨A1, c1, A2, c2, rfl, hR1, hR2⟩, h1, h2, h3, h4⟩ := hF
  have hif := info_filD
  obtain ⟨w1, hw1⟩ : ∃ w1, w1 = w.alloc (.cells #[.slice A1 ins.length c1, .slice A2 outs.length c2] 42) := ⟨_, rfl⟩
  have hb1 : Below w.heap.size w w1 := by rw [hw1]; exact below_alG w _
  have hx1 : w1.heap[w.heap.size]? = some (.cells #[.slice A1 ins.length c1, .slice A2 outs.length c2] 42 (0, 0)) := by rw [hw1]; exact heap_alloc_new w _
  have HH1 := Lib.hid (rhits_any A1 c1 ins s dir hs h1 h3 w1 (hR1.below hb1))
  have HH2 := Lib.hid (fun w2 (hb : Below w.heap.size w w2) => rhits_any A2 c2 outs s dir hs h2 h4 w2 (hR2.below hb))
  have HB1 := Lib.hid hb1
  have HX1 := Lib.hid hx1
  have HW1 := Lib.hid hw1
  have z0 := (cell_of_row _ _ 0 _ _ _ hx1).trans (show _ = some (Value.slice A1 ins.length c1) from rfl)
  have z1 := (cell_of_row _ _ 1 _ _ _ hx1).trans (show _ = some (Value.slice A2 outs.length c2) from rfl)
  have HTM : Hid (takM ins outs s dir = ((decide (ins.length = 0) || mchM ins s dir) && !mchM outs s dir)) := rfl
  obtain ⟨V, hV⟩ : ∃ V, V = takM ins outs s dir := ⟨_, rfl⟩
  rw [← hV]
  have HV : Hid (V = ((decide (ins.length = 0) || mchM ins s dir) && !mchM outs s dir)) := hV
  generalize mchM ins s dir = m1 at *
  generalize mchM outs s dir = m2 at *
  clear hR1 hR2 h1 h2 h3 h4 hb1 hx1 hw1 HTM hV
  generalize ins.length = ni at *
  generalize outs.length = no at *
  go_enter Tryz.func14, Tryz.ntmps14
  go_upto_region 1 with fail
  rw [← HW1.out]
  clear HW1
  by_cases h0 : ni = 0
  · have HVV : Hid (V = !m2) := by show _ = _; rw [HV.out, decide_eq_true h0, Bool.true_or, Bool.true_and]
    have d0 : decide ((0 : Int) < (ni : Int)) = false := decide_eq_false (by omega)
    have p0 : ¬ 0 < ni := by omega
    have HQ := Lib.hid (HH2.out w1 HB1.out)
    clear h0 HH1 HV HH2
    go_wp2_with fail
    refine HQ.out.mono ?_; rintro e w2 ⟨rfl, hb2⟩
    have HB2 := Lib.hid (below_thenE HB1.out hb2)
    clear hb2 HQ
    go_wp2_with fail
    go_ret
    exact ⟨by rw [HVV.out]; rfl, HB2.out⟩
  · have d0 : decide ((0 : Int) < (ni : Int)) = true := decide_eq_true (by omega)
    have p0 : 0 < ni := by omega
    have HV2 : Hid (V = (m1 && !m2)) := by show _ = _; rw [HV.out, decide_eq_false h0, Bool.false_or]
    clear h0 HV
    cases m1 with
    | false =>
      have HVV : Hid (V = false) := HV2.out
      clear HV2 HH2
      go_wp2_with fail
      refine HH1.out.mono ?_; rintro e w2 ⟨rfl, hb2⟩
      have HB2 := Lib.hid (below_thenE HB1.out hb2)
      clear hb2 HH1
      go_wp2_with fail
      go_ret
      exact ⟨by rw [HVV.out]; rfl, HB2.out⟩
    | true =>
      have HVV : Hid (V = !m2) := by show _ = _; rw [HV2.out, Bool.true_and]
      clear HV2
      go_wp2_with fail
      refine HH1.out.mono ?_; rintro e w2 ⟨rfl, hb2⟩
      have HB2 := Lib.hid (below_thenE HB1.out hb2)
      have hx2 := (hb2.block _ (lt_of_block HX1.out)).trans HX1.out
      have z1 := (cell_of_row _ _ 1 _ _ _ hx2).trans (show _ = some (Value.slice A2 no c2) from rfl)
      have HQ := Lib.hid (HH2.out w2 HB2.out)
      clear hb2 HH1 HH2 hx2 z0
      go_wp2_with fail
      refine HQ.out.mono ?_; rintro e w3 ⟨rfl, hb3⟩
      have HB3 := Lib.hid (below_thenE HB2.out hb3)
      clear hb3 HQ
      go_wp2_with fail
      go_ret
      exact ⟨by rw [HVV.out]; rfl, HB3.out⟩
end Go.Proofs.YtjnoapbddifcpaaGreatDoor

namespace Go.Proofs.YtjnoapbddifcpaaGreatDoor
set_option maxRecDepth 100000
set_option linter.unusedSimpArgs false
set_option linter.unusedVariables false
open Go.RowKit Go.Joins Go.Deep
open Go.Lib hiding intOf
end Go.Proofs.YtjnoapbddifcpaaGreatDoor

namespace Go.Proofs.YtjnoapbddifcpaaGreatDoor
set_option maxRecDepth 100000
set_option linter.unusedSimpArgs false
set_option linter.unusedVariables false
open Go.RowKit Go.Joins Go.Deep
open Go.Lib hiding intOf
set_option maxHeartbeats 8000000 in
theorem takesN_any (V : Value) (ins outs : List (List Atm)) (s : ByteArray) (k : Int) (n1 n2 n3 n4 n5 n6 : Value) (hs : s.size ≤ 100000) (h1 : SmallP ins) (h2 : SmallP outs) (w : World) (hF : FilV w V ins outs) (hT : Tabs w) :
    Calls Tryz.prog 30 #[V, .string s, .agg #[.int .i64 k, n1, n2, n3, n4, n5, n6]] w fun e w' => e = .returned (.bool (takM ins outs s (k == 1))) ∧ Below w.heap.size w w' := by
  have hF0 := hF
  obtain ⟨A1, c1, A2, c2, rfl, hR1, hR2, _, _⟩ := hF
  have hif := info_fil
  have hb0 := below_alG w (.cells #[.slice A1 ins.length c1, .slice A2 outs.length c2] 36)
  have hx0 := heap_alloc_new w (.cells #[.slice A1 ins.length c1, .slice A2 outs.length c2] 36)
  have hb1 := below_then hb0 (below_alG (w.alloc (.cells #[.slice A1 ins.length c1, .slice A2 outs.length c2] 36)) (.cells #[.int .i64 k, n1, n2, n3, n4, n5, n6] 71))
  have hx1 := heap_alloc_new (w.alloc (.cells #[.slice A1 ins.length c1, .slice A2 outs.length c2] 36)) (.cells #[.int .i64 k, n1, n2, n3, n4, n5, n6] 71)
  have HB1 := Lib.hid hb1
  have HC := Lib.hid (takes_any _ ins outs s (k == 1) hs h1 h2 _ (hF0.below hb1) (hT.below hb1))
  clear hR1 hR2 hT hF0 h1 h2 hs
  go_enter Tryz.func30, Tryz.ntmps30
  go_upto_region 1 with fail
  have HF1 := Lib.hid ((below_alG (w.alloc (.cells #[.slice A1 ins.length c1, .slice A2 outs.length c2] 36)) (.cells #[.int .i64 k, n1, n2, n3, n4, n5, n6] 71)).block _ (lt_of_block hx0) |>.trans hx0)
  have z0 := (cell_of_row _ _ 0 _ _ _ hx1).trans (show _ = some (Value.int .i64 k) from rfl)
  rw [show (w.alloc (.cells #[.slice A1 ins.length c1, .slice A2 outs.length c2] 36)).heap.size = w.heap.size + 1 from by simp only [World.alloc, Array.size_push]] at z0
  clear hx1 hx0 hb0 hb1
  generalize hg : w.heap.size = g at *
  generalize (w.alloc (.cells #[.slice A1 ins.length c1, .slice A2 outs.length c2] 36)).alloc (.cells #[.int .i64 k, n1, n2, n3, n4, n5, n6] 71) = w1 at *
  go_wp2_with (refine wpList_load_row rfl 36 (.tmp 3) rfl g rfl 36 _ (0, 0) _ HF1.out Tryz.underlying36 rfl info_fil ?_)
  go_wp2_with fail
  refine HC.out.mono ?_; rintro e w2 ⟨rfl, hb2⟩
  go_wp2_with fail
  go_ret
  exact ⟨rfl, by subst hg; exact below_then HB1.out hb2⟩
end Go.Proofs.YtjnoapbddifcpaaGreatDoor

namespace Go.Proofs.YtjnoapbddifcpaaGreatDoor
set_option maxRecDepth 100000
set_option linter.unusedSimpArgs false
set_option linter.unusedVariables false
open Go.RowKit Go.Joins Go.Deep
open Go.Lib hiding intOf
theorem info_node : (Tryz.prog.info? 71).map (·.size) = some 7 := by kernel_rfl
set_option maxHeartbeats 8000000 in
theorem tree1_any (gf : Nat) (F : Array Value) (ins outs : List (List Atm)) (s : ByteArray) (k : Int) (n1 n2 n3 n4 n5 n6 : Value) (hs : s.size ≤ 100000) (h1 : SmallP ins) (h2 : SmallP outs) (w : World) (hF : FilV w (.agg F) ins outs) (hT : Tabs w) (hg : w.heap[gf]? = some (.cells F 36 (0, 0))) :
    Calls Tryz.prog 36 #[.agg #[.string s, .int .i64 k, n1, n2, n3, n4, n5, n6], .pointer (some ⟨gf, 0, none⟩)] w fun e w' => e = .returned (.bool (!takM ins outs s (k == 1))) ∧ Below w.heap.size w w' := by
  have hF2 : F.size = 2 := by obtain ⟨A1, c1, A2, c2, e, _⟩ := hF; cases e; rfl
  have hb1 := below_alG w (.cells #[.string s, .int .i64 k, n1, n2, n3, n4, n5, n6] 73)
  have hx1 := heap_alloc_new w (.cells #[.string s, .int .i64 k, n1, n2, n3, n4, n5, n6] 73)
  have HC := Lib.hid (takesN_any (.agg F) ins outs s k n1 n2 n3 n4 n5 n6 hs h1 h2 _ (hF.below hb1) (hT.below hb1))
  have HB := Lib.hid hb1
  have HG := Lib.hid ((hb1.block _ (lt_of_block hg)).trans hg)
  have HX := Lib.hid hx1
  have HF2 := Lib.hid hF2
  clear hF hT hg hb1 h1 h2 hs hF2 hx1
  go_enter Tryz.func36, Tryz.ntmps36
  go_upto_region 1 with fail
  generalize hgp : w.heap.size = gp at *
  generalize w.alloc (.cells #[.string s, .int .i64 k, n1, n2, n3, n4, n5, n6] 73) = w1 at *
  have d0 := (cell_of_row _ _ 0 _ _ _ HX.out).trans (show _ = some (.string s) from rfl)
  have HR : Hid (w1.rangeAt gp 1 [.int .i64 k, n1, n2, n3, n4, n5, n6]) := by
    intro j v hv
    rw [cell_of_row _ _ _ _ _ _ HX.out, Nat.add_comm, ← Array.getElem?_toList]
    exact hv
  go_wp2_with (first | refine wpList_load_row rfl 36 (.tmp 1) rfl gf rfl 36 _ (0, 0) _ HG.out Tryz.underlying36 rfl (by rw [HF2.out]; exact info_fil) ?_ | refine wpList_load_mid rfl 71 (.tmp 7) rfl gp 1 rfl _ _ HR.out Tryz.underlying71 rfl info_node ?_)
  go_wp2_with fail
  refine HC.out.mono ?_; rintro e w2 ⟨rfl, hb2⟩
  have HB2 := Lib.hid (below_then (by rw [hgp]; exact HB.out : Below w.heap.size w w1) hb2)
  clear hb2
  go_wp2_with fail
  go_ret
  exact ⟨rfl, HB2.out⟩
end Go.Proofs.YtjnoapbddifcpaaGreatDoor

namespace Go.Proofs.YtjnoapbddifcpaaGreatDoor
set_option maxRecDepth 100000
set_option linter.unusedSimpArgs false
set_option linter.unusedVariables false
open Go.RowKit Go.Joins Go.Deep
open Go.Lib hiding intOf
set_option maxHeartbeats 8000000 in
theorem indexI_any (I : World → Prop) (hI : ∀ w1 w2, I w1 → Below w1.heap.size w1 w2 → I w2) (p : Itm → Bool) (l : List Itm) (A : Option Addr) (c g : Nat) (w : World) (hl : l.length ≤ 1000000)
    (hP : ∀ x ∈ l, ∀ w1, I w1 → Calls Tryz.prog 36 #[.agg x.cells, .pointer (some ⟨g, 0, none⟩)] w1 fun e w' => e = .returned (.bool (p x)) ∧ Below w1.heap.size w1 w') (hw : I w) (hR : Itms w A l) :
    Calls Tryz.prog 60 #[.slice A l.length c, .func (.func 36) #[] #[.pointer (some ⟨g, 0, none⟩)]] w
      fun e w' => Below w.heap.size w w' ∧ ((e = .returned (.int .i64 (-1)) ∧ l.any p = false) ∨ ∃ (k : Nat) (h : k < l.length), e = .returned (.int .i64 k) ∧ p l[k] = true ∧ (l.take k).any p = false) := by
  have hir := info_item
  have HP := Lib.hid hP
  have HI := Lib.hid hI
  have HW := Lib.hid hw
  have HR := Lib.hid hR
  clear hP hI hw hR
  go_enter Tryz.func60, Tryz.ntmps60
  go_wp2_with fail
  go_loopw [5, 8] (fun _ i wr => ∃ k : Nat, k ≤ l.length ∧ i = .int .i64 (k : Nat) ∧ Hid ((l.take k).any p = false) ∧ Hid (Below w.heap.size w wr)) (fun _ i _ => l.length - (intOf i).toNat)
  case atStart => exact ⟨0, Nat.zero_le _, rfl, by show List.any [] _ = _; rfl, Below.refl _ _⟩
  case round =>
    obtain ⟨k, hk, rfl, HF, HB⟩ := hrel
    by_cases hlt : k < l.length
    · obtain ⟨b, off, rfl, hb, hcc⟩ := (HR.out.below HB.out) (by omega)
      obtain ⟨c0, c1, c2, c3, c4, c5, c6, c7⟩ := hcc k l[k] (List.getElem?_eq_getElem hlt)
      have HQ := Lib.hid (any_takeG l p k hlt)
      have HCL := Lib.hid (HP.out l[k] (List.getElem_mem hlt) wr (HI.out _ _ HW.out HB.out))
      have HE : Hid (p l[k] = p l[k]) := rfl
      generalize hp : p l[k] = pv at *
      have HPV := Lib.hid hp
      simp only [Itm.cells] at HCL
      generalize l[k] = x at c0 c1 c2 c3 c4 c5 c6 c7 HCL
      clear hcc hp
      obtain ⟨x0, x1, x2, x3, x4, x5, x6, x7⟩ := x
      dsimp only at c0 c1 c2 c3 c4 c5 c6 c7 HCL
      go_wp2_with fail
      refine HCL.out.mono ?_; rintro e w5 ⟨rfl, hb5⟩
      have HB5 := Lib.hid (below_then HB.out hb5)
      clear hb5
      cases pv with
      | true =>
        go_wp2_with fail
        go_ret
        exact ⟨HB5.out, .inr ⟨k, hlt, rfl, HPV.out, HF.out⟩⟩
      | false =>
        go_wp2_with fail
        go_roundw
        case rel => exact ⟨k + 1, by omega, by go_num, by show _ = _; rw [HQ.out, HF.out]; rfl, HB5⟩
        case measure => simp [intOf]; omega
    · obtain rfl : k = l.length := by omega
      go_wp2_with fail
      go_ret
      refine ⟨HB.out, .inl ⟨rfl, ?_⟩⟩
      have h := HF.out
      rw [List.take_length] at h
      exact h
end Go.Proofs.YtjnoapbddifcpaaGreatDoor
