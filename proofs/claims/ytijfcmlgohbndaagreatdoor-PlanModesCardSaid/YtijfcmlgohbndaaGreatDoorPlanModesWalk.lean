/-
  The walk of PlanModes.
-/
import Derived.Test.YtijfcmlgohbndaaGreatDoorPkCH
import Derived.Test.YtijfcmlgohbndaaGreatDoorPkCG
import Derived.Test.YtijfcmlgohbndaaGreatDoorEnR
namespace Go.Proofs.YtijfcmlgohbndaaGreatDoor
set_option maxRecDepth 100000
set_option linter.unusedSimpArgs false
set_option linter.unusedVariables false
open Go.RowKit Go.Joins Go.Deep
open Go.Lib hiding intOf
set_option maxHeartbeats 32000000 in
theorem planModes_core (a0 : Int) (w0 : (Lit.int .u8 a0).wf = true) (A AT A1 A2 : Option Addr) (c cT c1 c2 : Nat) (l : List Ent) (t : List Itm) (ssi sso : List ByteArray) (hW : ∀ E ∈ l, EntW E) (hn0 : l.length ≤ maxLen) (hn1 : t.length ≤ maxLen) (hn2 : ssi.length ≤ maxLen) (hn3 : sso.length ≤ maxLen) (w : World) (hR : Ents w A l) (hT : Itms w AT t) (hT1 : TxS w A1 ssi) (hT2 : TxS w A2 sso) (hE : Env w) (hU : Upper w) :
    Calls Tryz.prog 3 #[.int .u8 a0, .slice A l.length c, .slice AT t.length cT, .slice A1 ssi.length c1, .slice A2 sso.length c2] w fun e w' => e = .returned (.bool true) ∧ Below w.heap.size w w' := by
  unfold maxLen at hn0 hn1 hn2 hn3
  have hif := info_fil
  have HAW := Lib.hid (awake24_any w)
  have HR := Lib.hid (fun w1 (hb : Below w.heap.size w w1) => hR.below hb)
  have HT := Lib.hid (fun w1 (hb : Below w.heap.size w w1) => hT.below hb)
  have HT1 := Lib.hid (fun w1 (hb : Below w.heap.size w w1) => hT1.below hb)
  have HT2 := Lib.hid (fun w1 (hb : Below w.heap.size w w1) => hT2.below hb)
  have HTB := Lib.hid (fun w1 (hb : Below w.heap.size w w1) => And.intro (hU.below hb) (hE.below hb))
  have HWE := Lib.hid hW
  clear hR hT hT1 hT2 hE hU hW
  go_enter Tryz.func3, Tryz.ntmps3
  go_wp2_with fail
  refine HAW.out.mono ?_; rintro e w1 ⟨rfl, hb1⟩
  have HB1 := Lib.hid hb1
  clear hb1 HAW
  obtain ⟨B1, hB1⟩ : ∃ B1, B1 = decide (FewE l) := ⟨_, rfl⟩
  obtain ⟨B2, hB2⟩ : ∃ B2, B2 = decide (FewP t) := ⟨_, rfl⟩
  obtain ⟨B3, hB3⟩ : ∃ B3, B3 = decide (LitP ssi) := ⟨_, rfl⟩
  obtain ⟨B4, hB4⟩ : ∃ B4, B4 = decide (LitP sso) := ⟨_, rfl⟩
  have HL1 := Lib.hid (fewE_any A c l w1 (HR.out w1 HB1.out) (by omega) HWE.out)
  rw [← hB1] at HL1
  have HB1e := Lib.hid hB1
  have HB2e := Lib.hid hB2
  have HB3e := Lib.hid hB3
  have HB4e := Lib.hid hB4
  clear hB1 hB2 hB3 hB4
  go_wp2_with fail
  refine HL1.out.mono ?_; rintro e w2 ⟨rfl, hb2⟩
  have HB2 := Lib.hid (below_thenE HB1.out hb2)
  have HL2 := Lib.hid (fewI_any AT cT t w2 (HT.out w2 HB2.out) (by omega))
  rw [← HB2e.out] at HL2
  clear hb2 HL1 HB1
  cases B1 with
  | false =>
    go_wp2_with fail
    go_ret
    exact ⟨rfl, HB2.out⟩
  | true =>
    go_wp2_with fail
    refine HL2.out.mono ?_; rintro e w3 ⟨rfl, hb3⟩
    have HB3 := Lib.hid (below_thenE HB2.out hb3)
    have HL3 := Lib.hid (light_any A1 c1 ssi (by omega) w3 (HT1.out w3 HB3.out))
    rw [← HB3e.out] at HL3
    clear hb3 HL2 HB2
    cases B2 with
    | false =>
      go_wp2_with fail
      go_ret
      exact ⟨rfl, HB3.out⟩
    | true =>
      go_wp2_with fail
      refine HL3.out.mono ?_; rintro e w4 ⟨rfl, hb4⟩
      have HB4 := Lib.hid (below_thenE HB3.out hb4)
      have HL4 := Lib.hid (light_any A2 c2 sso (by omega) w4 (HT2.out w4 HB4.out))
      rw [← HB4e.out] at HL4
      clear hb4 HL3 HB3
      cases B3 with
      | false =>
        go_wp2_with fail
        go_ret
        exact ⟨rfl, HB4.out⟩
      | true =>
        go_wp2_with fail
        refine HL4.out.mono ?_; rintro e w5 ⟨rfl, hb5⟩
        have HB5 := Lib.hid (below_thenE HB4.out hb5)
        clear hb5 HL4 HB4
        cases B4 with
        | false =>
          go_wp2_with fail
          go_ret
          exact ⟨rfl, HB5.out⟩
        | true =>
          have hfe : FewE l := of_decide_eq_true HB1e.out.symm
          have hfp : FewP t := of_decide_eq_true HB2e.out.symm
          have hp1 : LitP ssi := of_decide_eq_true HB3e.out.symm
          have hp2 : LitP sso := of_decide_eq_true HB4e.out.symm
          have hl30 : l.length ≤ 30 := by
            cases l with
            | nil => exact Nat.zero_le _
            | cons E l => exact (hfe E (by simp)).1
          have ht60 : t.length ≤ 60 := by
            cases t with
            | nil => exact Nat.zero_le _
            | cons x t => exact (hfp x (by simp)).1
          have HLL : Hid (LightL l) := fun E hE => ⟨entOk_of (hfe E hE).2 (HWE.out E hE), by have := (hfe E hE).2.1; omega⟩
          have HSS : Hid (∀ x ∈ t, x.s.size ≤ 100000 ∧ x.d.size ≤ 100000) := fun x hx => by have := hfp x hx; omega
          have HMK := Lib.hid (fmakeAll_any A1 A2 c1 c2 ssi sso hp1 hp2 w5 (HT1.out w5 HB5.out) (HT2.out w5 HB5.out) (HTB.out w5 HB5.out).2.1)
          clear HB1e HB2e HB3e HB4e hfe hfp hp1 hp2 HT1 HT2 HWE
          go_wp2_with fail
          refine HMK.out.mono ?_; rintro e w6 ⟨FA, n1, fa, FB, n2, fb, ins, outs, z, rfl, hF, hb6⟩
          clear HMK
          obtain ⟨w7, hw7⟩ : ∃ w7, w7 = w6.alloc (.cells #[.slice FA n1 fa, .slice FB n2 fb] 31) := ⟨_, rfl⟩
          have hb7 : Below w6.heap.size w6 w7 := by rw [hw7]; exact below_alP w6 _
          have HX7 : Hid (w7.heap[w6.heap.size]? = some (.cells #[.slice FA n1 fa, .slice FB n2 fb] 31 (0, 0))) := by show _ = _; rw [hw7]; exact heap_alloc_new w6 _
          have HF7 := Lib.hid (hF.below hb7)
          have HB7 := Lib.hid (below_thenE (below_thenE HB5.out hb6) hb7)
          have HW7 := Lib.hid hw7
          clear hF hb6 hb7 hw7 HB5
          go_upto_region 7 with fail
          rw [← HW7.out]
          obtain ⟨M, hM⟩ : ∃ M, M = wrap64 (1 + wrap64 (a0.tmod 4)) := ⟨_, rfl⟩
          rw [← hM]
          have HMB : Hid (1 ≤ M ∧ M ≤ 4) := by
            show _ ∧ _
            have b0 : IntKind.u8.min ≤ a0 ∧ a0 ≤ IntKind.u8.max := by simpa [Lit.wf] using w0
            rw [show IntKind.u8.min = 0 by decide, show IntKind.u8.max = 255 by decide] at b0
            have h1 : a0.tmod 4 = a0 % 4 := Int.tmod_eq_emod_of_nonneg b0.1
            have h2 : 0 ≤ a0 % 4 ∧ a0 % 4 ≤ 3 := by omega
            rw [hM, h1, IntWalk.wrap64_in (a0 % 4) (by omega), IntWalk.wrap64_in _ (by omega)]
            omega
          clear hM w0
          clear HW7
          generalize w6.heap.size = gf at *
          have HMP := Lib.hid (planMake_any M HMB.out.1 HMB.out.2 A AT c cT l t _ ins outs w7 (HR.out w7 HB7.out) (HT.out w7 HB7.out) (by omega) (by omega) HSS.out HLL.out (HTB.out w7 HB7.out).1 (HTB.out w7 HB7.out).2 HF7.out)
          clear HF7 HSS HLL
          go_wp2_with (refine wpList_load_row rfl 31 (.tmp 11) rfl gf rfl 31 _ (0, 0) _ HX7.out Tryz.underlying31 rfl info_fil ?_)
          refine HMP.out.mono ?_; rintro e w8 hout
          clear HMP HX7
          rcases hout with ⟨y, hy, rfl, hb8⟩ | ⟨v, rfl, hr8, hb8⟩
          · have HB8 := Lib.hid (below_thenE HB7.out hb8)
            have by' : (y != 0) = true := bne_iff_ne.2 hy
            clear hb8
            by_cases hz : z = 0
            · subst hz
              go_wp2_with fail
              go_ret
              exact ⟨rfl, HB8.out⟩
            · have bz : (z != 0) = true := bne_iff_ne.2 hz
              go_wp2_with fail
              go_ret
              exact ⟨rfl, HB8.out⟩
          have HB8 := Lib.hid (below_thenE HB7.out hb8)
          have hlw := act_law M ins outs t l
          have HAL : Hid ((actL M ins outs t l).length ≤ 1000) := Nat.le_trans (actL_len _ _ _ _ _) (by omega)
          generalize actL M ins outs t l = AL at *
          obtain ⟨Av, cv, rfl⟩ : ∃ Av cv, v = .slice Av AL.length cv := by
            rcases rowQ_forms hr8 with ⟨h, h0⟩ | ⟨g, cap, h, _⟩
            · exact ⟨none, 0, by rw [h, h0]; rfl⟩
            · exact ⟨_, _, h⟩
          have hac := acts_of_own hr8
          have HAC := Lib.hid (fun w9 (hb : Below w8.heap.size w8 w9) => hac.below hb)
          have HCN := Lib.hid (count24_any Av cv AL w8 HAL.out hac)
          have HLW := Lib.hid hlw
          clear hb8 hr8 hac hlw
          by_cases hz : z = 0
          case neg =>
            have bz : (z != 0) = true := bne_iff_ne.2 hz
            by_cases hA0 : AL.length = 0
            · have b0 : (((AL.length : Nat) : Int) == 0) = true := by rw [beq_iff_eq]; omega
              clear HCN HAC
              go_wp2_with fail
              go_ret
              exact ⟨rfl, HB8.out⟩
            · have b0 : (((AL.length : Nat) : Int) == 0) = false := by rw [beq_eq_false_iff_ne]; omega
              clear HCN HAC
              go_wp2_with fail
              go_ret
              exact ⟨rfl, HB8.out⟩
          subst hz
          go_wp2_with fail
          refine HCN.out.mono ?_; rintro e w9 ⟨rfl, hb9⟩
          clear HCN
          obtain ⟨C1, hC1⟩ : ∃ C : Int, C = (cntK AL 1 : Nat) := ⟨_, rfl⟩
          obtain ⟨C2, hC2⟩ : ∃ C : Int, C = (cntK AL 2 : Nat) := ⟨_, rfl⟩
          obtain ⟨C3, hC3⟩ : ∃ C : Int, C = (cntK AL 3 : Nat) := ⟨_, rfl⟩
          obtain ⟨C4, hC4⟩ : ∃ C : Int, C = (cntK AL 4 : Nat) := ⟨_, rfl⟩
          have hcv : cntV AL = #[.int .i64 0, .int .i64 C1, .int .i64 C2, .int .i64 C3, .int .i64 C4] := by rw [hC1, hC2, hC3, hC4]; rfl
          rw [hcv]
          have HC2 := Lib.hid hC2
          have HC3 := Lib.hid hC3
          have HC4 := Lib.hid hC4
          obtain ⟨wa, hwa⟩ : ∃ wa, wa = w9.alloc (.cells #[.int .i64 0, .int .i64 C1, .int .i64 C2, .int .i64 C3, .int .i64 C4] 38) := ⟨_, rfl⟩
          have hba : Below w9.heap.size w9 wa := by rw [hwa]; exact below_alP w9 _
          have hxa : wa.heap[w9.heap.size]? = some (.cells #[.int .i64 0, .int .i64 C1, .int .i64 C2, .int .i64 C3, .int .i64 C4] 38 (0, 0)) := by rw [hwa]; exact heap_alloc_new w9 _
          have HXA := Lib.hid hxa
          have HBA := Lib.hid (below_thenE (below_thenE HB8.out hb9) hba)
          have HA9 := Lib.hid (fun wb (hb : Below wa.heap.size wa wb) => HAC.out wb (below_thenE (below_thenE hb9 hba) hb))
          have k2 := (cell_of_row _ _ 2 _ _ _ hxa).trans (show _ = some (Value.int .i64 C2) from rfl)
          have k3 := (cell_of_row _ _ 3 _ _ _ hxa).trans (show _ = some (Value.int .i64 C3) from rfl)
          have k4 := (cell_of_row _ _ 4 _ _ _ hxa).trans (show _ = some (Value.int .i64 C4) from rfl)
          have HWA := Lib.hid hwa
          clear hcv hC1 hC2 hC3 hC4 hb9 hba hxa hwa HAC
          go_upto_region 11 with fail
          rw [← HWA.out]
          clear HWA
          generalize w9.heap.size = gc at *
          go_cut [102] from 70 to 101 (fun v wx => v = .bool false ∧ wx = wa)
          case first =>
            have hmm : M = 1 ∨ M = 2 ∨ M = 3 ∨ M = 4 := by have := HMB.out; omega
            clear HMB
            rcases hmm with rfl | rfl | rfl | rfl
            · clear HLW HC2 HC3 HC4
              go_wp2_with fail
              go_meet
              exact ⟨rfl, rfl⟩
            · have h3 := HLW.out.m2 rfl
              obtain rfl : C3 = 0 := by rw [HC3.out, h3]; rfl
              clear HLW HC2 HC3 HC4
              go_wp2_with fail
              go_meet
              exact ⟨rfl, rfl⟩
            · have h34 := HLW.out.m3 rfl
              obtain rfl : C3 = 0 := by rw [HC3.out, h34.2]; rfl
              obtain rfl : C4 = 0 := by rw [HC4.out, h34.1]; rfl
              clear HLW HC2 HC3 HC4 h34
              go_wp2_with fail
              go_meet
              exact ⟨rfl, rfl⟩
            · have h24 := HLW.out.m4 rfl
              obtain rfl : C2 = 0 := by rw [HC2.out, h24.2]; rfl
              obtain rfl : C4 = 0 := by rw [HC4.out, h24.1]; rfl
              clear HLW HC2 HC3 HC4 h24
              go_wp2_with fail
              go_meet
              exact ⟨rfl, rfl⟩
          case rest =>
            obtain ⟨rfl, hwc⟩ := hcut
            have hwc := hwc.symm
            subst hwc
            have HSUM : Hid (wrap64 (((l.length : Nat) : Int) + C4) = ((AL.length : Nat) : Int)) := by
              show _ = _
              have h1 := HLW.out.len
              have h2 := HAL.out
              rw [HC4.out, IntWalk.wrap64_in _ (by omega)]
              omega
            clear HMB HC2 HC3 HC4 k2 k3
            have hal62 : ((AL.length : Nat) : Int) < 9223372036854775807 := by have := HAL.out; omega
            go_wp2_with fail
            go_loopw [105] (fun v105 wr => ∃ (k : Nat), k ≤ AL.length ∧ v105 = .int .i64 (k : Nat) ∧ Hid (Below wa.heap.size wa wr)) (fun v _ => AL.length - (intOf v).toNat)
            case atStart => exact ⟨0, Nat.zero_le _, rfl, Below.refl _ _⟩
            case round =>
              obtain ⟨k, hk, rfl, HB⟩ := hrel
              by_cases hkn : k < AL.length
              · have hd : decide ((k : Int) < (AL.length : Int)) = true := decide_eq_true (by omega)
                obtain ⟨b, off, rfl, hb, hcc⟩ := (HA9.out wr HB.out) (by omega)
                obtain ⟨q0, q1, q2⟩ := hcc k AL[k] (List.getElem?_eq_getElem hkn)
                have hlo := HLW.out.low k AL[k] (List.getElem?_eq_getElem hkn)
                have hhi := HLW.out.high k AL[k] (List.getElem?_eq_getElem hkn)
                have hk62 : (k : Int) + 1 < 9223372036854775807 := by omega
                clear hcc
                generalize AL[k] = x at *
                obtain ⟨xk, xe, xi⟩ := x
                dsimp only at q0 q1 q2 hlo hhi
                by_cases hkl : k < l.length
                · obtain ⟨he, h4, hi⟩ := hlo hkl
                  subst he
                  have dlt : decide ((k : Int) < (l.length : Int)) = true := decide_eq_true (by omega)
                  have dge : decide ((l.length : Int) ≤ (k : Int)) = false := decide_eq_false (by omega)
                  have hge : ¬ l.length ≤ k := by omega
                  have e4 : (xk == 4) = false := beq_eq_false_iff_ne.2 h4
                  by_cases h2 : xk = 2
                  · have d0 : decide (0 ≤ xi) = true := decide_eq_true (hi.2 h2)
                    subst h2
                    have HB5 : Hid (Below wa.heap.size wa (wr.alloc (.cells #[.int .i64 2, .int .i64 (k : Nat), .int .i64 xi] 41))) := HB.out.trans ((below_alP wr _).mono HB.out.size)
                    have hna := heap_alloc_new wr (.cells #[.int .i64 2, .int .i64 (k : Nat), .int .i64 xi] 41)
                    have y0 := (cell_of_row _ _ 0 _ _ _ hna).trans (show _ = some (Value.int .i64 2) from rfl)
                    have y1 := (cell_of_row _ _ 1 _ _ _ hna).trans (show _ = some (Value.int .i64 (k : Nat)) from rfl)
                    have y2 := (cell_of_row _ _ 2 _ _ _ hna).trans (show _ = some (Value.int .i64 xi) from rfl)
                    clear hna hlo hhi hi h4 e4 HLW HSUM HB
                    go_wp2_with fail
                    go_roundw
                    case rel => exact ⟨k + 1, by omega, by go_num, HB5⟩
                    case measure => simp [intOf]; omega
                  · have e2 : (xk == 2) = false := beq_eq_false_iff_ne.2 h2
                    have d0 : decide (0 ≤ xi) = false := decide_eq_false (fun h => h2 (hi.1 h))
                    have HB5 : Hid (Below wa.heap.size wa (wr.alloc (.cells #[.int .i64 xk, .int .i64 (k : Nat), .int .i64 xi] 41))) := HB.out.trans ((below_alP wr _).mono HB.out.size)
                    have hna := heap_alloc_new wr (.cells #[.int .i64 xk, .int .i64 (k : Nat), .int .i64 xi] 41)
                    have y0 := (cell_of_row _ _ 0 _ _ _ hna).trans (show _ = some (Value.int .i64 xk) from rfl)
                    have y1 := (cell_of_row _ _ 1 _ _ _ hna).trans (show _ = some (Value.int .i64 (k : Nat)) from rfl)
                    have y2 := (cell_of_row _ _ 2 _ _ _ hna).trans (show _ = some (Value.int .i64 xi) from rfl)
                    clear hna hlo hhi hi HLW HSUM HB
                    go_wp2_with fail
                    go_roundw
                    case rel => exact ⟨k + 1, by omega, by go_num, HB5⟩
                    case measure => simp [intOf]; omega
                · obtain ⟨he, h4, hi⟩ := hhi (by omega)
                  subst he h4
                  have dlt : decide ((k : Int) < (l.length : Int)) = false := decide_eq_false (by omega)
                  have dge : decide ((l.length : Int) ≤ (k : Int)) = true := decide_eq_true (by omega)
                  have hge : l.length ≤ k := by omega
                  have d0 : decide (0 ≤ xi) = true := decide_eq_true hi
                  have HB5 : Hid (Below wa.heap.size wa (wr.alloc (.cells #[.int .i64 4, .int .i64 (-1), .int .i64 xi] 41))) := HB.out.trans ((below_alP wr _).mono HB.out.size)
                  have hna := heap_alloc_new wr (.cells #[.int .i64 4, .int .i64 (-1), .int .i64 xi] 41)
                  have y0 := (cell_of_row _ _ 0 _ _ _ hna).trans (show _ = some (Value.int .i64 4) from rfl)
                  have y1 := (cell_of_row _ _ 1 _ _ _ hna).trans (show _ = some (Value.int .i64 (-1)) from rfl)
                  have y2 := (cell_of_row _ _ 2 _ _ _ hna).trans (show _ = some (Value.int .i64 xi) from rfl)
                  clear hna hlo hhi HLW HSUM HB
                  go_wp2_with fail
                  go_roundw
                  case rel => exact ⟨k + 1, by omega, by go_num, HB5⟩
                  case measure => simp [intOf]; omega
              · obtain rfl : k = AL.length := by omega
                have hd : decide ((AL.length : Int) < (AL.length : Int)) = false := decide_eq_false (by omega)
                have k4b := (HB.out.cell (p := ⟨gc, 4, none⟩) (lt_of_heapP HXA.out)).trans k4
                have HBE := Lib.hid (below_thenE HBA.out HB.out)
                have hsum := HSUM.out
                clear k4
                go_wp2_with fail
                go_ret
                exact ⟨by simp, HBE.out⟩
end Go.Proofs.YtijfcmlgohbndaaGreatDoor
