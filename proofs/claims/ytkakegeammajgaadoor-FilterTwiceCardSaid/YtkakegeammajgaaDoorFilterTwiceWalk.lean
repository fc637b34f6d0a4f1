/-
  The walk of FilterTwice.
-/
import Derived.Test.YtkakegeammajgaaDoorFiM
import Derived.Test.YtkakegeammajgaaDoorFiH
import Derived.Test.YtkakegeammajgaaDoorItB
import Derived.Test.YtkakegeammajgaaDoorFilterMoreWalk
namespace Go.Proofs.YtkakegeammajgaaDoor
set_option maxRecDepth 100000
set_option linter.unusedSimpArgs false
set_option linter.unusedVariables false
open Go.RowKit Go.Joins Go.Deep
open Go.Lib hiding intOf
set_option maxHeartbeats 16000000 in
theorem filterTwice_core (A1 A2 A3 : Option Addr) (c1 c2 c3 : Nat) (ssi sso : List ByteArray) (l : List Itm) (hn1 : ssi.length ≤ maxLen) (hn2 : sso.length ≤ maxLen) (hn3 : l.length ≤ maxLen) (w : World) (hT1 : TxS w A1 ssi) (hT2 : TxS w A2 sso) (hR : Itms w A3 l) (hT : Tabs w) :
    Calls Tryd.prog 3 #[.slice A1 ssi.length c1, .slice A2 sso.length c2, .slice A3 l.length c3] w fun e w' => e = .returned (.bool true) ∧ Below w.heap.size w w' := by
  unfold maxLen at hn1 hn2 hn3
  have hif := info_fil
  have hir := info_item
  have HAW := Lib.hid (awake22_any w hT)
  have HT1 := Lib.hid hT1
  have HT2 := Lib.hid hT2
  have HR := Lib.hid hR
  have HT := Lib.hid hT
  clear hT1 hT2 hT hR
  go_enter Tryd.func3, Tryd.ntmps3
  go_wp2_with fail
  refine HAW.out.mono ?_; rintro e w1 ⟨rfl, hb1⟩
  have HB1 := Lib.hid hb1
  have HL1 := Lib.hid (light_any A1 c1 ssi (by omega) w1 (HT1.out.below hb1))
  clear hb1 HAW
  obtain ⟨B1, hB1⟩ : ∃ B1, B1 = decide (LitP ssi) := ⟨_, rfl⟩
  obtain ⟨B2, hB2⟩ : ∃ B2, B2 = decide (LitP sso) := ⟨_, rfl⟩
  obtain ⟨B3, hB3⟩ : ∃ B3, B3 = decide (FewP l) := ⟨_, rfl⟩
  rw [← hB1] at HL1
  have HB1e := Lib.hid hB1
  have HB2e := Lib.hid hB2
  have HB3e := Lib.hid hB3
  clear hB1 hB2 hB3
  go_wp2_with fail
  refine HL1.out.mono ?_; rintro e w2 ⟨rfl, hb2⟩
  have HB2 := Lib.hid (below_then HB1.out hb2)
  have HL2 := Lib.hid (light_any A2 c2 sso (by omega) w2 (HT2.out.below HB2.out))
  rw [← HB2e.out] at HL2
  clear hb2 HL1 HB1
  cases B1 with
  | false =>
    go_wp2_with fail
    go_ret
    exact ⟨rfl, HB2.out⟩
  | true =>
    go_wp2_with fail
    refine HL2.out.mono ?_; rintro e w3 ⟨rfl, hb3⟩
    have HB3 := Lib.hid (below_then HB2.out hb3)
    have HL3 := Lib.hid (fewI_any A3 c3 l w3 (HR.out.below HB3.out) (by omega))
    rw [← HB3e.out] at HL3
    clear hb3 HL2 HB2
    cases B2 with
    | false =>
      go_wp2_with fail
      go_ret
      exact ⟨rfl, HB3.out⟩
    | true =>
      go_wp2_with fail
      refine HL3.out.mono ?_; rintro e w4 ⟨rfl, hb4⟩
      have HB4 := Lib.hid (below_then HB3.out hb4)
      clear hb4 HL3 HB3
      cases B3 with
      | false =>
        go_wp2_with fail
        go_ret
        exact ⟨rfl, HB4.out⟩
      | true =>
        have hp1 : LitP ssi := of_decide_eq_true HB1e.out.symm
        have hp2 : LitP sso := of_decide_eq_true HB2e.out.symm
        have hp3 : FewP l := of_decide_eq_true HB3e.out.symm
        have HP1 := Lib.hid hp1
        have HP2 := Lib.hid hp2
        have HL6 : Hid (l.length ≤ 60 ∧ ∀ x ∈ l, x.s.size ≤ 1000) := by
          refine ⟨?_, fun x hx => (hp3 x hx).2.1⟩
          cases l with
          | nil => exact Nat.zero_le _
          | cons x l => exact (hp3 x (by simp)).1
        clear hp1 hp2 hp3 HB1e HB2e HB3e
        by_cases hmany : 100 < ssi.length ∨ 100 < sso.length
        · have HM := Lib.hid (make_many A1 A2 c1 c2 ssi.length sso.length hmany w4)
          go_wp2_with fail
          refine HM.out.mono ?_; rintro e w5 ⟨rfl, hb5⟩
          have HB5 := Lib.hid (below_then (below_then HB4.out hb5) (below_al w5 (.cells #[.slice none 0 0, .slice none 0 0] 29)))
          clear hb5 HM
          go_wp2_with fail
          go_ret
          exact ⟨rfl, HB5.out⟩
        have HS1 : Hid (∀ s ∈ ssi, s.size ≤ 1000) := fun s hs => by
          rcases HP1.out with h | ⟨_, h⟩
          · obtain rfl : ssi = [] := List.eq_nil_of_length_eq_zero h
            cases hs
          · have := h s hs; omega
        have HS2 : Hid (∀ s ∈ sso, s.size ≤ 1000) := fun s hs => by
          rcases HP2.out with h | ⟨_, h⟩
          · obtain rfl : sso = [] := List.eq_nil_of_length_eq_zero h
            cases hs
          · have := h s hs; omega
        have HN1 : Hid (ssi.length ≤ 100) := by show _ ≤ _; omega
        have HN2 : Hid (sso.length ≤ 100) := by show _ ≤ _; omega
        have HM := Lib.hid (make_any A1 A2 c1 c2 ssi sso (by omega) (by omega) (fun s hs => by have := HS1.out s hs; omega) (fun s hs => by have := HS2.out s hs; omega) w4 (HT1.out.below HB4.out) (HT2.out.below HB4.out))
        clear hmany HP1 HP2
        go_wp2_with fail
        refine HM.out.mono ?_; rintro e w5 hout
        clear HM
        rcases hout with ⟨_, rfl, hb5⟩ | ⟨ins, outs, A5, c5, A6, c6, g1, g2, rfl, hF, hb5⟩
        · have HB5 := Lib.hid (below_then (below_then HB4.out hb5) (below_al w5 (.cells #[.slice none 0 0, .slice none 0 0] 29)))
          clear hb5
          go_wp2_with fail
          go_ret
          exact ⟨rfl, HB5.out⟩
        have HSI : Hid (SmallP ins) := small_pats g1 (by have := HN1.out; omega) HS1.out
        have HSO : Hid (SmallP outs) := small_pats g2 (by have := HN2.out; omega) HS2.out
        have hb6 := below_al w5 (.cells #[.slice A5 ins.length c5, .slice A6 outs.length c6] 29)
        have HF := Lib.hid (filB_new hF)
        have HB6 := Lib.hid (below_then (below_then HB4.out hb5) hb6)
        clear hb5 hb6 hF g1 g2 HN1 HN2 HS1 HS2
        go_upto_region 8 with fail
        generalize w5.heap.size = f1 at *
        generalize w5.alloc (.cells #[.slice A5 ins.length c5, .slice A6 outs.length c6] 29) = w6 at *
        have HR6 := Lib.hid (HR.out.below HB6.out)
        have HTR := Lib.hid (ftree_any #[.slice A5 ins.length c5, .slice A6 outs.length c6] ins outs A3 c3 l (by have := HL6.out.1; omega) (fun x hx => by have := HL6.out.2 x hx; omega) HSI.out HSO.out w6 HF.out.2 (HT.out.below HB6.out) HR6.out)
        go_wp2_with (refine wpList_load_row rfl 29 (.tmp 7) rfl f1 rfl 29 _ (0, 0) _ HF.out.1 Tryd.underlying29 rfl info_fil ?_)
        refine HTR.out.mono ?_; rintro e w7 ⟨A7, c7, rfl, hI7, hb7⟩
        have HB7 := Lib.hid (below_then HB6.out hb7)
        have HF7 := Lib.hid (HF.out.below hb7)
        have HI7 := Lib.hid hI7
        have HUL : Hid ((keepI ins outs l).length ≤ l.length) := keepI_len ins outs l
        have HUM : Hid (∀ x ∈ keepI ins outs l, x.s.size ≤ 1000 ∧ takM ins outs x.s (x.k == 1) = true) := fun x hx => ⟨HL6.out.2 x (keepI_mem hx).1, (keepI_mem hx).2⟩
        have HUT : Hid (keepI ins outs (keepI ins outs l) = keepI ins outs l) := keepI_twice ins outs l
        have HL60 : Hid (l.length ≤ 60) := HL6.out.1
        generalize keepI ins outs l = u at *
        clear hI7 hb7 HTR HF HR6 HR HT1 HT2 HL6
        have hu60 : u.length ≤ 60 := Nat.le_trans HUL.out HL60.out
        go_wp2_with fail
        go_loopw [11, 40] (fun _ v40 wr => ∃ k : Nat, k ≤ u.length ∧ v40 = .int .i64 (k : Nat) ∧ Hid (Below w7.heap.size w7 wr)) (fun _ v _ => u.length - (intOf v).toNat)
        case atStart => exact ⟨0, Nat.zero_le _, rfl, Below.refl _ _⟩
        case round =>
          obtain ⟨k, hk, rfl, HB⟩ := hrel
          by_cases hlt : k < u.length
          · have hd : decide ((k : Int) < (u.length : Int)) = true := decide_eq_true (by omega)
            obtain ⟨b, off, rfl, hb, hcc⟩ := (HI7.out.below HB.out) (by omega)
            obtain ⟨d0, d1, d2, d3, d4, d5, d6, d7⟩ := hcc k u[k] (List.getElem?_eq_getElem hlt)
            have hmem := HUM.out u[k] (List.getElem_mem hlt)
            have HBX := Lib.hid (HB.out.alloc HB.out.size (.cells u[k].cells 38))
            have hx0 := heap_alloc_new wr (.cells u[k].cells 38)
            have HTK := Lib.hid (takes_any (.agg #[.slice A5 ins.length c5, .slice A6 outs.length c6]) ins outs u[k].s (u[k].k == 1) (by have := hmem.1; omega) HSI.out HSO.out _ ((HF7.out.below HBX.out).2) (HT.out.below (below_then HB7.out HBX.out)))
            rw [hmem.2] at HTK
            have HFX := Lib.hid ((HF7.out.below HBX.out).1)
            simp only [Itm.cells] at HBX hx0 HTK HFX
            clear hcc hmem
            generalize u[k] = x at *
            obtain ⟨x0, x1, x2, x3, x4, x5, x6, x7⟩ := x
            dsimp only at d0 d1 d2 d3 d4 d5 d6 d7 HBX hx0 HTK HFX
            have y0 := (cell_of_row _ _ 0 _ _ _ hx0).trans (show _ = some (.string x0) from rfl)
            have y1 := (cell_of_row _ _ 1 _ _ _ hx0).trans (show _ = some (.int .i64 x1) from rfl)
            clear hx0
            have hk62 : (k : Int) + 1 < 9223372036854775807 := by omega
            go_upto_region 12 with fail
            generalize wr.alloc (.cells #[.string x0, .int .i64 x1, .int .u32 x2, .int .u32 x3, .int .u32 x4, .int .i64 x5, .int .i64 x6, .string x7] 38) = wx at *
            go_wp2_with (refine wpList_load_row rfl 29 (.tmp 7) rfl f1 rfl 29 _ (0, 0) _ HFX.out Tryd.underlying29 rfl info_fil ?_)
            refine HTK.out.mono ?_; rintro e w8 ⟨rfl, hb8⟩
            have HB8 := Lib.hid (below_then HBX.out hb8)
            clear hb8 HTK HFX HBX
            go_wp2_with fail
            go_roundw
            case rel => exact ⟨k + 1, by omega, by go_num, HB8⟩
            case measure => simp [intOf]; omega
          · obtain rfl : k = u.length := by omega
            have hd : decide ((u.length : Int) < (u.length : Int)) = false := decide_eq_false (by omega)
            have HFX := Lib.hid (HF7.out.below HB.out)
            have HI8 := Lib.hid (HI7.out.below HB.out)
            have HB8 := Lib.hid (below_then HB7.out HB.out)
            have HTR := Lib.hid (ftree_any #[.slice A5 ins.length c5, .slice A6 outs.length c6] ins outs A7 c7 u (by omega) (fun x hx => by have := (HUM.out x hx).1; omega) HSI.out HSO.out wr HFX.out.2 (HT.out.below HB8.out) HI8.out)
            rw [HUT.out] at HTR
            clear HB HF7 HI7 HB7
            go_wp2_with (refine wpList_load_row rfl 29 (.tmp 7) rfl f1 rfl 29 _ (0, 0) _ HFX.out.1 Tryd.underlying29 rfl info_fil ?_)
            refine HTR.out.mono ?_; rintro e w9 ⟨A9, c9, rfl, hI9, hb9⟩
            have HB9 := Lib.hid (below_then HB8.out hb9)
            have HSM := Lib.hid (sameI_any A9 A7 c9 c7 u w9 hI9 (HI8.out.below hb9) (by omega))
            have HLE : Hid (decide (u.length ≤ l.length) = true) := decide_eq_true HUL.out
            clear hI9 hb9 HTR
            go_wp2_with fail
            refine HSM.out.mono ?_; rintro e w10 ⟨rfl, d, rfl⟩
            have HB10 := Lib.hid (below_drewN HB9.out d)
            clear HSM
            go_wp2_with fail
            go_ret
            exact ⟨by rw [← HLE.out]; rfl, HB10.out⟩
end Go.Proofs.YtkakegeammajgaaDoor
