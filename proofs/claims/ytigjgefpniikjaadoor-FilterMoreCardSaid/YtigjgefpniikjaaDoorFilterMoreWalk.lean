/-
  The walk of FilterMore.
-/
import Derived.Test.YtigjgefpniikjaaDoorFiG
namespace Go.Proofs.YtigjgefpniikjaaDoor
set_option maxRecDepth 100000
set_option linter.unusedSimpArgs false
set_option linter.unusedVariables false
open Go.RowKit Go.Joins Go.Deep
open Go.Lib hiding intOf
/-- A filter in a block of its own. -/
def FilB (w : World) (f : Nat) (s1 s2 : Value) (ins outs : List (List Atm)) : Prop := w.heap[f]? = some (Obj.cells #[s1, s2] 27 (0, 0)) ∧ FilV w (.agg #[s1, s2]) ins outs
theorem FilB.below {w w' : World} {f : Nat} {s1 s2 : Value} {ins outs : List (List Atm)} (h : FilB w f s1 s2 ins outs) (hb : Below w.heap.size w w') : FilB w' f s1 s2 ins outs := ⟨(hb.block f (lt_of_block h.1)).trans h.1, h.2.below hb⟩
theorem FilB.c0 {w : World} {f : Nat} {s1 s2 : Value} {ins outs : List (List Atm)} (h : FilB w f s1 s2 ins outs) : w.cell? ⟨f, 0, none⟩ = some s1 := (cell_of_row _ _ 0 _ _ _ h.1).trans rfl
theorem FilB.c1 {w : World} {f : Nat} {s1 s2 : Value} {ins outs : List (List Atm)} (h : FilB w f s1 s2 ins outs) : w.cell? ⟨f, 1, none⟩ = some s2 := (cell_of_row _ _ 1 _ _ _ h.1).trans rfl
theorem filB_new {w : World} {s1 s2 : Value} {ins outs : List (List Atm)} (h : FilV w (.agg #[s1, s2]) ins outs) : FilB (w.alloc (.cells #[s1, s2] 27)) w.heap.size s1 s2 ins outs := ⟨heap_alloc_new w _, h.below (below_al w _)⟩
theorem below_grown {w w' : World} (h : w.grownBy w' none) : Below w.heap.size w w' := (Below.refl _ _).grown h (Nat.le_refl _) (fun j hj => by cases hj)
theorem mak_ok {w w' : World} {e : Ending} {ssi sso : List ByteArray} {ins outs : List (List Atm)} (h : MakR w ssi sso e w') (h1 : ssi.map cmp1 = ins.map some) (h2 : sso.map cmp1 = outs.map some) : ∃ A1 c1 A2 c2, e = .returned (.tuple #[.agg #[.slice A1 ins.length c1, .slice A2 outs.length c2], .int .i64 0]) ∧ FilV w' (.agg #[.slice A1 ins.length c1, .slice A2 outs.length c2]) ins outs ∧ Below w.heap.size w w' := by
  have no : ∀ (ss : List ByteArray) (ps : List (List Atm)), ss.map cmp1 = ps.map some → ∀ s ∈ ss, cmp1 s ≠ none := fun ss ps hh s hs hn => by
    have hm : cmp1 s ∈ ps.map some := by rw [← hh]; exact List.mem_map_of_mem hs
    rw [hn] at hm
    obtain ⟨y, _, hy⟩ := List.mem_map.1 hm
    cases hy
  rcases h with ⟨⟨s, hs, hn⟩, _⟩ | ⟨ins', outs', A1, c1, A2, c2, g1, g2, rfl, hF, hb⟩
  · rcases List.mem_append.1 hs with hs | hs
    · exact absurd hn (no _ _ h1 s hs)
    · exact absurd hn (no _ _ h2 s hs)
  · obtain rfl : ins' = ins := map_one (g1.symm.trans h1)
    obtain rfl : outs' = outs := map_one (g2.symm.trans h2)
    exact ⟨A1, c1, A2, c2, rfl, hF, hb⟩
theorem mak_no {w w' : World} {e : Ending} {ssi sso : List ByteArray} (h : MakR w ssi sso e w') (hs : ∃ s ∈ ssi ++ sso, cmp1 s = none) : e = .returned (.tuple #[.agg #[.slice none 0 0, .slice none 0 0], .int .i64 22]) ∧ Below w.heap.size w w' := by
  rcases h with ⟨_, h1, h2⟩ | ⟨ins', outs', A1, c1, A2, c2, g1, g2, rfl, hF, hb⟩
  · exact ⟨h1, h2⟩
  · exfalso
    obtain ⟨s, hs1, hs2⟩ := hs
    have hm : cmp1 s ∈ (ssi ++ sso).map cmp1 := List.mem_map_of_mem hs1
    rw [List.map_append, g1, g2, hs2] at hm
    rcases List.mem_append.1 hm with hm | hm
    · obtain ⟨y, _, hy⟩ := List.mem_map.1 hm; cases hy
    · obtain ⟨y, _, hy⟩ := List.mem_map.1 hm; cases hy
set_option maxHeartbeats 16000000 in
theorem filterMore_core (A1 A2 : Option Addr) (c1 c2 : Nat) (ssi sso : List ByteArray) (more path : ByteArray) (dir : Bool) (hn1 : ssi.length ≤ maxLen) (hn2 : sso.length ≤ maxLen) (hmo : more.size ≤ maxLen) (hpa : path.size ≤ maxLen) (hA1 : A1 = none → ssi = []) (hA2 : A2 = none → sso = []) (w : World) (hT1 : TxS w A1 ssi) (hT2 : TxS w A2 sso) (hT : Tabs w) :
    Calls Tryd.prog 3 #[.slice A1 ssi.length c1, .slice A2 sso.length c2, .string more, .string path, .bool dir] w fun e w' => e = .returned (.bool true) ∧ Below w.heap.size w w' := by
  unfold maxLen at hn1 hn2 hmo hpa
  have hif := info_fil
  have HAW := Lib.hid (awake22_any w hT)
  have HT1 := Lib.hid hT1
  have HT2 := Lib.hid hT2
  have HT := Lib.hid hT
  clear hT1 hT2 hT
  go_enter Tryd.func3, Tryd.ntmps3
  go_wp2_with fail
  refine HAW.out.mono ?_; rintro e w1 ⟨rfl, hb1⟩
  have HB1 := Lib.hid hb1
  have HL1 := Lib.hid (light_any A1 c1 ssi (by omega) w1 (HT1.out.below hb1))
  clear hb1 HAW
  obtain ⟨B1, hB1⟩ : ∃ B1, B1 = decide (LitP ssi) := ⟨_, rfl⟩
  obtain ⟨B2, hB2⟩ : ∃ B2, B2 = decide (LitP sso) := ⟨_, rfl⟩
  rw [← hB1] at HL1
  have HB1e := Lib.hid hB1
  have HB2e := Lib.hid hB2
  clear hB1 hB2
  go_wp2_with fail
  refine HL1.out.mono ?_; rintro e w2 ⟨rfl, hb2⟩
  have HB2 := Lib.hid (below_then HB1.out hb2)
  have HL2 := Lib.hid (light_any A2 c2 sso (by omega) w2 (HT2.out.below HB2.out))
  rw [← HB2e.out] at HL2
  clear hb2 HL1 HB1
  cases B1 with
  | false =>
    go_wp2_with fail
    go_ret
    exact ⟨rfl, HB2.out⟩
  | true =>
    go_wp2_with fail
    refine HL2.out.mono ?_; rintro e w3 ⟨rfl, hb3⟩
    have HB3 := Lib.hid (below_then HB2.out hb3)
    clear hb3 HL2 HB2
    cases B2 with
    | false =>
      go_wp2_with fail
      go_ret
      exact ⟨rfl, HB3.out⟩
    | true =>
      have hp1 : LitP ssi := of_decide_eq_true HB1e.out.symm
      have hp2 : LitP sso := of_decide_eq_true HB2e.out.symm
      have HP1 := Lib.hid hp1
      have HP2 := Lib.hid hp2
      clear hp1 hp2
      clear HB1e HB2e
      by_cases b1 : 100 < more.size
      · have d1 : decide ((100 : Int) < (more.size : Int)) = true := decide_eq_true (by omega)
        go_wp2_with fail
        go_ret
        exact ⟨rfl, HB3.out⟩
      have d1 : decide ((100 : Int) < (more.size : Int)) = false := decide_eq_false (by omega)
      by_cases b2 : 300 < path.size
      · have d2 : decide ((300 : Int) < (path.size : Int)) = true := decide_eq_true (by omega)
        go_wp2_with fail
        go_ret
        exact ⟨rfl, HB3.out⟩
      have d2 : decide ((300 : Int) < (path.size : Int)) = false := decide_eq_false (by omega)
      by_cases b3 : 99 < ssi.length
      · have d3 : decide ((99 : Int) < (ssi.length : Int)) = true := decide_eq_true (by omega)
        go_wp2_with fail
        go_ret
        exact ⟨rfl, HB3.out⟩
      have d3 : decide ((99 : Int) < (ssi.length : Int)) = false := decide_eq_false (by omega)
      by_cases b4 : 99 < sso.length
      · have d4 : decide ((99 : Int) < (sso.length : Int)) = true := decide_eq_true (by omega)
        go_wp2_with fail
        go_ret
        exact ⟨rfl, HB3.out⟩
      have d4 : decide ((99 : Int) < (sso.length : Int)) = false := decide_eq_false (by omega)
      have HS1 : Hid (∀ s ∈ ssi, s.size ≤ 1000) := fun s hs => by
        rcases HP1.out with h | ⟨_, h⟩
        · obtain rfl : ssi = [] := List.eq_nil_of_length_eq_zero h
          cases hs
        · have := h s hs; omega
      have HS2 : Hid (∀ s ∈ sso, s.size ≤ 1000) := fun s hs => by
        rcases HP2.out with h | ⟨_, h⟩
        · obtain rfl : sso = [] := List.eq_nil_of_length_eq_zero h
          cases hs
        · have := h s hs; omega
      have HM0 : Hid (Calls Tryd.prog 7 #[.slice none 0 0, .slice none 0 0] w3 (MakR w3 [] [])) := make_any none none 0 0 [] [] (by decide) (by decide) (fun s hs => by cases hs) (fun s hs => by cases hs) w3 (fun h => by cases h) (fun h => by cases h)
      have HN1 : Hid (ssi.length ≤ 99) := Nat.le_of_not_lt b3
      have HN2 : Hid (sso.length ≤ 99) := Nat.le_of_not_lt b4
      have HMO : Hid (more.size ≤ 100) := Nat.le_of_not_lt b1
      have HPS : Hid (path.size ≤ 10000) := by show _ ≤ _; omega
      clear b1 b2 b3 b4 HP1 HP2
      go_wp2_with fail
      refine HM0.out.mono ?_; rintro e w4 hout
      obtain ⟨A3, c3, A4, c4, rfl, hF, hb4⟩ := mak_ok (ins := []) (outs := []) hout rfl rfl
      have HB4 := Lib.hid (below_then HB3.out hb4)
      have hF' : FilV w4 (.agg #[.slice A3 0 c3, .slice A4 0 c4]) [] [] := hF
      have hb5 := below_al w4 (.cells #[.slice A3 0 c3, .slice A4 0 c4] 27)
      have HF1 := Lib.hid (filB_new hF')
      have HB5 := Lib.hid (below_then HB4.out hb5)
      clear hout hF hF' hb4 hb5 HM0
      go_upto_region 6 with fail
      generalize w4.heap.size = f1 at *
      generalize w4.alloc (.cells #[.slice A3 0 c3, .slice A4 0 c4] 27) = w5 at *
      have HM1 := Lib.hid (make_any A1 A2 c1 c2 ssi sso (by have := HN1.out; omega) (by have := HN2.out; omega) (fun s hs => by have := HS1.out s hs; omega) (fun s hs => by have := HS2.out s hs; omega) w5 (HT1.out.below HB5.out) (HT2.out.below HB5.out))
      go_wp2_with fail
      refine HM1.out.mono ?_; rintro e w6 hout
      clear HM1
      have hlq : [more].length = 1 := rfl
      rcases hout with ⟨_, rfl, hb6⟩ | ⟨ins, outs, A5, c5, A6, c6, g1, g2, rfl, hF2, hb6⟩
      · have hb7 := below_al w6 (.cells #[.slice none 0 0, .slice none 0 0] 27)
        have HF1c := Lib.hid ((HF1.out.below hb6).below hb7)
        have HB7 := Lib.hid (below_then (below_then HB5.out hb6) hb7)
        clear hb6 hb7 HF1
        go_upto_region 7 with fail
        generalize w6.alloc (.cells #[.slice none 0 0, .slice none 0 0] 27) = w7 at *
        have a0 := HF1c.out.c0
        have a1 := HF1c.out.c1
        have HK := Lib.hid (takes_any (.agg #[.slice A3 0 c3, .slice A4 0 c4]) [] [] path dir HPS.out ⟨by decide, fun p h => by cases h⟩ ⟨by decide, fun p h => by cases h⟩ w7 HF1c.out.2 (HT.out.below HB7.out))
        rw [tak_all] at HK
        go_wp2_with fail
        refine HK.out.mono ?_; rintro e w8 ⟨rfl, hb8⟩
        have HB8 := Lib.hid (below_then HB7.out hb8)
        clear hb8
        go_wp2_with fail
        go_ret
        exact ⟨rfl, HB8.out⟩
      · have HG1 := Lib.hid g1
        have HG2 := Lib.hid g2
        have HSI : Hid (SmallP ins) := small_pats g1 (by have := HN1.out; omega) HS1.out
        have HSO : Hid (SmallP outs) := small_pats g2 (by have := HN2.out; omega) HS2.out
        have HLI : Hid (ins.length = ssi.length) := by show _ = _; have := congrArg List.length g1; simpa using this.symm
        have hb7 := below_al w6 (.cells #[.slice A5 ins.length c5, .slice A6 outs.length c6] 27)
        have HF1c := Lib.hid ((HF1.out.below hb6).below hb7)
        have HF2 := Lib.hid (filB_new hF2)
        have HB7 := Lib.hid (below_then (below_then HB5.out hb6) hb7)
        clear hb6 hb7 HF1 g1 g2 hF2
        go_upto_region 7 with fail
        generalize w6.heap.size = f2 at *
        generalize w6.alloc (.cells #[.slice A5 ins.length c5, .slice A6 outs.length c6] 27) = w7 at *
        have a0 := HF1c.out.c0
        have a1 := HF1c.out.c1
        have HK := Lib.hid (takes_any (.agg #[.slice A3 0 c3, .slice A4 0 c4]) [] [] path dir HPS.out ⟨by decide, fun p h => by cases h⟩ ⟨by decide, fun p h => by cases h⟩ w7 HF1c.out.2 (HT.out.below HB7.out))
        rw [tak_all] at HK
        go_wp2_with fail
        refine HK.out.mono ?_; rintro e w8 ⟨rfl, hb8⟩
        have HB8 := Lib.hid (below_then HB7.out hb8)
        have HF2b := Lib.hid (HF2.out.below hb8)
        obtain ⟨i0, hi, hz0, hz1, hz2⟩ := parts_of parts_str
        clear hb8 HK a0 a1 HF1c HF2 HB7
        go_upto_region 9 with fail
        have hT2 := HT2.out.below HB8.out
        have hn2 := HN2.out
        go_wp2_with (at_builtin; refine wpList_append_txs rfl (.const (.slice none 0 0)) (.tmp 80) rfl rfl A2 c2 sso rfl hT2 hA2 (by omega) ?_)
        intro v9 w9 hown hgrow
        obtain ⟨A9, c9, rfl⟩ := row_slice2 hown
        have hbq := below_grown hgrow
        have hbr := below_al w9 (.cells #[.string more] 9)
        have HO9 := Lib.hid (own_below' hown hbr)
        have HBQ := Lib.hid (below_then hbq hbr)
        clear hown hgrow hbq hbr hT2
        go_wp2_with (at_builtin; (refine wpList_append_own_at _ rfl (.tmp 81) (.tmp 83) _ rfl w8.heap.size 9 i0 (.string ⟨#[]⟩) 1 16 Tryd.underlying22 hi hz0 hz1 hz2 rfl (by decide) (.slice A9 sso.length c9) sso.length (sso.map Value.string) rfl HO9.out ⟨w9.heap.size, 0, none⟩ 1 1 [.string more] rfl rfl ?c1 ?c2 ?c3 ?c4 ?c5 ?_))
        case c1 => exact cell_one_new _ _ _
        case c2 => intro u hu; simp at hu; subst hu; rfl
        case c3 => unfold maxLen; omega
        case c4 => omega
        case c5 => exact HBQ.out.size
        intro v10 w10 hown hgrow _ _
        obtain ⟨A10, c10, rfl⟩ := row_slice2 hown
        have HBZ : Hid (Below w8.heap.size w8 w10) := HBQ.out.grown hgrow HBQ.out.size (fun j hj => (HO9.out.lt j hj).1)
        have hTx : TxS w10 A10 (sso ++ [more]) := txs_of_own (B := w8.heap.size) (n := sso.length + 1) (c := c10) (by rw [List.map_append]; exact hown)
        have HB10 := Lib.hid (below_then HB8.out HBZ.out)
        have HF2c := Lib.hid (HF2b.out.below HBZ.out)
        have HM2 : Hid (Calls Tryd.prog 7 #[.slice A1 ssi.length c1, .slice A10 (sso.length + 1) c10] w10 (MakR w10 ssi (sso ++ [more]))) := by
          have h := make_any A1 A10 c1 c10 ssi (sso ++ [more]) (by have := HN1.out; omega) (by rw [List.length_append, hlq]; omega) (fun s hs => by have := HS1.out s hs; omega) (fun s hs => by
            rcases List.mem_append.1 hs with hs | hs
            · have := HS2.out s hs; omega
            · obtain rfl : s = more := by simpa using hs
              have := HMO.out; omega) w10 (HT1.out.below HB10.out) hTx
          rw [List.length_append, hlq] at h
          exact h
        clear hown hgrow hTx HBZ HBQ HO9 HF2b
        go_wp2_with fail
        refine HM2.out.mono ?_; rintro e w11 houta
        clear HM2
        cases hcm : cmp1 more with
        | none =>
          obtain ⟨rfl, hb11⟩ := mak_no houta ⟨more, by simp, hcm⟩
          have HCM := Lib.hid hcm
          have HB12 := Lib.hid (below_then (below_then HB10.out hb11) (below_al w11 (.cells #[.slice none 0 0, .slice none 0 0] 27)))
          clear houta hb11 hcm
          go_upto_region 10 with fail
          generalize w11.alloc (.cells #[.slice none 0 0, .slice none 0 0] 27) = w12 at *
          have hT1 := HT1.out.below HB12.out
          have hn1 := HN1.out
          go_wp2_with (at_builtin; refine wpList_append_txs rfl (.const (.slice none 0 0)) (.tmp 89) rfl rfl A1 c1 ssi rfl hT1 hA1 (by omega) ?_)
          intro v13 w13 hown hgrow
          obtain ⟨A13, c13, rfl⟩ := row_slice2 hown
          have hbq := below_grown hgrow
          have hbr := below_al w13 (.cells #[.string more] 9)
          have HO13 := Lib.hid (own_below' hown hbr)
          have HBQ := Lib.hid (below_then hbq hbr)
          clear hown hgrow hbq hbr hT1
          go_wp2_with (at_builtin; (refine wpList_append_own_at _ rfl (.tmp 90) (.tmp 92) _ rfl w12.heap.size 9 i0 (.string ⟨#[]⟩) 1 16 Tryd.underlying22 hi hz0 hz1 hz2 rfl (by decide) (.slice A13 ssi.length c13) ssi.length (ssi.map Value.string) rfl HO13.out ⟨w13.heap.size, 0, none⟩ 1 1 [.string more] rfl rfl ?c1 ?c2 ?c3 ?c4 ?c5 ?_))
          case c1 => exact cell_one_new _ _ _
          case c2 => intro u hu; simp at hu; subst hu; rfl
          case c3 => unfold maxLen; omega
          case c4 => omega
          case c5 => exact HBQ.out.size
          intro v14 w14 hown hgrow _ _
          obtain ⟨A14, c14, rfl⟩ := row_slice2 hown
          have HBZ : Hid (Below w12.heap.size w12 w14) := HBQ.out.grown hgrow HBQ.out.size (fun j hj => (HO13.out.lt j hj).1)
          have hTx : TxS w14 A14 (ssi ++ [more]) := txs_of_own (B := w12.heap.size) (n := ssi.length + 1) (c := c14) (by rw [List.map_append]; exact hown)
          have HB14 := Lib.hid (below_then HB12.out HBZ.out)
          have HM3 : Hid (Calls Tryd.prog 7 #[.slice A14 (ssi.length + 1) c14, .slice A2 sso.length c2] w14 (MakR w14 (ssi ++ [more]) sso)) := by
            have h := make_any A14 A2 c14 c2 (ssi ++ [more]) sso (by rw [List.length_append, hlq]; omega) (by have := HN2.out; omega) (fun s hs => by
              rcases List.mem_append.1 hs with hs | hs
              · have := HS1.out s hs; omega
              · obtain rfl : s = more := by simpa using hs
                have := HMO.out; omega) (fun s hs => by have := HS2.out s hs; omega) w14 hTx (HT2.out.below HB14.out)
            rw [List.length_append, hlq] at h
            exact h
          clear hown hgrow hTx HBZ HBQ HO13
          go_wp2_with fail
          refine HM3.out.mono ?_; rintro e w15 houtb
          obtain ⟨rfl, hb15⟩ := mak_no houtb ⟨more, by simp, HCM.out⟩
          have HB15 := Lib.hid ((below_then HB14.out hb15).alloc (below_then HB14.out hb15).size (.cells #[.slice none 0 0, .slice none 0 0] 27))
          clear houtb hb15 HM3
          go_wp2_with fail
          go_ret
          exact ⟨rfl, HB15.out⟩
        | some p =>
          have HSP : Hid (SmallP (outs ++ [p]) ∧ SmallP (ins ++ [p])) := by
            have hq := cmp_small hcm (by have := HMO.out; omega)
            have h1 := HSO.out
            have h2 := HSI.out
            have e1 : outs.length = sso.length := by have := congrArg List.length HG2.out; simpa using this.symm
            have e2 := HLI.out
            have n1 := HN1.out
            have n2 := HN2.out
            refine ⟨⟨by rw [List.length_append]; show _ + 1 ≤ _; omega, fun q hq' => ?_⟩, ⟨by rw [List.length_append]; show _ + 1 ≤ _; omega, fun q hq' => ?_⟩⟩
            · rcases List.mem_append.1 hq' with h | h
              · exact h1.2 q h
              · obtain rfl : q = p := by simpa using h
                exact hq
            · rcases List.mem_append.1 hq' with h | h
              · exact h2.2 q h
              · obtain rfl : q = p := by simpa using h
                exact hq
          have HMO2 : Hid ((sso ++ [more]).map cmp1 = (outs ++ [p]).map some) := by show _ = _; rw [List.map_append, List.map_append, HG2.out]; show _ ++ [cmp1 more] = _; rw [hcm]; rfl
          have HMI2 : Hid ((ssi ++ [more]).map cmp1 = (ins ++ [p]).map some) := by show _ = _; rw [List.map_append, List.map_append, HG1.out]; show _ ++ [cmp1 more] = _; rw [hcm]; rfl
          obtain ⟨A12, c12, A13, c13, rfl, hF3, hb11⟩ := mak_ok houta HG1.out HMO2.out
          obtain ⟨oo, hoo⟩ : ∃ oo, oo = outs ++ [p] := ⟨_, rfl⟩
          obtain ⟨ii, hii⟩ : ∃ ii, ii = ins ++ [p] := ⟨_, rfl⟩
          have HTM := Lib.hid (tak_more ins outs p path dir)
          rw [← hoo] at hF3 HMO2 HSP HTM
          rw [← hii] at HMI2 HSP HTM
          rw [← hoo]
          have hb12 := below_al w11 (.cells #[.slice A12 ins.length c12, .slice A13 oo.length c13] 27)
          have HF3 := Lib.hid (filB_new hF3)
          have HF2d := Lib.hid ((HF2c.out.below hb11).below hb12)
          have HB12 := Lib.hid (below_then (below_then HB10.out hb11) hb12)
          clear houta hb11 hb12 hcm hF3 HF2c hoo hii
          go_upto_region 10 with fail
          generalize w11.heap.size = f3 at *
          generalize w11.alloc (.cells #[.slice A12 ins.length c12, .slice A13 oo.length c13] 27) = w12 at *
          have hT1 := HT1.out.below HB12.out
          have hn1 := HN1.out
          go_wp2_with (at_builtin; refine wpList_append_txs rfl (.const (.slice none 0 0)) (.tmp 89) rfl rfl A1 c1 ssi rfl hT1 hA1 (by omega) ?_)
          intro v13q w13q hown hgrow
          obtain ⟨A13q, c13q, rfl⟩ := row_slice2 hown
          have hbq := below_grown hgrow
          have hbr := below_al w13q (.cells #[.string more] 9)
          have HO13q := Lib.hid (own_below' hown hbr)
          have HBQ := Lib.hid (below_then hbq hbr)
          clear hown hgrow hbq hbr hT1
          go_wp2_with (at_builtin; (refine wpList_append_own_at _ rfl (.tmp 90) (.tmp 92) _ rfl w12.heap.size 9 i0 (.string ⟨#[]⟩) 1 16 Tryd.underlying22 hi hz0 hz1 hz2 rfl (by decide) (.slice A13q ssi.length c13q) ssi.length (ssi.map Value.string) rfl HO13q.out ⟨w13q.heap.size, 0, none⟩ 1 1 [.string more] rfl rfl ?c1 ?c2 ?c3 ?c4 ?c5 ?_))
          case c1 => exact cell_one_new _ _ _
          case c2 => intro u hu; simp at hu; subst hu; rfl
          case c3 => unfold maxLen; omega
          case c4 => omega
          case c5 => exact HBQ.out.size
          intro v14 w14 hown hgrow _ _
          obtain ⟨A14, c14, rfl⟩ := row_slice2 hown
          have HBZ : Hid (Below w12.heap.size w12 w14) := HBQ.out.grown hgrow HBQ.out.size (fun j hj => (HO13q.out.lt j hj).1)
          have hTx : TxS w14 A14 (ssi ++ [more]) := txs_of_own (B := w12.heap.size) (n := ssi.length + 1) (c := c14) (by rw [List.map_append]; exact hown)
          have HB14 := Lib.hid (below_then HB12.out HBZ.out)
          have HF3e := Lib.hid (HF3.out.below HBZ.out)
          have HF2e := Lib.hid (HF2d.out.below HBZ.out)
          have HM3 : Hid (Calls Tryd.prog 7 #[.slice A14 (ssi.length + 1) c14, .slice A2 sso.length c2] w14 (MakR w14 (ssi ++ [more]) sso)) := by
            have h := make_any A14 A2 c14 c2 (ssi ++ [more]) sso (by rw [List.length_append, hlq]; omega) (by have := HN2.out; omega) (fun s hs => by
              rcases List.mem_append.1 hs with hs | hs
              · have := HS1.out s hs; omega
              · obtain rfl : s = more := by simpa using hs
                have := HMO.out; omega) (fun s hs => by have := HS2.out s hs; omega) w14 hTx (HT2.out.below HB14.out)
            rw [List.length_append, hlq] at h
            exact h
          clear hown hgrow hTx HBZ HBQ HO13q HF3 HF2d
          go_wp2_with fail
          refine HM3.out.mono ?_; rintro e w15 houtb
          obtain ⟨A15, c15, A16, c16, rfl, hF4, hb15⟩ := mak_ok houtb HMI2.out HG2.out
          have hb16 := below_al w15 (.cells #[.slice A15 ii.length c15, .slice A16 outs.length c16] 27)
          have HF4 := Lib.hid (filB_new hF4)
          have HF3f := Lib.hid ((HF3e.out.below hb15).below hb16)
          have HF2f := Lib.hid ((HF2e.out.below hb15).below hb16)
          have HB16 := Lib.hid (below_then (below_then HB14.out hb15) hb16)
          have HT16 := Lib.hid (HT.out.below HB16.out)
          clear houtb hb15 hb16 hF4 HF3e HF2e HM3
          go_upto_region 11 with fail
          generalize w15.heap.size = f4 at *
          generalize w15.alloc (.cells #[.slice A15 ii.length c15, .slice A16 outs.length c16] 27) = w16 at *
          have HKA := Lib.hid (takes_any (.agg #[.slice A12 ins.length c12, .slice A13 oo.length c13]) ins oo path dir HPS.out HSI.out HSP.out.1 w16 HF3f.out.2 HT16.out)
          have HKF := Lib.hid (fun w1 (hb : Below w16.heap.size w16 w1) => takes_any (.agg #[.slice A5 ins.length c5, .slice A6 outs.length c6]) ins outs path dir HPS.out HSI.out HSO.out w1 (HF2f.out.below hb).2 (HT16.out.below hb))
          have HKB := Lib.hid (fun w1 (hb : Below w16.heap.size w16 w1) => takes_any (.agg #[.slice A15 ii.length c15, .slice A16 outs.length c16]) ii outs path dir HPS.out HSP.out.2 HSO.out w1 (HF4.out.below hb).2 (HT16.out.below hb))
          generalize takM ins oo path dir = X at *
          generalize takM ins outs path dir = Y at *
          generalize takM ii outs path dir = Z at *
          have a0 := HF3f.out.c0
          have a1 := HF3f.out.c1
          have HC2 := Lib.hid (fun w1 (hb : Below w16.heap.size w16 w1) => And.intro (HF2f.out.below hb).c0 (HF2f.out.below hb).c1)
          have HC4 := Lib.hid (fun w1 (hb : Below w16.heap.size w16 w1) => And.intro (HF4.out.below hb).c0 (HF4.out.below hb).c1)
          obtain ⟨z, hz⟩ : ∃ z, z = decide (ins.length = 0) := ⟨_, rfl⟩
          rw [← hz] at HTM
          have hzz : ((((ssi.length : Nat) : Int)) == 0) = z := by
            rw [hz, HLI.out]
            by_cases h : ssi.length = 0
            · rw [decide_eq_true h, beq_iff_eq]; omega
            · rw [decide_eq_false h, beq_eq_false_iff_ne]; omega
          clear hz HF3f HF2f HF4 HMO2 HMI2 HG1 HG2 HSP HSI HSO HLI
          go_wp2_with fail
          refine HKA.out.mono ?_; rintro e w17 ⟨rfl, hb17⟩
          have HB17 := Lib.hid hb17
          obtain ⟨b0, b1⟩ := HC2.out w17 hb17
          clear hb17 a0 a1
          cases X with
          | true =>
            cases Y with
            | false => exact absurd HTM.out (by cases z <;> cases Z <;> simp)
            | true =>
              go_wp2_with fail
              refine (HKF.out _ HB17.out).mono ?_; rintro e w18 ⟨rfl, hb18⟩
              have HB18 := Lib.hid (below_then HB17.out hb18)
              clear hb18 b0 b1
              cases z with
              | true =>
                go_wp2_with fail
                go_ret
                exact ⟨rfl, HB16.out.trans (HB18.out.mono HB16.out.size)⟩
              | false =>
                obtain ⟨b0, b1⟩ := HC2.out w18 HB18.out
                cases Z with
                | false => exact absurd HTM.out (by simp)
                | true =>
                  go_wp2_with fail
                  refine (HKF.out _ HB18.out).mono ?_; rintro e w19 ⟨rfl, hb19⟩
                  have HB19 := Lib.hid (below_then HB18.out hb19)
                  obtain ⟨d0, d1⟩ := HC4.out w19 HB19.out
                  clear hb19 b0 b1
                  go_wp2_with fail
                  refine (HKB.out _ HB19.out).mono ?_; rintro e w20 ⟨rfl, hb20⟩
                  have HB20 := Lib.hid (below_then HB19.out hb20)
                  clear hb20
                  go_wp2_with fail
                  go_ret
                  exact ⟨rfl, HB16.out.trans (HB20.out.mono HB16.out.size)⟩
          | false =>
            cases z with
            | true =>
              go_wp2_with fail
              go_ret
              exact ⟨rfl, HB16.out.trans (HB17.out.mono HB16.out.size)⟩
            | false =>
              go_wp2_with fail
              refine (HKF.out _ HB17.out).mono ?_; rintro e w18 ⟨rfl, hb18⟩
              have HB18 := Lib.hid (below_then HB17.out hb18)
              obtain ⟨d0, d1⟩ := HC4.out w18 HB18.out
              clear hb18 b0 b1
              cases Y with
              | false =>
                go_wp2_with fail
                go_ret
                exact ⟨rfl, HB16.out.trans (HB18.out.mono HB16.out.size)⟩
              | true =>
                cases Z with
                | false => exact absurd HTM.out (by simp)
                | true =>
                  go_wp2_with fail
                  refine (HKB.out _ HB18.out).mono ?_; rintro e w19 ⟨rfl, hb19⟩
                  have HB19 := Lib.hid (below_then HB18.out hb19)
                  clear hb19
                  go_wp2_with fail
                  go_ret
                  exact ⟨rfl, HB16.out.trans (HB19.out.mono HB16.out.size)⟩
end Go.Proofs.YtigjgefpniikjaaDoor
