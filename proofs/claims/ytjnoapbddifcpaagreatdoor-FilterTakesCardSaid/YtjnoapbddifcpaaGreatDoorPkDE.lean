/-
  The document's Entries, with the error that comes.
  The program's Entries, with the error that comes.
-/
import Derived.Test.YtjnoapbddifcpaaGreatDoorPkCJ
import Derived.Test.YtjnoapbddifcpaaGreatDoorPkDB
import Derived.Test.YtjnoapbddifcpaaGreatDoorRmD

namespace Go.Proofs.YtjnoapbddifcpaaGreatDoor
set_option maxRecDepth 100000
set_option linter.unusedSimpArgs false
set_option linter.unusedVariables false
open Go.RowKit Go.Joins Go.Deep
open Go.Lib hiding intOf
/-- The first error. -/
noncomputable def entZ : List Ent → Int
  | [] => 0
  | E :: r => if (metV E).z = 0 then entZ r else (metV E).z
theorem entZ_app (l r : List Ent) : entZ l = 0 → entZ (l ++ r) = entZ r := by
  induction l with
  | nil => exact fun _ => rfl
  | cons E l ih =>
    intro h
    rw [List.cons_append]
    rw [entZ] at h
    rw [entZ]
    by_cases e : (metV E).z = 0
    · rw [if_pos e] at h ⊢; exact (ih h).trans rfl
    · rw [if_neg e] at h; exact absurd h e
theorem entZ_succ (l : List Ent) (k : Nat) (hk : k < l.length) (h : entZ (l.take k) = 0) (hz : (metV l[k]).z = 0) : entZ (l.take (k + 1)) = 0 := by
  rw [List.take_succ_eq_append_getElem hk, entZ_app _ _ h]
  unfold entZ
  rw [if_pos hz]
  rfl
theorem entZ_at (l : List Ent) (k : Nat) (hk : k < l.length) (h : entZ (l.take k) = 0) (hz : (metV l[k]).z ≠ 0) : entZ l = (metV l[k]).z := by
  conv => lhs; rw [← List.take_append_drop k l]
  rw [entZ_app _ _ h, List.drop_eq_getElem_cons hk]
  unfold entZ
  rw [if_neg hz]
/-- What Entries answers, with the error that comes. -/
def EntX (w : World) (ins outs : List (List Atm)) (l : List Ent) (e : Ending) (w' : World) : Prop :=
  (entZ l ≠ 0 ∧ e = .returned (.tuple #[.slice none 0 0, .int .i64 (entZ l)]) ∧ Below w.heap.size w w') ∨
  (entZ l = 0 ∧ ∃ A c, e = .returned (.tuple #[.slice A (entP ins outs l l.length).length c, .int .i64 0]) ∧ IntW w' A (entP ins outs l l.length) ∧ (∀ a, A = some a → w.heap.size ≤ a.block) ∧ Below w.heap.size w w')
set_option maxHeartbeats 32000000 in
theorem rentries_any (V : Value) (ins outs : List (List Atm)) (A : Option Addr) (c : Nat) (l : List Ent) (w : World) (hR : Ents w A l) (hl : l.length ≤ 1000) (hL : LightL l) (hF : FilE w V ins outs) :
    Calls Tryz.prog 12 #[V, .slice A l.length c] w (EntX w ins outs l) := by
  obtain ⟨i0, hi, hz0, hz1, hz2⟩ : ∃ i0, Tryz.prog.info? 3 = some i0 ∧ i0.zero = some (.int .i64 0) ∧ i0.size = 1 ∧ i0.bytes = 8 := by
    have h : (Tryz.prog.info? 3).map (fun i => (i.zero, i.size, i.bytes)) = some (some (.int .i64 0), 1, 8) := by kernel_rfl
    cases hq : Tryz.prog.info? 3 with
    | none => rw [hq] at h; cases h
    | some i =>
      rw [hq] at h
      simp only [Option.map_some, Option.some.injEq, Prod.mk.injEq] at h
      exact ⟨i, rfl, h.1, h.2.1, h.2.2⟩
  have hif := info_filD
  have hinM := info_nodeM
  have hFK := hF
  obtain ⟨⟨FA, fa, FB, fb, rfl, _⟩, _⟩ := hFK
  obtain ⟨w1, hw1⟩ : ∃ w1, w1 = w.alloc (.cells #[.slice FA ins.length fa, .slice FB outs.length fb] 42) := ⟨_, rfl⟩
  have hb1 : Below w.heap.size w w1 := by rw [hw1]; exact below_alP w _
  have HX1 : Hid (w1.heap[w.heap.size]? = some (.cells #[.slice FA ins.length fa, .slice FB outs.length fb] 42 (0, 0))) := by show _ = _; rw [hw1]; exact heap_alloc_new w _
  have HR := Lib.hid (fun w2 (hb : Below w.heap.size w w2) => hR.below hb)
  have HFK := Lib.hid (fun w2 (hb : Below w.heap.size w w2) => hF.below hb)
  have HME := Lib.hid (fun E (hm : E ∈ l) w1 (hb : Below w.heap.size w w1) => rmeta_any E (hL E hm).1 (hL E hm).2 w1)
  have HB1 := Lib.hid hb1
  have HW1 := Lib.hid hw1
  have HG1 : Hid (w.heap.size < w1.heap.size) := lt_of_heapP HX1.out
  clear hR hL hF hw1 hb1
  generalize ins.length = ni at *
  generalize outs.length = no at *
  go_enter Tryz.func12, Tryz.ntmps12
  go_upto_region 1 with fail
  rw [← HW1.out]
  clear HW1
  go_wp2_with fail
  go_loopw [6, 14] (fun v6 v14 wr => ∃ (k : Nat) (V : Value), k ≤ l.length ∧ V = v6 ∧ v14 = .int .i64 (k : Nat) ∧ Hid (wr.ownsRow w1.heap.size 3 1 V (entP ins outs l k).length ((entP ins outs l k).map (Value.int .i64))) ∧ Hid (Below w1.heap.size w1 wr) ∧ Hid (entZ (l.take k) = 0)) (fun _ v _ => l.length - (intOf v).toNat)
  case atStart => exact ⟨0, _, Nat.zero_le _, rfl, rfl, World.ownsRow_nil _ _ _ _, Below.refl _ _, rfl⟩
  case round =>
    obtain ⟨k, V, hk, rfl, rfl, HO, HB, HZK⟩ := hrel
    by_cases hkn : k < l.length
    · have hd : decide ((k : Int) < (l.length : Int)) = true := decide_eq_true (by omega)
      have HBW := Lib.hid (below_thenE HB1.out HB.out)
      obtain ⟨b, off, rfl, hb, hcc⟩ := (HR.out wr HBW.out) (by omega)
      have HRG := Lib.hid (hcc k l[k] (List.getElem?_eq_getElem hkn))
      have HMEM : Hid (l[k] ∈ l) := List.getElem_mem hkn
      have HEP : Hid (entP ins outs l (k + 1) = entP ins outs l k ++ (if takM ins outs (metV l[k]).p ((metV l[k]).k == 1) = true then [((k : Nat) : Int)] else [])) := by show _ = _; rw [entP_succ]; unfold entS; rw [List.getElem?_eq_getElem hkn]
      have HLN : Hid ((entP ins outs l k).length ≤ k) := entP_len ins outs l k
      have HX2 := Lib.hid (boxE_row wr l[k])
      have hb01 := boxE_below l[k].cells (Below.refl wr.heap.size wr) (Nat.le_refl _)
      have HB2 := Lib.hid (HB.out.trans (hb01.mono HB.out.size))
      have HO2 := Lib.hid (own_keepP HO.out hb01)
      have HPS := Lib.hid (metV_sz l[k])
      have HZS := Lib.hid (entZ_succ l k hkn HZK.out)
      have HZA := Lib.hid (entZ_at l k hkn HZK.out)
      have HLI := Lib.hid (HME.out l[k] HMEM.out _ (below_thenE HB1.out HB2.out))
      generalize l[k] = E at *
      have H17 := Lib.hid (ent_size E)
      have HON := Lib.hid (ent_one E)
      have HIE : Hid ((Tryz.prog.info? 32).map (·.size) = some E.cellsL.length) := info_entE
      rw [← ent_cells] at H17 HON HX2 HB2 HO2 HLI
      generalize E.cellsL = EL at *
      clear hcc hb01 HO HB
      go_upto_region 5 with (first | (refine wpList_load_mid rfl 32 (.tmp 17) rfl b (off + k * 17) rfl EL _ HRG.out Tryz.underlying32 rfl HIE.out ?_) | (refine wpList_store_ent EL.toArray rfl (.tmp 8) (.tmp 18) rfl rfl rfl H17.out HON.out ?_))
      generalize wr.heap.size = gx at *
      generalize boxE wr EL.toArray = W1 at *
      have HIA : Hid ((Tryz.prog.info? 32).map (·.size) = some EL.toArray.size) := by show _ = _; rw [HIE.out, List.size_toArray]
      clear HRG H17 HON HIE
      go_wp2_with (refine wpList_load_row rfl 32 (.tmp 8) rfl gx rfl 32 _ (0, 0) _ HX2.out Tryz.underlying32 rfl HIA.out ?_)
      refine HLI.out.mono ?_; rintro e w2 ⟨rfl, hb2⟩
      unfold MeT.val
      have HB3 := Lib.hid (HB2.out.trans (hb2.mono HB2.out.size))
      have HO3 := Lib.hid (own_keepP HO2.out hb2)
      clear hb2 HLI HX2 HIA HO2 HB2
      generalize metV E = M at *
      obtain ⟨mp, mk, mm, mu, mg, mt, ma, mz⟩ := M
      dsimp only at HEP HPS HZS HZA ⊢
      obtain ⟨w3, hw3⟩ : ∃ w3, w3 = w2.alloc (.cells #[.int .i64 mk, .int .u32 mm, .int .u32 mu, .int .u32 mg, .int .i64 mt, .int .i64 ma, .string ⟨#[]⟩] 71) := ⟨_, rfl⟩
      have hb3 : Below w2.heap.size w2 w3 := by rw [hw3]; exact below_alP w2 _
      have HN4 : Hid (w3.heap[w2.heap.size]? = some (.cells #[.int .i64 mk, .int .u32 mm, .int .u32 mu, .int .u32 mg, .int .i64 mt, .int .i64 ma, .string ⟨#[]⟩] 71 (0, 0))) := by show _ = _; rw [hw3]; exact heap_alloc_new w2 _
      have HB4 := Lib.hid (HB3.out.trans (hb3.mono HB3.out.size))
      have HO4 := Lib.hid (own_keepP HO3.out hb3)
      have HW3 := Lib.hid hw3
      clear hw3 hb3 HB3 HO3
      by_cases hz : mz = 0
      case neg =>
        have bz : (mz != 0) = true := bne_iff_ne.2 hz
        have HBE := Lib.hid (below_thenE HB1.out HB4.out)
        clear HO4 HEP
        go_wp2_with fail
        rw [← HW3.out]
        go_ret2
        exact .inl ⟨by rw [HZA.out hz]; exact hz, by rw [HZA.out hz]; rfl, HBE.out⟩
      subst hz
      have HZ9 : Hid (entZ (l.take (k + 1)) = 0) := HZS.out rfl
      clear HZS HZA
      have hn0 := (cell_of_row _ _ 0 _ _ _ HN4.out).trans (show _ = some (Value.int .i64 mk) from rfl)
      have HF4 := Lib.hid ((HB4.out.block _ (lt_of_heapP HX1.out)).trans HX1.out)
      have HTK := Lib.hid (rtakes22_any _ ins outs mp (mk == 1) (by have : mp.size ≤ 65535 := HPS.out; omega) w3 (HFK.out w3 (below_thenE HB1.out HB4.out)))
      generalize hTB : takM ins outs mp (mk == 1) = TB at *
      clear hTB
      go_upto_region 8 with fail
      rw [← HW3.out]
      clear HW3
      generalize w2.heap.size = gn at *
      go_wp2_with (first | (refine wpList_load_row rfl 42 (.tmp 2) rfl w.heap.size rfl 42 _ (0, 0) _ HF4.out Tryz.underlying42 rfl info_filD ?_) | fail)
      refine HTK.out.mono ?_; rintro e w5 ⟨rfl, hb5⟩
      have HB5 := Lib.hid (HB4.out.trans (hb5.mono HB4.out.size))
      have HO5 := Lib.hid (own_keepP HO4.out hb5)
      clear hb5 HTK HB4 HO4 HN4 HF4
      cases TB with
      | false =>
        have HE2 : Hid (entP ins outs l (k + 1) = entP ins outs l k) := by show _ = _; rw [HEP.out]; simp
        have HO6 : Hid (w5.ownsRow w1.heap.size 3 1 V (entP ins outs l (k + 1)).length ((entP ins outs l (k + 1)).map (Value.int .i64))) := by show World.ownsRow _ _ _ _ _ _ _; rw [HE2.out]; exact HO5.out
        clear HEP HE2 HO5
        go_wp2_with fail
        go_roundw
        case rel => exact ⟨k + 1, _, by omega, rfl, by go_num, HO6, HB5, HZ9⟩
        case measure => simp [intOf]; omega
      | true =>
        have HE2 : Hid (entP ins outs l (k + 1) = entP ins outs l k ++ [((k : Nat) : Int)]) := by show _ = _; rw [HEP.out]; simp
        have hba := below_alP w5 (.cells #[.int .i64 (k : Nat)] 3)
        have HO7 := Lib.hid (own_keepP HO5.out hba)
        have HB7 := Lib.hid (HB5.out.trans (hba.mono HB5.out.size))
        have HNW := Lib.hid (int_news w5 (k : Nat))
        have HG7 : Hid (w1.heap.size ≤ (w5.alloc (.cells #[.int .i64 (k : Nat)] 3)).heap.size) := HB7.out.size
        generalize entP ins outs l k = IL at *
        clear HEP hba HO5 HB5
        go_wp2_with (at_builtin; refine wpList_append_own _ rfl _ _ 45 rfl w1.heap.size 3 i0 (.int .i64 0) 1 8 Tryz.underlying45 hi hz0 hz1 hz2 rfl (by decide) _ _ _ rfl HO7.out ⟨w5.heap.size, 0, none⟩ 1 1 [.int .i64 (k : Nat)] rfl ?qc1 ?qc2 ?qc3 ?qc4 ?qc5 ?qc6 ?_)
        case qc1 => rfl
        case qc2 => exact HNW.out
        case qc3 => intro u hu; simp at hu; subst hu; rfl
        case qc4 => have := HLN.out; unfold maxLen; omega
        case qc5 => have := HLN.out; omega
        case qc6 => exact HG7.out
        intro v8 w8 hown8 hgrow8 _
        have HO8 : Hid (w8.ownsRow w1.heap.size 3 1 v8 (entP ins outs l (k + 1)).length ((entP ins outs l (k + 1)).map (Value.int .i64))) := by
          show World.ownsRow _ _ _ _ _ _ _
          rw [HE2.out, List.length_append, List.map_append]
          exact hown8
        have HB8 : Hid (Below w1.heap.size w1 w8) := HB7.out.grown hgrow8 HB7.out.size (fun z hz => by have := (HO7.out.lt z hz).1; omega)
        clear hown8 hgrow8 HO7 HB7 HNW HG7 HE2
        go_wp2_with fail
        go_roundw
        case rel => exact ⟨k + 1, _, by omega, rfl, by go_num, HO8, HB8, HZ9⟩
        case measure => simp [intOf]; omega
    · obtain rfl : k = l.length := by omega
      have hd : decide ((l.length : Int) < (l.length : Int)) = false := decide_eq_false (by omega)
      obtain ⟨A5, c5, rfl, htx, hnw⟩ := ints_own2 HO.out
      have HNW := Lib.hid (fun a ha => Nat.le_trans (Nat.le_of_lt HG1.out) (hnw a ha))
      have HTI := Lib.hid htx
      have HBE := Lib.hid (below_thenE HB1.out HB.out)
      clear HO htx hnw
      go_wp2_with fail
      go_ret2
      exact .inr ⟨by have h := HZK.out; rw [List.take_length] at h; exact h, A5, c5, rfl, HTI.out, HNW.out, HBE.out⟩
end Go.Proofs.YtjnoapbddifcpaaGreatDoor

namespace Go.Proofs.YtjnoapbddifcpaaGreatDoor
set_option maxRecDepth 100000
set_option linter.unusedSimpArgs false
set_option linter.unusedVariables false
open Go.RowKit Go.Joins Go.Deep
open Go.Lib hiding intOf
set_option maxHeartbeats 32000000 in
theorem entriesX_any (V : Value) (ins outs : List (List Atm)) (A : Option Addr) (c : Nat) (l : List Ent) (w : World) (hR : Ents w A l) (hl : l.length ≤ 1000) (hL : LightL l) (hU : Upper w) (hE : Env w) (hF : FilK w V ins outs) :
    Calls Tryz.prog 11 #[V, .slice A l.length c] w (EntX w ins outs l) := by
  obtain ⟨i0, hi, hz0, hz1, hz2⟩ : ∃ i0, Tryz.prog.info? 3 = some i0 ∧ i0.zero = some (.int .i64 0) ∧ i0.size = 1 ∧ i0.bytes = 8 := by
    have h : (Tryz.prog.info? 3).map (fun i => (i.zero, i.size, i.bytes)) = some (some (.int .i64 0), 1, 8) := by kernel_rfl
    cases hq : Tryz.prog.info? 3 with
    | none => rw [hq] at h; cases h
    | some i =>
      rw [hq] at h
      simp only [Option.map_some, Option.some.injEq, Prod.mk.injEq] at h
      exact ⟨i, rfl, h.1, h.2.1, h.2.2⟩
  have hif := info_fil
  have hinM := info_nodeM
  have hFK := hF
  obtain ⟨⟨FA, fa, FB, fb, rfl, _⟩, _, _, _⟩ := hFK
  obtain ⟨w1, hw1⟩ : ∃ w1, w1 = w.alloc (.cells #[.slice FA ins.length fa, .slice FB outs.length fb] 36) := ⟨_, rfl⟩
  have hb1 : Below w.heap.size w w1 := by rw [hw1]; exact below_alP w _
  have HX1 : Hid (w1.heap[w.heap.size]? = some (.cells #[.slice FA ins.length fa, .slice FB outs.length fb] 36 (0, 0))) := by show _ = _; rw [hw1]; exact heap_alloc_new w _
  have HR := Lib.hid (fun w2 (hb : Below w.heap.size w w2) => hR.below hb)
  have HFK := Lib.hid (fun w2 (hb : Below w.heap.size w w2) => hF.below hb)
  have HME := Lib.hid (fun E (hm : E ∈ l) w1 (hb : Below w.heap.size w w1) => meta_any E (hL E hm).1 (hL E hm).2 w1 (hU.below hb) (hE.below hb))
  have HB1 := Lib.hid hb1
  have HW1 := Lib.hid hw1
  have HG1 : Hid (w.heap.size < w1.heap.size) := lt_of_heapP HX1.out
  clear hR hL hU hE hF hw1 hb1
  generalize ins.length = ni at *
  generalize outs.length = no at *
  go_enter Tryz.func11, Tryz.ntmps11
  go_upto_region 1 with fail
  rw [← HW1.out]
  clear HW1
  go_wp2_with fail
  go_loopw [6, 14] (fun v6 v14 wr => ∃ (k : Nat) (V : Value), k ≤ l.length ∧ V = v6 ∧ v14 = .int .i64 (k : Nat) ∧ Hid (wr.ownsRow w1.heap.size 3 1 V (entP ins outs l k).length ((entP ins outs l k).map (Value.int .i64))) ∧ Hid (Below w1.heap.size w1 wr) ∧ Hid (entZ (l.take k) = 0)) (fun _ v _ => l.length - (intOf v).toNat)
  case atStart => exact ⟨0, _, Nat.zero_le _, rfl, rfl, World.ownsRow_nil _ _ _ _, Below.refl _ _, rfl⟩
  case round =>
    obtain ⟨k, V, hk, rfl, rfl, HO, HB, HZK⟩ := hrel
    by_cases hkn : k < l.length
    · have hd : decide ((k : Int) < (l.length : Int)) = true := decide_eq_true (by omega)
      have HBW := Lib.hid (below_thenE HB1.out HB.out)
      obtain ⟨b, off, rfl, hb, hcc⟩ := (HR.out wr HBW.out) (by omega)
      have HRG := Lib.hid (hcc k l[k] (List.getElem?_eq_getElem hkn))
      have HMEM : Hid (l[k] ∈ l) := List.getElem_mem hkn
      have HEP : Hid (entP ins outs l (k + 1) = entP ins outs l k ++ (if takM ins outs (metV l[k]).p ((metV l[k]).k == 1) = true then [((k : Nat) : Int)] else [])) := by show _ = _; rw [entP_succ]; unfold entS; rw [List.getElem?_eq_getElem hkn]
      have HLN : Hid ((entP ins outs l k).length ≤ k) := entP_len ins outs l k
      have HX2 := Lib.hid (boxE_row wr l[k])
      have hb01 := boxE_below l[k].cells (Below.refl wr.heap.size wr) (Nat.le_refl _)
      have HB2 := Lib.hid (HB.out.trans (hb01.mono HB.out.size))
      have HO2 := Lib.hid (own_keepP HO.out hb01)
      have HPS := Lib.hid (metV_sz l[k])
      have HZS := Lib.hid (entZ_succ l k hkn HZK.out)
      have HZA := Lib.hid (entZ_at l k hkn HZK.out)
      have HLI := Lib.hid (HME.out l[k] HMEM.out _ (below_thenE HB1.out HB2.out))
      generalize l[k] = E at *
      have H17 := Lib.hid (ent_size E)
      have HON := Lib.hid (ent_one E)
      have HIE : Hid ((Tryz.prog.info? 32).map (·.size) = some E.cellsL.length) := info_entE
      rw [← ent_cells] at H17 HON HX2 HB2 HO2 HLI
      generalize E.cellsL = EL at *
      clear hcc hb01 HO HB
      go_upto_region 5 with (first | (refine wpList_load_mid rfl 32 (.tmp 17) rfl b (off + k * 17) rfl EL _ HRG.out Tryz.underlying32 rfl HIE.out ?_) | (refine wpList_store_ent EL.toArray rfl (.tmp 8) (.tmp 18) rfl rfl rfl H17.out HON.out ?_))
      generalize wr.heap.size = gx at *
      generalize boxE wr EL.toArray = W1 at *
      have HIA : Hid ((Tryz.prog.info? 32).map (·.size) = some EL.toArray.size) := by show _ = _; rw [HIE.out, List.size_toArray]
      clear HRG H17 HON HIE
      go_wp2_with (refine wpList_load_row rfl 32 (.tmp 8) rfl gx rfl 32 _ (0, 0) _ HX2.out Tryz.underlying32 rfl HIA.out ?_)
      refine HLI.out.mono ?_; rintro e w2 ⟨rfl, hb2⟩
      unfold MeT.val
      have HB3 := Lib.hid (HB2.out.trans (hb2.mono HB2.out.size))
      have HO3 := Lib.hid (own_keepP HO2.out hb2)
      clear hb2 HLI HX2 HIA HO2 HB2
      generalize metV E = M at *
      obtain ⟨mp, mk, mm, mu, mg, mt, ma, mz⟩ := M
      dsimp only at HEP HPS HZS HZA ⊢
      obtain ⟨w3, hw3⟩ : ∃ w3, w3 = w2.alloc (.cells #[.int .i64 mk, .int .u32 mm, .int .u32 mu, .int .u32 mg, .int .i64 mt, .int .i64 ma, .string ⟨#[]⟩] 71) := ⟨_, rfl⟩
      have hb3 : Below w2.heap.size w2 w3 := by rw [hw3]; exact below_alP w2 _
      have HN4 : Hid (w3.heap[w2.heap.size]? = some (.cells #[.int .i64 mk, .int .u32 mm, .int .u32 mu, .int .u32 mg, .int .i64 mt, .int .i64 ma, .string ⟨#[]⟩] 71 (0, 0))) := by show _ = _; rw [hw3]; exact heap_alloc_new w2 _
      have HB4 := Lib.hid (HB3.out.trans (hb3.mono HB3.out.size))
      have HO4 := Lib.hid (own_keepP HO3.out hb3)
      have HW3 := Lib.hid hw3
      clear hw3 hb3 HB3 HO3
      by_cases hz : mz = 0
      case neg =>
        have bz : (mz != 0) = true := bne_iff_ne.2 hz
        have HBE := Lib.hid (below_thenE HB1.out HB4.out)
        clear HO4 HEP
        go_wp2_with fail
        rw [← HW3.out]
        go_ret2
        exact .inl ⟨by rw [HZA.out hz]; exact hz, by rw [HZA.out hz]; rfl, HBE.out⟩
      subst hz
      have HZ9 : Hid (entZ (l.take (k + 1)) = 0) := HZS.out rfl
      clear HZS HZA
      have HF4 := Lib.hid ((HB4.out.block _ (lt_of_heapP HX1.out)).trans HX1.out)
      have HTK := Lib.hid (filTakes_any _ ins outs mp mk mm mu mg mt ma ⟨#[]⟩ (by have : mp.size ≤ 65535 := HPS.out; omega) w3 (HFK.out w3 (below_thenE HB1.out HB4.out)))
      generalize hTB : takM ins outs mp (mk == 1) = TB at *
      clear hTB
      go_upto_region 8 with fail
      rw [← HW3.out]
      clear HW3
      generalize w2.heap.size = gn at *
      go_wp2_with (first | (refine wpList_load_row rfl 36 (.tmp 2) rfl w.heap.size rfl 36 _ (0, 0) _ HF4.out Tryz.underlying36 rfl info_fil ?_) | (refine wpList_load_row rfl 71 (.tmp 10) rfl gn rfl 71 _ (0, 0) _ HN4.out Tryz.underlying71 rfl info_nodeM ?_))
      refine HTK.out.mono ?_; rintro e w5 ⟨rfl, hb5⟩
      have HB5 := Lib.hid (HB4.out.trans (hb5.mono HB4.out.size))
      have HO5 := Lib.hid (own_keepP HO4.out hb5)
      clear hb5 HTK HB4 HO4 HN4 HF4
      cases TB with
      | false =>
        have HE2 : Hid (entP ins outs l (k + 1) = entP ins outs l k) := by show _ = _; rw [HEP.out]; simp
        have HO6 : Hid (w5.ownsRow w1.heap.size 3 1 V (entP ins outs l (k + 1)).length ((entP ins outs l (k + 1)).map (Value.int .i64))) := by show World.ownsRow _ _ _ _ _ _ _; rw [HE2.out]; exact HO5.out
        clear HEP HE2 HO5
        go_wp2_with fail
        go_roundw
        case rel => exact ⟨k + 1, _, by omega, rfl, by go_num, HO6, HB5, HZ9⟩
        case measure => simp [intOf]; omega
      | true =>
        have HE2 : Hid (entP ins outs l (k + 1) = entP ins outs l k ++ [((k : Nat) : Int)]) := by show _ = _; rw [HEP.out]; simp
        have hba := below_alP w5 (.cells #[.int .i64 (k : Nat)] 3)
        have HO7 := Lib.hid (own_keepP HO5.out hba)
        have HB7 := Lib.hid (HB5.out.trans (hba.mono HB5.out.size))
        have HNW := Lib.hid (int_news w5 (k : Nat))
        have HG7 : Hid (w1.heap.size ≤ (w5.alloc (.cells #[.int .i64 (k : Nat)] 3)).heap.size) := HB7.out.size
        generalize entP ins outs l k = IL at *
        clear HEP hba HO5 HB5
        go_wp2_with (at_builtin; refine wpList_append_own _ rfl _ _ 45 rfl w1.heap.size 3 i0 (.int .i64 0) 1 8 Tryz.underlying45 hi hz0 hz1 hz2 rfl (by decide) _ _ _ rfl HO7.out ⟨w5.heap.size, 0, none⟩ 1 1 [.int .i64 (k : Nat)] rfl ?qc1 ?qc2 ?qc3 ?qc4 ?qc5 ?qc6 ?_)
        case qc1 => rfl
        case qc2 => exact HNW.out
        case qc3 => intro u hu; simp at hu; subst hu; rfl
        case qc4 => have := HLN.out; unfold maxLen; omega
        case qc5 => have := HLN.out; omega
        case qc6 => exact HG7.out
        intro v8 w8 hown8 hgrow8 _
        have HO8 : Hid (w8.ownsRow w1.heap.size 3 1 v8 (entP ins outs l (k + 1)).length ((entP ins outs l (k + 1)).map (Value.int .i64))) := by
          show World.ownsRow _ _ _ _ _ _ _
          rw [HE2.out, List.length_append, List.map_append]
          exact hown8
        have HB8 : Hid (Below w1.heap.size w1 w8) := HB7.out.grown hgrow8 HB7.out.size (fun z hz => by have := (HO7.out.lt z hz).1; omega)
        clear hown8 hgrow8 HO7 HB7 HNW HG7 HE2
        go_wp2_with fail
        go_roundw
        case rel => exact ⟨k + 1, _, by omega, rfl, by go_num, HO8, HB8, HZ9⟩
        case measure => simp [intOf]; omega
    · obtain rfl : k = l.length := by omega
      have hd : decide ((l.length : Int) < (l.length : Int)) = false := decide_eq_false (by omega)
      obtain ⟨A5, c5, rfl, htx, hnw⟩ := ints_own2 HO.out
      have HNW := Lib.hid (fun a ha => Nat.le_trans (Nat.le_of_lt HG1.out) (hnw a ha))
      have HTI := Lib.hid htx
      have HBE := Lib.hid (below_thenE HB1.out HB.out)
      clear HO htx hnw
      go_wp2_with fail
      go_ret2
      exact .inr ⟨by have h := HZK.out; rw [List.take_length] at h; exact h, A5, c5, rfl, HTI.out, HNW.out, HBE.out⟩
end Go.Proofs.YtjnoapbddifcpaaGreatDoor
