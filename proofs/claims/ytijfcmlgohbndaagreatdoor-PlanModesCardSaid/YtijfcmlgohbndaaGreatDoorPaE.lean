/-
  Plan: what becomes of each entry.
-/
import Derived.Test.YtijfcmlgohbndaaGreatDoorPkBJ
import Derived.Deep.RegionHeld3
import Derived.Deep.DeepCutAuto
import Derived.Deep.CutRange
namespace Go.Proofs.YtijfcmlgohbndaaGreatDoor
set_option maxRecDepth 100000
set_option linter.unusedSimpArgs false
set_option linter.unusedVariables false
open Go.RowKit Go.Joins Go.Deep
open Go.Lib hiding intOf
noncomputable def ofSt (ins outs : List (List Atm)) (t : List Itm) (E : Ent) : Int :=
  match plcO t (metV E).p with
  | some i => (match t[i]? with | some X => if takM ins outs X.s (X.k == 1) = true then (cmpV E X).1 else 0 | none => 0)
  | none => 0
noncomputable def ofA (mode : Int) (ins outs : List (List Atm)) (t : List Itm) (k : Nat) (E : Ent) : Act3 :=
  ⟨fatI mode (ofSt ins outs t E), (k : Nat), if fatI mode (ofSt ins outs t E) = 2 then plcI t (metV E).p else -1⟩
noncomputable def ofL (mode : Int) (ins outs : List (List Atm)) (t : List Itm) (l : List Ent) : List Act3 := l.mapIdx (ofA mode ins outs t)
theorem ofL_len (mode : Int) (ins outs : List (List Atm)) (t : List Itm) (l : List Ent) : (ofL mode ins outs t l).length = l.length := by simp [ofL]
theorem ofL_snoc (mode : Int) (ins outs : List (List Atm)) (t : List Itm) (l : List Ent) (E : Ent) : ofL mode ins outs t (l ++ [E]) = ofL mode ins outs t l ++ [ofA mode ins outs t l.length E] := by
  unfold ofL
  rw [List.mapIdx_concat]
theorem st_cases (ins outs : List (List Atm)) (t : List Itm) (E : Ent) : ∃ (T : Bool) (ST : Int), ST = ofSt ins outs t E ∧ ((plcI t (metV E).p = -1 ∧ T = false ∧ ST = 0) ∨ ∃ (i : Nat) (X : Itm), plcI t (metV E).p = (i : Nat) ∧ t[i]? = some X ∧ T = takM ins outs X.s (X.k == 1) ∧ ST = if T = true then (cmpV E X).1 else 0) := by
  unfold ofSt plcI
  cases h : plcO t (metV E).p with
  | none => exact ⟨false, _, rfl, .inl ⟨rfl, rfl, rfl⟩⟩
  | some i =>
    have hi := plcO_lt h
    simp only [List.getElem?_eq_getElem hi]
    exact ⟨takM ins outs t[i].s (t[i].k == 1), _, rfl, .inr ⟨i, t[i], rfl, List.getElem?_eq_getElem hi, rfl, rfl⟩⟩
theorem range_of_row {w : World} {g : Nat} {L : List Value} {T : TypeId} (h : w.heap[g]? = some (.cells L.toArray T (0, 0))) : w.rangeAt g 0 L := fun j v hv => by
  rw [Nat.zero_add, cell_of_row _ _ j _ _ _ h]
  simpa using hv
theorem items_range {w : World} {b off : Nat} {l : List Itm} (h : Itms w (some ⟨b, off, none⟩) l) (k : Nat) (x : Itm) (hx : l[k]? = some x) : w.rangeAt b (off + k * 8) x.cellsL := h.range k x hx
/-- A row of actions. -/
def RowQ (w : World) (B : Nat) (v : Value) (l : List Act3) : Prop := w.ownsRow B 41 3 v l.length (cellsQ l)
/-- What ofEntries answers. -/
def OfR (w : World) (mode : Int) (ins outs : List (List Atm)) (t : List Itm) (l : List Ent) (e : Ending) (w' : World) : Prop :=
  (∃ z, z ≠ 0 ∧ e = .returned (.tuple #[.slice none 0 0, .int .i64 z]) ∧ Below w.heap.size w w') ∨
  (∃ v, (∀ E ∈ l, (metV E).z = 0) ∧ e = .returned (.tuple #[v, .int .i64 0]) ∧ RowQ w' w.heap.size v (ofL mode ins outs t l) ∧ Below w.heap.size w w')
set_option maxHeartbeats 32000000 in
theorem ofEnt_any (mode : Int) (A AT : Option Addr) (c cT : Nat) (l : List Ent) (t : List Itm) (V : Value) (ins outs : List (List Atm)) (w : World) (hR : Ents w A l) (hT : Itms w AT t) (hl : l.length ≤ 1000) (ht : t.length ≤ 1000) (hs : ∀ x ∈ t, x.s.size ≤ 100000 ∧ x.d.size ≤ 100000) (hL : LightL l) (hU : Upper w) (hE : Env w) (hF : FilK w V ins outs) :
    Calls Tryz.prog 19 #[.int .i64 mode, .slice A l.length c, .slice AT t.length cT, V] w (OfR w mode ins outs t l) := by
  obtain ⟨i0, hi, hz0, hz1, hz2⟩ := partsP
  have hif := info_fil
  have hir := info_item
  have hFK := hF
  obtain ⟨⟨FA, fa, FB, fb, rfl, _⟩, _, _, _⟩ := hFK
  obtain ⟨w1, hw1⟩ : ∃ w1, w1 = w.alloc (.cells #[.slice FA ins.length fa, .slice FB outs.length fb] 31) := ⟨_, rfl⟩
  have hb1 : Below w.heap.size w w1 := by rw [hw1]; exact below_alP w _
  have HX1 : Hid (w1.heap[w.heap.size]? = some (.cells #[.slice FA ins.length fa, .slice FB outs.length fb] 31 (0, 0))) := by show _ = _; rw [hw1]; exact heap_alloc_new w _
  have HP := Lib.hid (match_anyP A AT c cT l t w1 (hR.below hb1) (hT.below hb1) hl ht (fun x hx => (hs x hx).1) hL (hU.below hb1) (hE.below hb1))
  have HR := Lib.hid (fun w2 (hb : Below w.heap.size w w2) => hR.below hb)
  have HT := Lib.hid (fun w2 (hb : Below w.heap.size w w2) => hT.below hb)
  have HFK := Lib.hid (fun w2 (hb : Below w.heap.size w w2) => hF.below hb)
  have HTB := Lib.hid (fun w2 (hb : Below w.heap.size w w2) => And.intro (hU.below hb) (hE.below hb))
  have HS := Lib.hid hs
  have HL := Lib.hid hL
  have HB1 := Lib.hid hb1
  have HW1 := Lib.hid hw1
  clear hR hT hL hU hE hF hs hw1 hb1
  generalize ins.length = ni at *
  generalize outs.length = no at *
  go_enter Tryz.func19, Tryz.ntmps19
  go_upto_region 1 with fail
  rw [← HW1.out]
  clear HW1
  go_wp2_with fail
  refine HP.out.mono ?_; rintro e w2 hout
  clear HP
  rcases hout with ⟨z, hz, rfl, hb2⟩ | ⟨A2, c2, hzz, rfl, hfi, hb2⟩
  · have bz : (z != 0) = true := bne_iff_ne.2 hz
    have HB2 := Lib.hid (below_thenE HB1.out hb2)
    clear hb2
    go_wp2_with fail
    go_ret2
    exact .inl ⟨z, hz, rfl, HB2.out⟩
  have HZZ := Lib.hid hzz
  have HFI := Lib.hid (fun w3 (hb : Below w2.heap.size w2 w3) => hfi.below hb)
  have HX2 := Lib.hid ((hb2.block _ (lt_of_heapP HX1.out)).trans HX1.out)
  have HB2 := Lib.hid (below_thenE HB1.out hb2)
  have HG2 : Hid (w.heap.size < w2.heap.size) := lt_of_heapP HX2.out
  clear hzz hfi hb2 HX1 HB1
  go_wp2_with fail
  go_loopw [12, 29] (fun v12 v29 wr => ∃ (k : Nat) (V : Value), k ≤ l.length ∧ V = v12 ∧ v29 = .int .i64 (k : Nat) ∧ Hid (RowQ wr w2.heap.size V (ofL mode ins outs t (l.take k))) ∧ Hid (Below w2.heap.size w2 wr)) (fun _ v _ => l.length - (intOf v).toNat)
  case atStart => exact ⟨0, _, Nat.zero_le _, rfl, rfl, World.ownsRow_nil _ _ _ _, Below.refl _ _⟩
  case round =>
    obtain ⟨k, V, hk, rfl, rfl, HO, HB⟩ := hrel
    by_cases hkn : k < l.length
    · have hd : decide ((k : Int) < (l.length : Int)) = true := decide_eq_true (by omega)
      have HBW := Lib.hid (below_thenE HB2.out HB.out)
      obtain ⟨b, off, rfl, hb, hcc⟩ := (HR.out wr HBW.out) (by omega)
      have HRG := Lib.hid (hcc k l[k] (List.getElem?_eq_getElem hkn))
      have HMEM : Hid (l[k] ∈ l) := List.getElem_mem hkn
      have HTK : Hid (l.take (k + 1) = l.take k ++ [l[k]]) := List.take_succ_eq_append_getElem hkn
      have HTL : Hid ((l.take k).length = k) := by show _ = _; rw [List.length_take]; omega
      have hmt : (matL l t)[k]? = some (plcI t (metV l[k]).p) := by unfold matL pthL; simp [List.getElem?_eq_getElem hkn]
      obtain ⟨b2, off2, rfl, hb3, hci⟩ := (HFI.out wr HB.out) (by simp [matL, pthL_len]; omega)
      have hfx := hci k _ hmt
      have HX1 := Lib.hid (boxE_row wr l[k])
      have hb01 := boxE_below l[k].cells (Below.refl wr.heap.size wr) (Nat.le_refl _)
      have HB1 := Lib.hid (HB.out.trans (hb01.mono HB.out.size))
      have HO1 := Lib.hid (own_keepP HO.out hb01)
      have hfc := (hb01.cell (p := ⟨b2, off2 + k, none⟩) hb3).trans hfx
      generalize l[k] = E at *
      have H17 := Lib.hid (ent_size E)
      have HON := Lib.hid (ent_one E)
      have HIE : Hid ((Tryz.prog.info? 51).map (·.size) = some E.cellsL.length) := info_entE
      have HCM := Lib.hid (fun X (hX : X ∈ t) w3 (hb : Below w.heap.size w w3) => compare_any E X (HL.out E HMEM.out).1 (HL.out E HMEM.out).2 (by have := (HS.out X hX).2; omega) w3 (HTB.out w3 hb).1 (HTB.out w3 hb).2)
      rw [← ent_cells] at H17 HON HX1 HB1 HO1 hfc
      simp only [← ent_cells] at HCM
      generalize hEL : E.cellsL = EL at *
      clear hEL
      have hki : (k : Int) < (l.length : Int) := by omega
      clear hcc hb01 HO hci hmt hfx
      go_upto_region 8 with (first | (refine wpList_load_mid rfl 51 (.tmp 32) rfl b (off + k * 17) rfl EL _ HRG.out Tryz.underlying51 rfl HIE.out ?_) | (refine wpList_store_ent EL.toArray rfl (.tmp 14) (.tmp 33) rfl rfl rfl H17.out HON.out ?_))
      generalize wr.heap.size = gx at *
      generalize boxE wr EL.toArray = W1 at *
      clear HRG H17 HON
      go_quiet (fail)
      go_upto_region 9 with fail
      have HBQ := Lib.hid (below_drewN HB1.out nq)
      have HOQ : Hid (RowQ (W1.drewN nq) w2.heap.size V (ofL mode ins outs t (l.take k))) := HO1.out
      have HXE : Hid ((W1.drewN nq).heap[gx]? = some (.cells EL.toArray 51 (0, 0))) := HX1.out
      clear HB1 HO1 HX1 hfc
      generalize W1.drewN nq = W2 at *
      generalize hfi2 : plcI t (metV E).p = FI at *
      obtain ⟨T, ST, hcase⟩ := st_cases ins outs t E
      rw [hfi2] at hcase
      obtain ⟨hst, hcase⟩ := hcase
      have HCS := Lib.hid hcase
      have HSTE := Lib.hid hst
      have HFE := Lib.hid hfi2
      clear hcase hst hfi2
      go_cut [29, 47] from 30 to 71 (fun v29 v wx => v29 = .int .i64 (k : Nat) ∧ v = .bool T ∧ Hid (Below W2.heap.size W2 wx))
      case first =>
        rcases HCS.out with ⟨hf, hT, _⟩ | ⟨i, X, hf, hit, hT, _⟩
        · subst hf hT
          clear HCS HSTE HFE
          go_wp2_with fail
          go_quiet (fail)
          go_wp2_with fail
          go_meet
          exact ⟨rfl, rfl, below_drewN (Below.refl _ _) _⟩
        · subst hf
          have hil : i < t.length := (List.getElem?_eq_some_iff.1 hit).1
          have hge : decide ((0 : Int) ≤ (i : Nat)) = true := decide_eq_true (by omega)
          have hge2 : (0 : Int) ≤ ((i : Nat) : Int) := by omega
          have hlt : ((i : Nat) : Int) < (t.length : Int) := by omega
          obtain ⟨b3, off3, rfl, hb4, hcx⟩ := (HT.out W2 (below_thenE HB2.out HBQ.out)) (by omega)
          have hrx := items_range (HT.out W2 (below_thenE HB2.out HBQ.out)) i X hit
          have HXM : Hid (X ∈ t) := List.mem_of_getElem? hit
          have HTK := Lib.hid (fun w3 (hb : Below W2.heap.size W2 w3) => planTakes_any _ ins outs X (HS.out X HXM.out).1 w3 (HFK.out w3 (below_thenE (below_thenE HB2.out HBQ.out) hb)))
          rw [← hT] at HTK
          have hS0 : (fun ww => Below w2.heap.size w2 ww ∧ ww.rangeAt w.heap.size 0 [.slice FA ni fa, .slice FB no fb] ∧ ww.rangeAt b3 (off3 + i * 8) X.cellsL) W2.drew := ⟨Below.drew HBQ.out, range_of_row ((HBQ.out.block _ (lt_of_heapP HX2.out)).trans HX2.out), hrx⟩
          have HBD : Hid (Below W2.heap.size W2 W2.drew) := (Below.refl _ _).drew
          have hlt3 : b3 < W2.heap.size := hb4
          have HXC : Hid (X.cellsL.toArray = X.cells) := rfl
          have HIX : Hid ((Tryz.prog.info? 47).map (·.size) = some X.cellsL.length) := info_item
          have HIF : Hid ((Tryz.prog.info? 31).map (·.size) = some [Value.slice FA ni fa, Value.slice FB no fb].length) := info_fil
          clear hcx hrx HCS HSTE HFE hT
          refine wp_region_held_drew (S := fun ww => Below w2.heap.size w2 ww ∧ ww.rangeAt w.heap.size 0 [.slice FA ni fa, .slice FB no fb] ∧ ww.rangeAt b3 (off3 + i * 8) X.cellsL) (by kernel_rfl) hS0 (fun hSA => ?_)
          clear hS0
          generalize hwd : W2.drew = q0 at *
          generalize X.cellsL = XL at *
          generalize X.cells = XC at *
          refine wpAnyH_take (i := 0) (v := .int .i64 (i : Nat)) rfl (by kernel_rfl) (by kernel_rfl) (by kernel_rfl) (fun _ _ _ h => h) (Or.inl ⟨by kernel_rfl, ?_⟩) (by assumption) ?_
          · intro ww hSw
            clear hSw
            go_simp
            all_goals (try omega)
            all_goals (try assumption)
            all_goals (try rfl)
          try simp only [Act.put, List.setIfInBounds_toArray, List.set_cons_zero, List.set_cons_succ, List.getElem_toArray, List.getElem_cons_succ, List.getElem_cons_zero]
          refine wpAnyH_take (i := 1) (v := .bool true) rfl (by kernel_rfl) (by kernel_rfl) (by kernel_rfl) (fun _ _ _ h => h) (Or.inl ⟨by kernel_rfl, ?_⟩) (by assumption) ?_
          · intro ww hSw
            clear hSw
            go_simp
            all_goals (try omega)
            all_goals (try assumption)
            all_goals (try rfl)
          try simp only [Act.put, List.setIfInBounds_toArray, List.set_cons_zero, List.set_cons_succ, List.getElem_toArray, List.getElem_cons_succ, List.getElem_cons_zero]
          refine wpAnyH_take (i := 2) (v := .bool true) rfl (by kernel_rfl) (by kernel_rfl) (by kernel_rfl) (fun _ _ _ h => h) (Or.inl ⟨by kernel_rfl, ?_⟩) (by assumption) ?_
          · intro ww hSw
            clear hSw
            go_simp
            all_goals (try omega)
            all_goals (try assumption)
            all_goals (try rfl)
          try simp only [Act.put, List.setIfInBounds_toArray, List.set_cons_zero, List.set_cons_succ, List.getElem_toArray, List.getElem_cons_succ, List.getElem_cons_zero]
          refine wpAnyH_take (i := 3) (v := .agg ([Value.slice FA ni fa, Value.slice FB no fb]).toArray) rfl (by kernel_rfl) (by kernel_rfl) (by kernel_rfl) (fun _ _ _ h => h) (yieldsIf_load_mid (by kernel_rfl) 31 (.tmp 7) rfl (w.heap.size) (0) rfl ([Value.slice FA ni fa, Value.slice FB no fb]) _ (fun ww h => h.2.1) Tryz.underlying31 rfl HIF.out) (by assumption) ?_
          try simp only [Act.put, List.setIfInBounds_toArray, List.set_cons_zero, List.set_cons_succ, List.getElem_toArray, List.getElem_cons_succ, List.getElem_cons_zero]
          refine wpAnyH_take (i := 4) (v := .slice (some ⟨b3, off3, none⟩) t.length cT) rfl (by kernel_rfl) (by kernel_rfl) (by kernel_rfl) (fun _ _ _ h => h) (Or.inl ⟨by kernel_rfl, ?_⟩) (by assumption) ?_
          · intro ww hSw
            clear hSw
            go_simp
            all_goals (try omega)
            all_goals (try assumption)
            all_goals (try rfl)
          try simp only [Act.put, List.setIfInBounds_toArray, List.set_cons_zero, List.set_cons_succ, List.getElem_toArray, List.getElem_cons_succ, List.getElem_cons_zero]
          refine wpAnyH_take (i := 5) (v := .int .i64 (i : Nat)) rfl (by kernel_rfl) (by kernel_rfl) (by kernel_rfl) (fun _ _ _ h => h) (Or.inl ⟨by kernel_rfl, ?_⟩) (by assumption) ?_
          · intro ww hSw
            clear hSw
            go_simp
            all_goals (try omega)
            all_goals (try assumption)
            all_goals (try rfl)
          try simp only [Act.put, List.setIfInBounds_toArray, List.set_cons_zero, List.set_cons_succ, List.getElem_toArray, List.getElem_cons_succ, List.getElem_cons_zero]
          refine wpAnyH_take (i := 6) (v := .pointer (some ⟨b3, off3 + i * 8, none⟩)) rfl (by kernel_rfl) (by kernel_rfl) (by kernel_rfl) (fun _ _ _ h => h) (Or.inl ⟨by kernel_rfl, ?_⟩) (by assumption) ?_
          · intro ww hSw
            clear hSw
            go_simp
            all_goals (try omega)
            all_goals (try assumption)
            all_goals (try rfl)
          try simp only [Act.put, List.setIfInBounds_toArray, List.set_cons_zero, List.set_cons_succ, List.getElem_toArray, List.getElem_cons_succ, List.getElem_cons_zero]
          refine wpAnyH_take (i := 7) (v := .agg (XL).toArray) rfl (by kernel_rfl) (by kernel_rfl) (by kernel_rfl) (fun _ _ _ h => h) (yieldsIf_load_mid (by kernel_rfl) 47 (.tmp 44) rfl (b3) (off3 + i * 8) rfl (XL) _ (fun ww h => h.2.2) Tryz.underlying47 rfl HIX.out) (by assumption) ?_
          try simp only [Act.put, List.setIfInBounds_toArray, List.set_cons_zero, List.set_cons_succ, List.getElem_toArray, List.getElem_cons_succ, List.getElem_cons_zero]
          refine wpAnyH_ready (rs := [8]) (by kernel_rfl) (by simp) ?_
          refine AllReadyH.cons rfl (fun K hK => ?_) AllReadyH.nil
          go_simp
          rw [HXC.out]
          refine (HTK.out _ HBD.out).mono ?_
          rintro e q1 ⟨rfl, hbq1⟩
          have hSq1 : (fun ww => Below w2.heap.size w2 ww ∧ ww.rangeAt w.heap.size 0 [.slice FA ni fa, .slice FB no fb] ∧ ww.rangeAt b3 (off3 + i * 8) XL) q1 := ⟨hSA.1.trans (hbq1.mono hSA.1.size), fun j v hv => (hbq1.cell (p := ⟨w.heap.size, 0 + j, none⟩) (Nat.lt_of_lt_of_le HG2.out hSA.1.size)).trans (hSA.2.1 j v hv), fun j v hv => (hbq1.cell (p := ⟨b3, off3 + i * 8 + j, none⟩) (Nat.lt_of_lt_of_le hlt3 HBD.out.size)).trans (hSA.2.2 j v hv)⟩
          have HBR := Lib.hid (HBD.out.trans (hbq1.mono HBD.out.size))
          refine hK.out _ _ hSq1 (fun hTq1 => ?_)
          clear hK K
          try simp only [Act.put, List.setIfInBounds_toArray, List.set_cons_zero, List.set_cons_succ, List.getElem_toArray, List.getElem_cons_succ, List.getElem_cons_zero]
          refine wpAnyH_take (i := 9) (v := .bool T) rfl (by kernel_rfl) (by kernel_rfl) (by kernel_rfl) (fun _ _ _ h => h) (Or.inl ⟨by kernel_rfl, ?_⟩) (by assumption) ?_
          · intro ww hSw
            clear hSw
            go_simp
            all_goals (try omega)
            all_goals (try assumption)
            all_goals (try rfl)
          try simp only [Act.put, List.setIfInBounds_toArray, List.set_cons_zero, List.set_cons_succ, List.getElem_toArray, List.getElem_cons_succ, List.getElem_cons_zero]
          refine wpAnyH_done (by kernel_rfl) ?_ _
          go_wp2_with fail
          go_meet
          exact ⟨rfl, rfl, HBR.out⟩
      case rest =>
        obtain ⟨rfl, rfl, hbc⟩ := hcut
        have hbc := hbc.out
        have HXC := Lib.hid ((hbc.block _ (lt_of_heapP HXE.out)).trans HXE.out)
        have HOC : Hid (RowQ wc w2.heap.size V (ofL mode ins outs t (l.take k))) := own_keepP HOQ.out hbc
        have HBC := Lib.hid (HBQ.out.trans (hbc.mono HBQ.out.size))
        clear hbc HBQ HXE HOQ
        go_upto_if 47 with fail
        go_cut [15, 29] from 30 to 71 (fun v15 v29 wx => v15 = .int .i64 ST ∧ v29 = .int .i64 (k : Nat) ∧ Hid (Below wc.heap.size wc wx))
        case first =>
          cases T with
          | false =>
            have hst0 : ST = 0 := by
              rcases HCS.out with ⟨_, _, h⟩ | ⟨_, _, _, _, _, h⟩
              · exact h
              · exact h
            subst hst0
            clear HCS HSTE HFE HOC HXC
            go_wp2_with fail
            go_meet
            exact ⟨rfl, rfl, Below.refl _ _⟩
          | true =>
            obtain ⟨i, X, hf, hit, _, hST⟩ : ∃ (i : Nat) (X : Itm), FI = (i : Nat) ∧ t[i]? = some X ∧ true = takM ins outs X.s (X.k == 1) ∧ ST = (if true = true then (cmpV E X).1 else 0) := by
              rcases HCS.out with ⟨_, h, _⟩ | h
              · cases h
              · exact h
            rw [if_pos rfl] at hST
            subst hf
            have hil : i < t.length := (List.getElem?_eq_some_iff.1 hit).1
            have hge2 : (0 : Int) ≤ ((i : Nat) : Int) := by omega
            have hlt : ((i : Nat) : Int) < (t.length : Int) := by omega
            have HBWC := Lib.hid (below_thenE HB2.out HBC.out)
            obtain ⟨b3, off3, rfl, hb4, hcx⟩ := (HT.out wc HBWC.out) (by omega)
            have hrx := items_range (HT.out wc HBWC.out) i X hit
            have HCX := Lib.hid (fun w3 (hb : Below wc.heap.size wc w3) => HCM.out X (List.mem_of_getElem? hit) w3 (below_thenE HBWC.out hb))
            have HST := Lib.hid hST
            generalize hCV : cmpV E X = CV at *
            clear hCV
            obtain ⟨cv1, cv2⟩ := CV
            have hS0 : (fun ww => Below w2.heap.size w2 ww ∧ ww.rangeAt gx 0 EL ∧ ww.rangeAt b3 (off3 + i * 8) X.cellsL) wc.drew := ⟨Below.drew HBC.out, range_of_row HXC.out, hrx⟩
            have HBD : Hid (Below wc.heap.size wc wc.drew) := (Below.refl _ _).drew
            have hlt3 : b3 < wc.heap.size := hb4
            have hltx : gx < wc.heap.size := lt_of_heapP HXC.out
            have HXCE : Hid (X.cellsL.toArray = X.cells) := rfl
            have HIX : Hid ((Tryz.prog.info? 47).map (·.size) = some X.cellsL.length) := info_item
            clear hcx hrx HCS HSTE HFE hST hit HCM HOC HXC
            go_upto_region 10 with fail
            refine wp_region_held_drew (S := fun ww => Below w2.heap.size w2 ww ∧ ww.rangeAt gx 0 EL ∧ ww.rangeAt b3 (off3 + i * 8) X.cellsL) (by kernel_rfl) hS0 (fun hSA => ?_)
            clear hS0
            generalize hwd : wc.drew = q0 at *
            generalize X.cellsL = XL at *
            generalize X.cells = XC at *
            refine wpAnyH_take (i := 0) (v := .agg (EL).toArray) rfl (by kernel_rfl) (by kernel_rfl) (by kernel_rfl) (fun _ _ _ h => h) (yieldsIf_load_mid (by kernel_rfl) 51 (.tmp 14) rfl (gx) (0) rfl (EL) _ (fun ww h => h.2.1) Tryz.underlying51 rfl HIE.out) (by assumption) ?_
            try simp only [Act.put, List.setIfInBounds_toArray, List.set_cons_zero, List.set_cons_succ, List.getElem_toArray, List.getElem_cons_succ, List.getElem_cons_zero]
            refine wpAnyH_take (i := 1) (v := .slice (some ⟨b3, off3, none⟩) t.length cT) rfl (by kernel_rfl) (by kernel_rfl) (by kernel_rfl) (fun _ _ _ h => h) (Or.inl ⟨by kernel_rfl, ?_⟩) (by assumption) ?_
            · intro ww hSw
              clear hSw
              go_simp
              all_goals (try omega)
              all_goals (try assumption)
              all_goals (try rfl)
            try simp only [Act.put, List.setIfInBounds_toArray, List.set_cons_zero, List.set_cons_succ, List.getElem_toArray, List.getElem_cons_succ, List.getElem_cons_zero]
            refine wpAnyH_take (i := 2) (v := .int .i64 (i : Nat)) rfl (by kernel_rfl) (by kernel_rfl) (by kernel_rfl) (fun _ _ _ h => h) (Or.inl ⟨by kernel_rfl, ?_⟩) (by assumption) ?_
            · intro ww hSw
              clear hSw
              go_simp
              all_goals (try omega)
              all_goals (try assumption)
              all_goals (try rfl)
            try simp only [Act.put, List.setIfInBounds_toArray, List.set_cons_zero, List.set_cons_succ, List.getElem_toArray, List.getElem_cons_succ, List.getElem_cons_zero]
            refine wpAnyH_take (i := 3) (v := .pointer (some ⟨b3, off3 + i * 8, none⟩)) rfl (by kernel_rfl) (by kernel_rfl) (by kernel_rfl) (fun _ _ _ h => h) (Or.inl ⟨by kernel_rfl, ?_⟩) (by assumption) ?_
            · intro ww hSw
              clear hSw
              go_simp
              all_goals (try omega)
              all_goals (try assumption)
              all_goals (try rfl)
            try simp only [Act.put, List.setIfInBounds_toArray, List.set_cons_zero, List.set_cons_succ, List.getElem_toArray, List.getElem_cons_succ, List.getElem_cons_zero]
            refine wpAnyH_take (i := 4) (v := .agg (XL).toArray) rfl (by kernel_rfl) (by kernel_rfl) (by kernel_rfl) (fun _ _ _ h => h) (yieldsIf_load_mid (by kernel_rfl) 47 (.tmp 52) rfl (b3) (off3 + i * 8) rfl (XL) _ (fun ww h => h.2.2) Tryz.underlying47 rfl HIX.out) (by assumption) ?_
            try simp only [Act.put, List.setIfInBounds_toArray, List.set_cons_zero, List.set_cons_succ, List.getElem_toArray, List.getElem_cons_succ, List.getElem_cons_zero]
            refine wpAnyH_ready (rs := [5]) (by kernel_rfl) (by simp) ?_
            refine AllReadyH.cons rfl (fun K hK => ?_) AllReadyH.nil
            go_simp
            rw [HXCE.out]
            refine (HCX.out _ HBD.out).mono ?_
            rintro e q1 ⟨rfl, hbq1⟩
            have hSq1 : (fun ww => Below w2.heap.size w2 ww ∧ ww.rangeAt gx 0 EL ∧ ww.rangeAt b3 (off3 + i * 8) XL) q1 := ⟨hSA.1.trans (hbq1.mono hSA.1.size), fun j v hv => (hbq1.cell (p := ⟨gx, 0 + j, none⟩) (Nat.lt_of_lt_of_le hltx HBD.out.size)).trans (hSA.2.1 j v hv), fun j v hv => (hbq1.cell (p := ⟨b3, off3 + i * 8 + j, none⟩) (Nat.lt_of_lt_of_le hlt3 HBD.out.size)).trans (hSA.2.2 j v hv)⟩
            have HBR := Lib.hid (HBD.out.trans (hbq1.mono HBD.out.size))
            refine hK.out _ _ hSq1 (fun hTq1 => ?_)
            clear hK K
            try simp only [Act.put, List.setIfInBounds_toArray, List.set_cons_zero, List.set_cons_succ, List.getElem_toArray, List.getElem_cons_succ, List.getElem_cons_zero]
            refine wpAnyH_take (i := 6) (v := .tuple #[.int .i64 cv1, .int .i64 cv2]) rfl (by kernel_rfl) (by kernel_rfl) (by kernel_rfl) (fun _ _ _ h => h) (Or.inl ⟨by kernel_rfl, ?_⟩) (by assumption) ?_
            · intro ww hSw
              clear hSw
              go_simp
              all_goals (try omega)
              all_goals (try assumption)
              all_goals (try rfl)
            try simp only [Act.put, List.setIfInBounds_toArray, List.set_cons_zero, List.set_cons_succ, List.getElem_toArray, List.getElem_cons_succ, List.getElem_cons_zero]
            refine wpAnyH_take (i := 7) (v := .int .i64 cv1) rfl (by kernel_rfl) (by kernel_rfl) (by kernel_rfl) (fun _ _ _ h => h) (Or.inl ⟨by kernel_rfl, ?_⟩) (by assumption) ?_
            · intro ww hSw
              clear hSw
              go_simp
              all_goals (try omega)
              all_goals (try assumption)
              all_goals (try rfl)
            try simp only [Act.put, List.setIfInBounds_toArray, List.set_cons_zero, List.set_cons_succ, List.getElem_toArray, List.getElem_cons_succ, List.getElem_cons_zero]
            refine wpAnyH_take (i := 8) (v := .int .i64 cv2) rfl (by kernel_rfl) (by kernel_rfl) (by kernel_rfl) (fun _ _ _ h => h) (Or.inl ⟨by kernel_rfl, ?_⟩) (by assumption) ?_
            · intro ww hSw
              clear hSw
              go_simp
              all_goals (try omega)
              all_goals (try assumption)
              all_goals (try rfl)
            try simp only [Act.put, List.setIfInBounds_toArray, List.set_cons_zero, List.set_cons_succ, List.getElem_toArray, List.getElem_cons_succ, List.getElem_cons_zero]
            refine wpAnyH_take (i := 9) (v := .int .i64 cv1) rfl (by kernel_rfl) (by kernel_rfl) (by kernel_rfl) (fun _ _ _ h => h) (Or.inl ⟨by kernel_rfl, ?_⟩) (by assumption) ?_
            · intro ww hSw
              clear hSw
              go_simp
              all_goals (try omega)
              all_goals (try assumption)
              all_goals (try rfl)
            try simp only [Act.put, List.setIfInBounds_toArray, List.set_cons_zero, List.set_cons_succ, List.getElem_toArray, List.getElem_cons_succ, List.getElem_cons_zero]
            refine wpAnyH_done (by kernel_rfl) ?_ _
            go_wp2_with fail
            go_meet
            exact ⟨by rw [HST.out], rfl, HBR.out⟩
        case rest =>
          obtain ⟨rfl, rfl, hbc⟩ := hcut
          have hbc := hbc.out
          have HOW := Lib.hid (own_keepP (HOC.out : World.ownsRow _ _ _ _ _ _ _) hbc)
          have HBD := Lib.hid (HBC.out.trans (hbc.mono HBC.out.size))
          have HA : Hid (ofL mode ins outs t (l.take (k + 1)) = ofL mode ins outs t (l.take k) ++ [⟨fatI mode ST, (k : Nat), if fatI mode ST = 2 then FI else -1⟩]) := by
            show _ = _
            rw [HTK.out, ofL_snoc, HTL.out]
            unfold ofA
            rw [← HSTE.out, HFE.out]
          have HLN : Hid ((ofL mode ins outs t (l.take k)).length = k) := by show _ = _; rw [ofL_len]; exact HTL.out
          have HFT := Lib.hid (fun w => fate_any mode ST w)
          clear hbc HOC HXC HBC HTK HTL HSTE HFE HCS HCM
          generalize ofL mode ins outs t (l.take k) = PL at *
          generalize fatI mode ST = FT at *
          go_upto_region 11 with fail
          go_wp2_with fail
          refine (HFT.out _).mono ?_; rintro e wx ⟨rfl, hwx⟩; subst hwx
          clear HFT
          have hna := heap_alloc_new wx (.cells #[.int .i64 FT, .int .i64 (k : Nat), .int .i64 (-1)] 41)
          have hba := below_alP wx (.cells #[.int .i64 FT, .int .i64 (k : Nat), .int .i64 (-1)] 41)
          have HBA := Lib.hid (HBD.out.trans (hba.mono HBD.out.size))
          have HOA := Lib.hid (own_keepP HOW.out hba)
          have HNA := Lib.hid hna
          have HGA : Hid (w2.heap.size ≤ wx.heap.size) := HBD.out.size
          have y0 := (cell_of_row _ _ 0 _ _ _ hna).trans (show _ = some (Value.int .i64 FT) from rfl)
          have y1 := (cell_of_row _ _ 1 _ _ _ hna).trans (show _ = some (Value.int .i64 (k : Nat)) from rfl)
          have y2 := (cell_of_row _ _ 2 _ _ _ hna).trans (show _ = some (Value.int .i64 (-1)) from rfl)
          have z2 := Lib.frozen_of_heap hna 2
          clear hna hba
          by_cases h2 : FT = 2
          · subst h2
            rw [if_pos rfl] at HA
            have HRS : Hid ((wx.alloc (.cells #[.int .i64 2, .int .i64 (k : Nat), .int .i64 FI] 41)).heap[wx.heap.size]? = some (.cells #[.int .i64 2, .int .i64 (k : Nat), .int .i64 FI] 41 (0, 0))) := heap_alloc_new wx _
            have HBS := Lib.hid (HBD.out.trans ((below_alP wx (.cells #[.int .i64 2, .int .i64 (k : Nat), .int .i64 FI] 41)).mono HBD.out.size))
            have HOS := Lib.hid (own_keepP HOW.out (below_alP wx (.cells #[.int .i64 2, .int .i64 (k : Nat), .int .i64 FI] 41)))
            clear HNA HBA HOA HOW HBD
            go_upto_region 14 with fail
            generalize wx.heap.size = ga at *
            generalize wx.alloc (.cells #[.int .i64 2, .int .i64 (k : Nat), .int .i64 FI] 41) = w5 at *
            clear y0 y1 y2 z2
            have y0 := (cell_of_row _ _ 0 _ _ _ HRS.out).trans (show _ = some (Value.int .i64 2) from rfl)
            have y1 := (cell_of_row _ _ 1 _ _ _ HRS.out).trans (show _ = some (Value.int .i64 (k : Nat)) from rfl)
            have y2 := (cell_of_row _ _ 2 _ _ _ HRS.out).trans (show _ = some (Value.int .i64 (FI)) from rfl)
            have HNW := Lib.hid (act_news w5 ⟨2, (k : Nat), FI⟩ 41)
            have HOO := Lib.hid (act_ones ⟨2, (k : Nat), FI⟩)
            have HO6 := Lib.hid (HOS.out.alloc (.cells #[.int .i64 2, .int .i64 (k : Nat), .int .i64 (FI)] 41))
            have HB6 := Lib.hid (HBS.out.trans ((below_alP w5 (.cells #[.int .i64 2, .int .i64 (k : Nat), .int .i64 (FI)] 41)).mono HBS.out.size))
            have HG6 : Hid (w2.heap.size ≤ (w5.alloc (.cells #[.int .i64 2, .int .i64 (k : Nat), .int .i64 (FI)] 41)).heap.size) := HB6.out.size
            simp only [Act3.cells, Act3.cellsL] at HNW HOO
            clear HRS HBS HOS
            go_wp2_with (at_builtin; refine wpList_append_own_at _ rfl (.tmp 67) (.tmp 69) _ rfl w2.heap.size 41 i0 (.agg #[.int .i64 0, .int .i64 0, .int .i64 0]) 3 24 Tryz.underlying35 hi hz0 hz1 hz2 rfl (by decide) V PL.length (cellsQ PL) rfl HO6.out ⟨w5.heap.size, 0, none⟩ 1 1 [.int .i64 2, .int .i64 (k : Nat), .int .i64 (FI)] rfl rfl ?c1 ?c2 ?c3 ?c4 ?c5 ?_)
            case c1 => exact HNW.out
            case c2 => exact HOO.out
            case c3 => have := HLN.out; unfold maxLen; omega
            case c4 => have := HLN.out; omega
            case c5 => exact HG6.out
            intro v8 w8 hown hgrow _ hfr
            have HO8 : Hid (RowQ w8 w2.heap.size v8 (ofL mode ins outs t (l.take (k + 1)))) := by
              show World.ownsRow _ _ _ _ _ _ _
              rw [HA.out, List.length_append, cellsQ_app]
              exact hown
            have HB8 : Hid (Below w2.heap.size w2 w8) := HB6.out.grown hgrow HB6.out.size (fun z hz => by have := (HO6.out.lt z hz).1; omega)
            clear hown hgrow hfr HO6 HB6 HG6 HNW HOO y0 y1 y2
            go_wp2_with fail
            go_roundw
            case rel => exact ⟨k + 1, _, by omega, rfl, by go_num, HO8, HB8⟩
            case measure => simp [intOf]; omega
          · have b2 : (FT == 2) = false := beq_eq_false_iff_ne.2 h2
            rw [if_neg h2] at HA
            go_upto_region 14 with fail
            generalize wx.heap.size = ga at *
            have HRS := HNA
            have HBS := HBA
            have HOS := HOA
            clear HNA HBA HOA HOW HBD
            generalize wx.alloc (.cells #[.int .i64 FT, .int .i64 (k : Nat), .int .i64 (-1)] 41) = w5 at *
            clear y0 y1 y2 z2
            have y0 := (cell_of_row _ _ 0 _ _ _ HRS.out).trans (show _ = some (Value.int .i64 FT) from rfl)
            have y1 := (cell_of_row _ _ 1 _ _ _ HRS.out).trans (show _ = some (Value.int .i64 (k : Nat)) from rfl)
            have y2 := (cell_of_row _ _ 2 _ _ _ HRS.out).trans (show _ = some (Value.int .i64 (-1)) from rfl)
            have HNW := Lib.hid (act_news w5 ⟨FT, (k : Nat), -1⟩ 41)
            have HOO := Lib.hid (act_ones ⟨FT, (k : Nat), -1⟩)
            have HO6 := Lib.hid (HOS.out.alloc (.cells #[.int .i64 FT, .int .i64 (k : Nat), .int .i64 (-1)] 41))
            have HB6 := Lib.hid (HBS.out.trans ((below_alP w5 (.cells #[.int .i64 FT, .int .i64 (k : Nat), .int .i64 (-1)] 41)).mono HBS.out.size))
            have HG6 : Hid (w2.heap.size ≤ (w5.alloc (.cells #[.int .i64 FT, .int .i64 (k : Nat), .int .i64 (-1)] 41)).heap.size) := HB6.out.size
            simp only [Act3.cells, Act3.cellsL] at HNW HOO
            clear HRS HBS HOS
            go_wp2_with (at_builtin; refine wpList_append_own_at _ rfl (.tmp 67) (.tmp 69) _ rfl w2.heap.size 41 i0 (.agg #[.int .i64 0, .int .i64 0, .int .i64 0]) 3 24 Tryz.underlying35 hi hz0 hz1 hz2 rfl (by decide) V PL.length (cellsQ PL) rfl HO6.out ⟨w5.heap.size, 0, none⟩ 1 1 [.int .i64 FT, .int .i64 (k : Nat), .int .i64 (-1)] rfl rfl ?c1 ?c2 ?c3 ?c4 ?c5 ?_)
            case c1 => exact HNW.out
            case c2 => exact HOO.out
            case c3 => have := HLN.out; unfold maxLen; omega
            case c4 => have := HLN.out; omega
            case c5 => exact HG6.out
            intro v8 w8 hown hgrow _ hfr
            have HO8 : Hid (RowQ w8 w2.heap.size v8 (ofL mode ins outs t (l.take (k + 1)))) := by
              show World.ownsRow _ _ _ _ _ _ _
              rw [HA.out, List.length_append, cellsQ_app]
              exact hown
            have HB8 : Hid (Below w2.heap.size w2 w8) := HB6.out.grown hgrow HB6.out.size (fun z hz => by have := (HO6.out.lt z hz).1; omega)
            clear hown hgrow hfr HO6 HB6 HG6 HNW HOO y0 y1 y2
            go_wp2_with fail
            go_roundw
            case rel => exact ⟨k + 1, _, by omega, rfl, by go_num, HO8, HB8⟩
            case measure => simp [intOf]; omega
    · obtain rfl : k = l.length := by omega
      have hd : decide ((l.length : Int) < (l.length : Int)) = false := decide_eq_false (by omega)
      have HOE := HO.out
      rw [List.take_length] at HOE
      have HOE := Lib.hid HOE
      have HBW := Lib.hid (below_thenE HB2.out HB.out)
      clear HO
      go_wp2_with fail
      go_ret2
      exact .inr ⟨V, HZZ.out, rfl, own_lowerP HOE.out HB2.out.size, HBW.out⟩
end Go.Proofs.YtijfcmlgohbndaaGreatDoor
