/-
  Plan: what is added.
  Filter: the entries that are meant.
  Plan: deletions.
-/
import Derived.Test.YtijfcmlgohbndaaGreatDoorPaE
import Derived.Test.YtijfcmlgohbndaaGreatDoorPkBJ

namespace Go.Proofs.YtijfcmlgohbndaaGreatDoor
set_option maxRecDepth 100000
set_option linter.unusedSimpArgs false
set_option linter.unusedVariables false
open Go.RowKit Go.Joins Go.Deep Go.WideMaps
open Go.Lib hiding intOf
/-! ### sets of paths -/
def hasQ (ks : List ByteArray) (p : ByteArray) : Bool := ks.any fun x => x.toList == p.toList
def setP (ks : List ByteArray) : DataW Unit := Maps.setOf (.agg []) (ks.map keyP)
theorem setP_snoc (ks : List ByteArray) (x : ByteArray) : setP (ks ++ [x]) = (setP ks).put (keyP x) (.agg []) := by
  unfold setP
  rw [List.map_append]
  exact Maps.setOf_snoc _ _ _
theorem setP_has (ks : List ByteArray) (p : ByteArray) : Maps.has (setP ks) (keyP p) = hasQ ks p := by
  unfold setP Maps.setOf hasQ
  rw [Maps.has_fold _ _ _ _ ⟨[], rfl⟩ (fun y hy => by obtain ⟨i, _, rfl⟩ := List.mem_map.1 hy; exact (show WideAt.IsKeyLit (keyP i) from trivial))]
  rw [show Maps.has (DataW.map [] : DataW Unit) (keyP p) = false from rfl, Bool.false_or, List.any_map]
  rw [Bool.eq_iff_iff, List.any_eq_true, List.any_eq_true]
  constructor
  · rintro ⟨y, hy, h⟩
    have := keyP_inj (WideAt.sameKey_eq (a := keyP y) (b := keyP p) h)
    exact ⟨y, hy, by rw [this]; simp⟩
  · rintro ⟨y, hy, h⟩
    have h2 := toListP_inj (eq_of_beq h)
    refine ⟨y, hy, ?_⟩
    show Lit.sameKey (keyP y) (keyP p) = true
    rw [h2]
    exact WideAt.sameKey_self (a := keyP p) trivial
/-! ### what is added -/
noncomputable def addS (ins outs : List (List Atm)) (ps : List ByteArray) (t : List Itm) (k : Nat) : List Act3 :=
  match t[k]? with
  | some X => if (!hasQ (ps ++ (t.take k).map Itm.s) X.s && takM ins outs X.s (X.k == 1)) = true then [⟨4, -1, (k : Nat)⟩] else []
  | none => []
noncomputable def addK (ins outs : List (List Atm)) (ps : List ByteArray) (t : List Itm) (k : Nat) : List Act3 := (List.range k).flatMap (addS ins outs ps t)
theorem addK_succ (ins outs : List (List Atm)) (ps : List ByteArray) (t : List Itm) (k : Nat) : addK ins outs ps t (k + 1) = addK ins outs ps t k ++ addS ins outs ps t k := by
  unfold addK
  rw [List.range_succ, List.flatMap_append]
  simp
theorem addS_forms (ins outs : List (List Atm)) (ps : List ByteArray) (t : List Itm) (k : Nat) : addS ins outs ps t k = [] ∨ addS ins outs ps t k = [⟨4, -1, (k : Nat)⟩] := by
  unfold addS
  split
  · split
    · exact .inr rfl
    · exact .inl rfl
  · exact .inl rfl
theorem addK_len (ins outs : List (List Atm)) (ps : List ByteArray) (t : List Itm) : ∀ k, (addK ins outs ps t k).length ≤ k
  | 0 => Nat.le_refl _
  | k + 1 => by
    have := addK_len ins outs ps t k
    rw [addK_succ, List.length_append]
    rcases addS_forms ins outs ps t k with h | h <;> rw [h] <;> simp <;> omega
theorem addK_all (ins outs : List (List Atm)) (ps : List ByteArray) (t : List Itm) : ∀ k, ∀ a ∈ addK ins outs ps t k, a.k = 4 ∧ a.e = -1 ∧ 0 ≤ a.i
  | 0, a, h => by cases h
  | k + 1, a, h => by
    rw [addK_succ, List.mem_append] at h
    rcases h with h | h
    · exact addK_all ins outs ps t k a h
    · rcases addS_forms ins outs ps t k with e | e
      · rw [e] at h; cases h
      · rw [e, List.mem_singleton] at h
        subst h
        exact ⟨rfl, rfl, by show (0 : Int) ≤ (k : Nat); omega⟩
/-- What additions answers. -/
def AddR (w : World) (ins outs : List (List Atm)) (t : List Itm) (l : List Ent) (e : Ending) (w' : World) : Prop :=
  (∃ z, z ≠ 0 ∧ e = .returned (.tuple #[.slice none 0 0, .int .i64 z]) ∧ Below w.heap.size w w') ∨
  (∃ v, e = .returned (.tuple #[v, .int .i64 0]) ∧ RowQ w' w.heap.size v (addK ins outs (pthL l) t t.length) ∧ Below w.heap.size w w')
set_option maxHeartbeats 32000000 in
theorem add_any (A AT : Option Addr) (c cT : Nat) (l : List Ent) (t : List Itm) (V : Value) (ins outs : List (List Atm)) (w : World) (hR : Ents w A l) (hT : Itms w AT t) (hl : l.length ≤ 1000) (ht : t.length ≤ 1000) (hs : ∀ x ∈ t, x.s.size ≤ 100000 ∧ x.d.size ≤ 100000) (hL : LightL l) (hU : Upper w) (hE : Env w) (hF : FilK w V ins outs) :
    Calls Tryz.prog 20 #[.slice A l.length c, .slice AT t.length cT, V] w (AddR w ins outs t l) := by
  have hmm := @run_makeMap Tryz.prog
  have hzu := zero_unitP
  obtain ⟨i0, hi, hz0, hz1, hz2⟩ := partsP
  have hif := info_fil
  have hir := info_item
  have hFK := hF
  obtain ⟨⟨FA, fa, FB, fb, rfl, _⟩, _, _, _⟩ := hFK
  obtain ⟨w1, hw1⟩ : ∃ w1, w1 = w.alloc (.cells #[.slice FA ins.length fa, .slice FB outs.length fb] 31) := ⟨_, rfl⟩
  have hb1 : Below w.heap.size w w1 := by rw [hw1]; exact below_alP w _
  have HX1 : Hid (w1.heap[w.heap.size]? = some (.cells #[.slice FA ins.length fa, .slice FB outs.length fb] 31 (0, 0))) := by show _ = _; rw [hw1]; exact heap_alloc_new w _
  have HP := Lib.hid (paths_any A c l w1 (hR.below hb1) hl hL (hU.below hb1) (hE.below hb1))
  have HT := Lib.hid (fun w2 (hb : Below w.heap.size w w2) => hT.below hb)
  have HFK := Lib.hid (fun w2 (hb : Below w.heap.size w w2) => hF.below hb)
  have HS := Lib.hid hs
  have HB1 := Lib.hid hb1
  have HW1 := Lib.hid hw1
  clear hR hT hL hU hE hF hs hw1 hb1
  generalize ins.length = ni at *
  generalize outs.length = no at *
  go_enter Tryz.func20, Tryz.ntmps20
  go_upto_region 1 with fail
  rw [← HW1.out]
  clear HW1
  go_wp2_with fail
  refine HP.out.mono ?_; rintro e w2 hout
  clear HP
  rcases hout with ⟨z, hz, rfl, hb2⟩ | ⟨A2, c2, hzz, rfl, htx, hb2⟩
  · have bz : (z != 0) = true := bne_iff_ne.2 hz
    have HB2 := Lib.hid (below_thenE HB1.out hb2)
    clear hb2
    go_wp2_with fail
    go_ret2
    exact .inl ⟨z, hz, rfl, HB2.out⟩
  have HTX := Lib.hid (fun w3 (hb : Below w2.heap.size w2 w3) => htx.below hb)
  have HX2 := Lib.hid ((hb2.block _ (lt_of_heapP HX1.out)).trans HX1.out)
  have HB2 := Lib.hid (below_thenE HB1.out hb2)
  have HG2 : Hid (w.heap.size < w2.heap.size) := lt_of_heapP HX2.out
  have HM0 := Lib.hid (World.ownsMap_made (H := Unit) w2 Tryz.prog 9 unitElem)
  have HB0 := Lib.hid (below_alP w2 (.map #[] 0))
  have hpl := pthL_len l
  have HPZ := Lib.hid (pthL_sz l)
  obtain ⟨PL, hPL⟩ : ∃ PL, PL = pthL l := ⟨_, rfl⟩
  rw [← hPL] at HTX hpl HPZ
  rw [← hpl] at hl ⊢
  have HPE := Lib.hid hPL
  have HPLL := Lib.hid hpl
  clear hpl
  clear hzz htx hb2 HX1 HB1 hPL
  go_upto_region 5 with fail
  generalize w2.alloc (.map #[] 0) = w0 at *
  go_wp2_with fail
  go_loopw [29] (fun v29 wr => ∃ (k : Nat) (n : Nat), k ≤ PL.length ∧ v29 = .int .i64 (k : Nat) ∧ Hid (n ≤ k) ∧ Hid (wr.ownsMap Tryz.prog 9 (unitElem (H := Unit)) w2.heap.size n (setP (PL.take k))) ∧ Hid (Below w2.heap.size w2 wr)) (fun v _ => PL.length - (intOf v).toNat)
  case atStart => exact ⟨0, 0, Nat.zero_le _, rfl, Nat.le_refl _, HM0.out, HB0.out⟩
  case round =>
    clear HM0 HB0
    obtain ⟨k, n, hk, rfl, HN, HM, HB⟩ := hrel
    by_cases hkn : k < PL.length
    · have hd : decide ((k : Int) < (PL.length : Int)) = true := decide_eq_true (by omega)
      obtain ⟨b, off, rfl, hb, hcc⟩ := (HTX.out wr HB.out) (by omega)
      have x0 := hcc k PL[k] (List.getElem?_eq_getElem hkn)
      have HSS : Hid (setP (PL.take (k + 1)) = (setP (PL.take k)).put (keyP PL[k]) (.agg [])) := by show _ = _; rw [List.take_succ_eq_append_getElem hkn, setP_snoc]
      have HSX := Lib.hid (HPZ.out _ (List.getElem_mem hkn))
      generalize PL[k] = p at *
      have HK := Lib.hid (keyOf_string_mk (P := Tryz.prog) Tryz.underlying9 (s := p) (by have := HSX.out; unfold maxLen; omega))
      clear hcc
      go_wp2_with (at_mapUpdate; refine wpList_mapUpdate_own _ rfl _ _ _ 101 rfl 9 102 keyS Tryz.underlying101 _ w2.heap.size n _ rfl HM.out (by have := HN.out; unfold maxLen; omega) _ _ _ rfl rfl HK.out (.agg []) [] unitElem_mk ?_; intro w6 hown6 hgrow6)
      rw [← HSS.out] at hown6
      have HM6 := Lib.hid hown6
      have HB6 : Hid (Below w2.heap.size w2 w6) := HB.out.grown hgrow6 HB.out.size (fun z hz => by injection hz with hz; omega)
      have HN6 : Hid (n + 1 ≤ k + 1) := Nat.succ_le_succ HN.out
      clear hown6 hgrow6 HM HB HN HSS
      go_wp2_with fail
      go_roundw
      case rel => exact ⟨k + 1, n + 1, by omega, by go_num, HN6, HM6, HB6⟩
      case measure => simp [intOf]; omega
    · obtain rfl : k = PL.length := by omega
      have hd : decide ((PL.length : Int) < (PL.length : Int)) = false := decide_eq_false (by omega)
      have HM2 : Hid (wr.ownsMap Tryz.prog 9 (unitElem (H := Unit)) w2.heap.size n (setP (PL ++ (t.take 0).map Itm.s))) := by have h := HM.out; rw [List.take_length] at h; rw [List.take_zero, List.map_nil, List.append_nil]; exact h
      have HN2 : Hid (n ≤ PL.length + 0) := HN.out
      clear HM HN
      go_wp2_with fail
      go_loopw [13, 39] (fun v13 v39 wi => ∃ (k : Nat) (V : Value) (n : Nat), k ≤ t.length ∧ V = v13 ∧ v39 = .int .i64 (k : Nat) ∧ Hid (n ≤ PL.length + k) ∧ Hid (wi.ownsMap Tryz.prog 9 (unitElem (H := Unit)) w2.heap.size n (setP (PL ++ (t.take k).map Itm.s))) ∧ Hid (RowQ wi (w2.heap.size + 1) V (addK ins outs PL t k)) ∧ Hid (Below w2.heap.size w2 wi)) (fun _ v _ => t.length - (intOf v).toNat)
      case atStart => exact ⟨0, _, n, Nat.zero_le _, rfl, rfl, HN2, HM2, World.ownsRow_nil _ _ _ _, HB⟩
      case round =>
        clear HM2 HN2 HB
        obtain ⟨k, V, n, hk, rfl, rfl, HN, HM, HO, HB⟩ := hrel
        by_cases hkn : k < t.length
        · have hd2 : decide ((k : Int) < (t.length : Int)) = true := decide_eq_true (by omega)
          have HBW := Lib.hid (below_thenE HB2.out HB.out)
          obtain ⟨b, off, rfl, hb, hcc⟩ := (HT.out wr HBW.out) (by omega)
          obtain ⟨c0, c1, c2, c3, c4, c5, c6, c7⟩ := hcc k t[k] (List.getElem?_eq_getElem hkn)
          have HSS : Hid (setP (PL ++ (t.take (k + 1)).map Itm.s) = (setP (PL ++ (t.take k).map Itm.s)).put (keyP t[k].s) (.agg [])) := by show _ = _; rw [List.take_succ_eq_append_getElem hkn, List.map_append, ← List.append_assoc]; exact setP_snoc _ _
          have HAK : Hid (addK ins outs PL t (k + 1) = addK ins outs PL t k ++ (if (!hasQ (PL ++ (t.take k).map Itm.s) t[k].s && takM ins outs t[k].s (t[k].k == 1)) = true then [⟨4, -1, (k : Nat)⟩] else [])) := by show _ = _; rw [addK_succ]; unfold addS; rw [List.getElem?_eq_getElem hkn]
          have HSX := Lib.hid (HS.out _ (List.getElem_mem hkn))
          have HLA : Hid ((addK ins outs PL t k).length ≤ k) := addK_len ins outs PL t k
          obtain ⟨W1, hW1⟩ : ∃ W1, W1 = wr.alloc (.cells t[k].cells 47) := ⟨_, rfl⟩
          obtain ⟨W2, hW2⟩ : ∃ W2, W2 = W1.alloc (.cells #[] 102) := ⟨_, rfl⟩
          have hb01 : Below wr.heap.size wr W1 := by rw [hW1]; exact below_alP wr _
          have hb12 : Below W1.heap.size W1 W2 := by rw [hW2]; exact below_alP W1 _
          have hx1 : W1.heap[wr.heap.size]? = some (.cells t[k].cells 47 (0, 0)) := by rw [hW1]; exact heap_alloc_new wr _
          have HX5 := Lib.hid ((hb12.block _ (lt_of_heapP hx1)).trans hx1)
          have HX1 := Lib.hid hx1
          have hb02 := hb01.trans (hb12.mono hb01.size)
          have HM1 := Lib.hid (ownsMapP HM.out hb01)
          have HMX := Lib.hid (ownsMapP HM.out hb02)
          have HOX : Hid (W2.ownsRow (w2.heap.size + 1) 41 3 V (addK ins outs PL t k).length (cellsQ (addK ins outs PL t k))) := own_keepP HO.out hb02
          have HBX := Lib.hid (HB.out.trans (hb02.mono HB.out.size))
          have HFB := Lib.hid ((HBX.out.block _ (lt_of_heapP HX2.out)).trans HX2.out)
          have HTK := Lib.hid (planTakes_any _ ins outs t[k] HSX.out.1 W2 (HFK.out W2 (below_thenE HB2.out HBX.out)))
          have HVG : Hid (∀ z, V.ownBlock = some z → z < wr.heap.size) := fun z hz => (HO.out.lt z hz).2
          generalize t[k] = X at *
          simp only [Itm.cells] at hW1 HTK
          have HW1 := Lib.hid hW1
          have HW2 := Lib.hid hW2
          clear hcc hW1 hW2 hb01 hb12 hb02 hx1 HM HO HB
          generalize hgx : wr.heap.size = gx at *
          go_upto_region 14 with fail
          rw [← HW1.out]
          clear HW1 c0 c1 c2 c3 c4 c5 c6 c7
          obtain ⟨x0, _⟩ := item_boxP HX1.out
          have HK := Lib.hid (keyOf_string_mk (P := Tryz.prog) Tryz.underlying9 (s := X.s) (by have := HSX.out.1; unfold maxLen; omega))
          have HH := Lib.hid (setP_has (PL ++ (t.take k).map Itm.s) X.s)
          generalize hasQ (PL ++ (t.take k).map Itm.s) X.s = G at *
          generalize hTB : takM ins outs X.s (X.k == 1) = TB at *
          clear hTB
          go_upto_region 15 with (at_lookup; refine wpList_lookup_own_unit _ rfl _ _ 101 rfl 9 102 keyS Tryz.underlying101 (zero_unitP _) w2.heap.size n _ rfl HM1.out _ _ rfl HK.out ?_; rw [HH.out])
          rw [← HW2.out]
          clear HW2 HM1 HH x0 HX1
          obtain ⟨x0, x1, x2, x3, x4, x5, x6, x7⟩ := item_boxP HX5.out
          have v0 := (cell_of_row _ _ 0 _ _ _ HFB.out).trans (show _ = some (Value.slice FA ni fa) from rfl)
          have v1 := (cell_of_row _ _ 1 _ _ _ HFB.out).trans (show _ = some (Value.slice FB no fb) from rfl)
          cases G with
          | true =>
            have HAD : Hid (addK ins outs PL t (k + 1) = addK ins outs PL t k) := by show _ = _; rw [HAK.out]; simp
            clear HAK HTK
            go_wp2_with (at_mapUpdate; refine wpList_mapUpdate_own _ rfl _ _ _ 101 rfl 9 102 keyS Tryz.underlying101 _ w2.heap.size n _ rfl HMX.out (by have := HN.out; unfold maxLen; omega) _ _ _ rfl rfl HK.out (.agg []) [] unitElem_mk ?_; intro w9 hown9 hgrow9)
            rw [← HSS.out] at hown9
            have HM9 := Lib.hid hown9
            have HO9 : Hid (RowQ w9 (w2.heap.size + 1) V (addK ins outs PL t (k + 1))) := by
              show World.ownsRow _ _ _ _ _ _ _
              rw [HAD.out]
              exact HOX.out.kept hgrow9 (.inr (fun h => by have := (HOX.out.lt w2.heap.size (by rw [h])).1; omega))
            have HB9 : Hid (Below w2.heap.size w2 w9) := HBX.out.grown hgrow9 HBX.out.size (fun z hz => by injection hz with hz; omega)
            have HN9 : Hid (n + 1 ≤ PL.length + (k + 1)) := by show _ ≤ _; have := HN.out; omega
            clear hown9 hgrow9 HMX HOX HBX HN HAD HSS
            go_wp2_with fail
            go_roundw
            case rel => exact ⟨k + 1, _, n + 1, by omega, rfl, by go_num, HN9, HM9, HO9, HB9⟩
            case measure => simp [intOf]; omega
          | false =>
            go_wp2_with fail
            refine HTK.out.mono ?_; rintro e w6 ⟨rfl, hb6⟩
            clear HTK x0 x1 x2 x3 x4 x5 x6 x7 v0 v1
            have hx6 := (hb6.block _ (lt_of_heapP HX5.out)).trans HX5.out
            have hm6 := ownsMapP HMX.out hb6
            have ho6 := own_keepP HOX.out hb6
            have hbb6 := HBX.out.trans (hb6.mono HBX.out.size)
            clear HX5 HMX HOX HBX HFB hb6
            have HX5 := Lib.hid hx6
            have HMX := Lib.hid hm6
            have HOX := Lib.hid ho6
            have HBX := Lib.hid hbb6
            clear hx6 hm6 ho6 hbb6
            cases TB with
            | false =>
              have HAD : Hid (addK ins outs PL t (k + 1) = addK ins outs PL t k) := by show _ = _; rw [HAK.out]; simp
              obtain ⟨x0, _⟩ := item_boxP HX5.out
              clear HAK
              go_wp2_with (at_mapUpdate; refine wpList_mapUpdate_own _ rfl _ _ _ 101 rfl 9 102 keyS Tryz.underlying101 _ w2.heap.size n _ rfl HMX.out (by have := HN.out; unfold maxLen; omega) _ _ _ rfl rfl HK.out (.agg []) [] unitElem_mk ?_; intro w9 hown9 hgrow9)
              rw [← HSS.out] at hown9
              have HM9 := Lib.hid hown9
              have HO9 : Hid (RowQ w9 (w2.heap.size + 1) V (addK ins outs PL t (k + 1))) := by
                show World.ownsRow _ _ _ _ _ _ _
                rw [HAD.out]
                exact HOX.out.kept hgrow9 (.inr (fun h => by have := (HOX.out.lt w2.heap.size (by rw [h])).1; omega))
              have HB9 : Hid (Below w2.heap.size w2 w9) := HBX.out.grown hgrow9 HBX.out.size (fun z hz => by injection hz with hz; omega)
              have HN9 : Hid (n + 1 ≤ PL.length + (k + 1)) := by show _ ≤ _; have := HN.out; omega
              clear hown9 hgrow9 HMX HOX HBX HN HAD HSS
              go_wp2_with fail
              go_roundw
              case rel => exact ⟨k + 1, _, n + 1, by omega, rfl, by go_num, HN9, HM9, HO9, HB9⟩
              case measure => simp [intOf]; omega
            | true =>
              have HAP : Hid (addK ins outs PL t (k + 1) = addK ins outs PL t k ++ [⟨4, -1, (k : Nat)⟩]) := by show _ = _; rw [HAK.out]; simp
              have hba := below_alP w6 (.cells #[.int .i64 4, .int .i64 (-1), .int .i64 (k : Nat)] 41)
              have HNW := Lib.hid (act_news w6 ⟨4, -1, (k : Nat)⟩ 41)
              have HOO := Lib.hid (act_ones ⟨4, -1, (k : Nat)⟩)
              simp only [Act3.cells, Act3.cellsL] at HNW HOO
              have HO7 := Lib.hid (own_keepP HOX.out hba)
              have HM7 := Lib.hid (ownsMapP HMX.out hba)
              have HX7 := Lib.hid ((hba.block _ (lt_of_heapP HX5.out)).trans HX5.out)
              have HB7 := Lib.hid (HBX.out.trans (hba.mono HBX.out.size))
              have HG7 : Hid (w2.heap.size + 1 ≤ (w6.alloc (.cells #[.int .i64 4, .int .i64 (-1), .int .i64 (k : Nat)] 41)).heap.size) := HM7.out.lt
              generalize addK ins outs PL t k = AL at *
              clear HAK hba HX5 HMX HOX HBX
              go_upto_region 17 with (at_builtin; refine wpList_append_own_at _ rfl (.tmp 58) (.tmp 61) _ rfl (w2.heap.size + 1) 41 i0 (.agg #[.int .i64 0, .int .i64 0, .int .i64 0]) 3 24 Tryz.underlying35 hi hz0 hz1 hz2 rfl (by decide) V AL.length (cellsQ AL) rfl HO7.out ⟨w6.heap.size, 0, none⟩ 1 1 [.int .i64 4, .int .i64 (-1), .int .i64 (k : Nat)] rfl rfl ?c1 ?c2 ?c3 ?c4 ?c5 ?_)
              case c1 => exact HNW.out
              case c2 => exact HOO.out
              case c3 => have := HLA.out; unfold maxLen; omega
              case c4 => have := HLA.out; omega
              case c5 => exact HG7.out
              intro v8 w8 hown hgrow _ hfr
              have HMX := Lib.hid (HM7.out.kept hgrow (fun h => by have := (HO7.out.lt w2.heap.size h.symm).1; omega))
              have hx8 := (hgrow.block _ (lt_of_heapP HX7.out) (fun h => by have := HVG.out gx (by first | exact h | exact h.symm); omega)).trans HX7.out
              have HBX : Hid (Below w2.heap.size w2 w8) := HB7.out.grown hgrow HB7.out.size (fun z hz => by have := (HO7.out.lt z hz).1; omega)
              have HOX : Hid (w8.ownsRow (w2.heap.size + 1) 41 3 v8 (addK ins outs PL t (k + 1)).length (cellsQ (addK ins outs PL t (k + 1)))) := by
                show World.ownsRow _ _ _ _ _ _ _
                rw [HAP.out, List.length_append, cellsQ_app]
                exact hown
              obtain ⟨x0, _⟩ := item_boxP hx8
              clear hown hgrow hfr hx8 HO7 HM7 HX7 HB7 HG7 HNW HOO HAP
              go_wp2_with (at_mapUpdate; refine wpList_mapUpdate_own _ rfl _ _ _ 101 rfl 9 102 keyS Tryz.underlying101 _ w2.heap.size n _ rfl HMX.out (by have := HN.out; unfold maxLen; omega) _ _ _ rfl rfl HK.out (.agg []) [] unitElem_mk ?_; intro w9 hown9 hgrow9)
              rw [← HSS.out] at hown9
              have HM9 := Lib.hid hown9
              have HO9 : Hid (RowQ w9 (w2.heap.size + 1) v8 (addK ins outs PL t (k + 1))) := by
                show World.ownsRow _ _ _ _ _ _ _
                exact HOX.out.kept hgrow9 (.inr (fun h => by have := (HOX.out.lt w2.heap.size (by rw [h])).1; omega))
              have HB9 : Hid (Below w2.heap.size w2 w9) := HBX.out.grown hgrow9 HBX.out.size (fun z hz => by injection hz with hz; omega)
              have HN9 : Hid (n + 1 ≤ PL.length + (k + 1)) := by show _ ≤ _; have := HN.out; omega
              clear hown9 hgrow9 HMX HOX HBX HN HSS
              go_wp2_with fail
              go_roundw
              case rel => exact ⟨k + 1, _, n + 1, by omega, rfl, by go_num, HN9, HM9, HO9, HB9⟩
              case measure => simp [intOf]; omega
        · obtain rfl : k = t.length := by omega
          have hd2 : decide ((t.length : Int) < (t.length : Int)) = false := decide_eq_false (by omega)
          have HBW := Lib.hid (below_thenE HB2.out HB.out)
          rw [HPE.out] at HO
          go_wp2_with fail
          go_ret2
          exact .inr ⟨V, rfl, own_lowerP HO.out (by have := HG2.out; omega), HBW.out⟩
end Go.Proofs.YtijfcmlgohbndaaGreatDoor

namespace Go.Proofs.YtijfcmlgohbndaaGreatDoor
set_option maxRecDepth 100000
set_option linter.unusedSimpArgs false
set_option linter.unusedVariables false
open Go.RowKit Go.Joins Go.Deep
open Go.Lib hiding intOf
noncomputable def entS (ins outs : List (List Atm)) (l : List Ent) (k : Nat) : List Int :=
  match l[k]? with
  | some E => if takM ins outs (metV E).p ((metV E).k == 1) = true then [((k : Nat) : Int)] else []
  | none => []
noncomputable def entP (ins outs : List (List Atm)) (l : List Ent) (k : Nat) : List Int := (List.range k).flatMap (entS ins outs l)
theorem entP_succ (ins outs : List (List Atm)) (l : List Ent) (k : Nat) : entP ins outs l (k + 1) = entP ins outs l k ++ entS ins outs l k := by
  unfold entP
  rw [List.range_succ, List.flatMap_append]
  simp
theorem entS_forms (ins outs : List (List Atm)) (l : List Ent) (k : Nat) : entS ins outs l k = [] ∨ (k < l.length ∧ entS ins outs l k = [((k : Nat) : Int)]) := by
  unfold entS
  cases h : l[k]? with
  | none => exact .inl rfl
  | some E =>
    have hk := (List.getElem?_eq_some_iff.1 h).1
    simp only
    split
    · exact .inr ⟨hk, rfl⟩
    · exact .inl rfl
theorem entP_len (ins outs : List (List Atm)) (l : List Ent) : ∀ k, (entP ins outs l k).length ≤ k
  | 0 => Nat.le_refl _
  | k + 1 => by
    have := entP_len ins outs l k
    rw [entP_succ, List.length_append]
    rcases entS_forms ins outs l k with h | ⟨_, h⟩ <;> rw [h] <;> simp <;> omega
theorem entP_all (ins outs : List (List Atm)) (l : List Ent) : ∀ k, ∀ x ∈ entP ins outs l k, 0 ≤ x ∧ x < l.length
  | 0, x, h => by cases h
  | k + 1, x, h => by
    rw [entP_succ, List.mem_append] at h
    rcases h with h | h
    · exact entP_all ins outs l k x h
    · rcases entS_forms ins outs l k with e | ⟨hk, e⟩
      · rw [e] at h; cases h
      · rw [e, List.mem_singleton] at h
        subst h
        exact ⟨by omega, by omega⟩
theorem ints_own2 {w : World} {B : Nat} {l : List Int} {v : Value} (h : w.ownsRow B 3 1 v l.length (l.map (Value.int .i64))) : ∃ A c, v = .slice A l.length c ∧ IntW w A l ∧ ∀ a, A = some a → B ≤ a.block := by
  obtain ⟨A, c, rfl, hi⟩ := ints_own h
  refine ⟨A, c, rfl, hi, fun a ha => ?_⟩
  rcases h.2 with ⟨he, _⟩ | ⟨g, cap, cur, he, hb, _⟩
  · injection he with he; rw [ha] at he; cases he
  · injection he with he; rw [ha] at he; injection he with he; subst he; exact hb
/-- What Entries answers. -/
def EntR (w : World) (ins outs : List (List Atm)) (l : List Ent) (e : Ending) (w' : World) : Prop :=
  (∃ z, z ≠ 0 ∧ e = .returned (.tuple #[.slice none 0 0, .int .i64 z]) ∧ Below w.heap.size w w') ∨
  (∃ A c, e = .returned (.tuple #[.slice A (entP ins outs l l.length).length c, .int .i64 0]) ∧ IntW w' A (entP ins outs l l.length) ∧ (∀ a, A = some a → w.heap.size ≤ a.block) ∧ Below w.heap.size w w')
set_option maxHeartbeats 32000000 in
theorem entries_any (V : Value) (ins outs : List (List Atm)) (A : Option Addr) (c : Nat) (l : List Ent) (w : World) (hR : Ents w A l) (hl : l.length ≤ 1000) (hL : LightL l) (hU : Upper w) (hE : Env w) (hF : FilK w V ins outs) :
    Calls Tryz.prog 30 #[V, .slice A l.length c] w (EntR w ins outs l) := by
  obtain ⟨i0, hi, hz0, hz1, hz2⟩ : ∃ i0, Tryz.prog.info? 3 = some i0 ∧ i0.zero = some (.int .i64 0) ∧ i0.size = 1 ∧ i0.bytes = 8 := by
    have h : (Tryz.prog.info? 3).map (fun i => (i.zero, i.size, i.bytes)) = some (some (.int .i64 0), 1, 8) := by kernel_rfl
    cases hq : Tryz.prog.info? 3 with
    | none => rw [hq] at h; cases h
    | some i =>
      rw [hq] at h
      simp only [Option.map_some, Option.some.injEq, Prod.mk.injEq] at h
      exact ⟨i, rfl, h.1, h.2.1, h.2.2⟩
  have hif := info_fil
  have hinM := info_nodeM
  have hFK := hF
  obtain ⟨⟨FA, fa, FB, fb, rfl, _⟩, _, _, _⟩ := hFK
  obtain ⟨w1, hw1⟩ : ∃ w1, w1 = w.alloc (.cells #[.slice FA ins.length fa, .slice FB outs.length fb] 31) := ⟨_, rfl⟩
  have hb1 : Below w.heap.size w w1 := by rw [hw1]; exact below_alP w _
  have HX1 : Hid (w1.heap[w.heap.size]? = some (.cells #[.slice FA ins.length fa, .slice FB outs.length fb] 31 (0, 0))) := by show _ = _; rw [hw1]; exact heap_alloc_new w _
  have HR := Lib.hid (fun w2 (hb : Below w.heap.size w w2) => hR.below hb)
  have HFK := Lib.hid (fun w2 (hb : Below w.heap.size w w2) => hF.below hb)
  have HME := Lib.hid (fun E (hm : E ∈ l) w1 (hb : Below w.heap.size w w1) => meta_any E (hL E hm).1 (hL E hm).2 w1 (hU.below hb) (hE.below hb))
  have HB1 := Lib.hid hb1
  have HW1 := Lib.hid hw1
  have HG1 : Hid (w.heap.size < w1.heap.size) := lt_of_heapP HX1.out
  clear hR hL hU hE hF hw1 hb1
  generalize ins.length = ni at *
  generalize outs.length = no at *
  go_enter Tryz.func30, Tryz.ntmps30
  go_upto_region 1 with fail
  rw [← HW1.out]
  clear HW1
  go_wp2_with fail
  go_loopw [6, 14] (fun v6 v14 wr => ∃ (k : Nat) (V : Value), k ≤ l.length ∧ V = v6 ∧ v14 = .int .i64 (k : Nat) ∧ Hid (wr.ownsRow w1.heap.size 3 1 V (entP ins outs l k).length ((entP ins outs l k).map (Value.int .i64))) ∧ Hid (Below w1.heap.size w1 wr)) (fun _ v _ => l.length - (intOf v).toNat)
  case atStart => exact ⟨0, _, Nat.zero_le _, rfl, rfl, World.ownsRow_nil _ _ _ _, Below.refl _ _⟩
  case round =>
    obtain ⟨k, V, hk, rfl, rfl, HO, HB⟩ := hrel
    by_cases hkn : k < l.length
    · have hd : decide ((k : Int) < (l.length : Int)) = true := decide_eq_true (by omega)
      have HBW := Lib.hid (below_thenE HB1.out HB.out)
      obtain ⟨b, off, rfl, hb, hcc⟩ := (HR.out wr HBW.out) (by omega)
      have HRG := Lib.hid (hcc k l[k] (List.getElem?_eq_getElem hkn))
      have HMEM : Hid (l[k] ∈ l) := List.getElem_mem hkn
      have HEP : Hid (entP ins outs l (k + 1) = entP ins outs l k ++ (if takM ins outs (metV l[k]).p ((metV l[k]).k == 1) = true then [((k : Nat) : Int)] else [])) := by show _ = _; rw [entP_succ]; unfold entS; rw [List.getElem?_eq_getElem hkn]
      have HLN : Hid ((entP ins outs l k).length ≤ k) := entP_len ins outs l k
      have HX2 := Lib.hid (boxE_row wr l[k])
      have hb01 := boxE_below l[k].cells (Below.refl wr.heap.size wr) (Nat.le_refl _)
      have HB2 := Lib.hid (HB.out.trans (hb01.mono HB.out.size))
      have HO2 := Lib.hid (own_keepP HO.out hb01)
      have HPS := Lib.hid (metV_sz l[k])
      have HLI := Lib.hid (HME.out l[k] HMEM.out _ (below_thenE HB1.out HB2.out))
      generalize l[k] = E at *
      have H17 := Lib.hid (ent_size E)
      have HON := Lib.hid (ent_one E)
      have HIE : Hid ((Tryz.prog.info? 51).map (·.size) = some E.cellsL.length) := info_entE
      rw [← ent_cells] at H17 HON HX2 HB2 HO2 HLI
      generalize E.cellsL = EL at *
      clear hcc hb01 HO HB
      go_upto_region 5 with (first | (refine wpList_load_mid rfl 51 (.tmp 17) rfl b (off + k * 17) rfl EL _ HRG.out Tryz.underlying51 rfl HIE.out ?_) | (refine wpList_store_ent EL.toArray rfl (.tmp 8) (.tmp 18) rfl rfl rfl H17.out HON.out ?_))
      generalize wr.heap.size = gx at *
      generalize boxE wr EL.toArray = W1 at *
      have HIA : Hid ((Tryz.prog.info? 51).map (·.size) = some EL.toArray.size) := by show _ = _; rw [HIE.out, List.size_toArray]
      clear HRG H17 HON HIE
      go_wp2_with (refine wpList_load_row rfl 51 (.tmp 8) rfl gx rfl 51 _ (0, 0) _ HX2.out Tryz.underlying51 rfl HIA.out ?_)
      refine HLI.out.mono ?_; rintro e w2 ⟨rfl, hb2⟩
      unfold MeT.val
      have HB3 := Lib.hid (HB2.out.trans (hb2.mono HB2.out.size))
      have HO3 := Lib.hid (own_keepP HO2.out hb2)
      clear hb2 HLI HX2 HIA HO2 HB2
      generalize metV E = M at *
      obtain ⟨mp, mk, mm, mu, mg, mt, ma, mz⟩ := M
      dsimp only at HEP HPS ⊢
      obtain ⟨w3, hw3⟩ : ∃ w3, w3 = w2.alloc (.cells #[.int .i64 mk, .int .u32 mm, .int .u32 mu, .int .u32 mg, .int .i64 mt, .int .i64 ma, .string ⟨#[]⟩] 45) := ⟨_, rfl⟩
      have hb3 : Below w2.heap.size w2 w3 := by rw [hw3]; exact below_alP w2 _
      have HN4 : Hid (w3.heap[w2.heap.size]? = some (.cells #[.int .i64 mk, .int .u32 mm, .int .u32 mu, .int .u32 mg, .int .i64 mt, .int .i64 ma, .string ⟨#[]⟩] 45 (0, 0))) := by show _ = _; rw [hw3]; exact heap_alloc_new w2 _
      have HB4 := Lib.hid (HB3.out.trans (hb3.mono HB3.out.size))
      have HO4 := Lib.hid (own_keepP HO3.out hb3)
      have HW3 := Lib.hid hw3
      clear hw3 hb3 HB3 HO3
      by_cases hz : mz = 0
      case neg =>
        have bz : (mz != 0) = true := bne_iff_ne.2 hz
        have HBE := Lib.hid (below_thenE HB1.out HB4.out)
        clear HO4 HEP
        go_wp2_with fail
        rw [← HW3.out]
        go_ret2
        exact .inl ⟨mz, hz, rfl, HBE.out⟩
      subst hz
      have HF4 := Lib.hid ((HB4.out.block _ (lt_of_heapP HX1.out)).trans HX1.out)
      have HTK := Lib.hid (filTakes_any _ ins outs mp mk mm mu mg mt ma ⟨#[]⟩ (by have : mp.size ≤ 65535 := HPS.out; omega) w3 (HFK.out w3 (below_thenE HB1.out HB4.out)))
      generalize hTB : takM ins outs mp (mk == 1) = TB at *
      clear hTB
      go_upto_region 8 with fail
      rw [← HW3.out]
      clear HW3
      generalize w2.heap.size = gn at *
      go_wp2_with (first | (refine wpList_load_row rfl 31 (.tmp 2) rfl w.heap.size rfl 31 _ (0, 0) _ HF4.out Tryz.underlying31 rfl info_fil ?_) | (refine wpList_load_row rfl 45 (.tmp 10) rfl gn rfl 45 _ (0, 0) _ HN4.out Tryz.underlying45 rfl info_nodeM ?_))
      refine HTK.out.mono ?_; rintro e w5 ⟨rfl, hb5⟩
      have HB5 := Lib.hid (HB4.out.trans (hb5.mono HB4.out.size))
      have HO5 := Lib.hid (own_keepP HO4.out hb5)
      clear hb5 HTK HB4 HO4 HN4 HF4
      cases TB with
      | false =>
        have HE2 : Hid (entP ins outs l (k + 1) = entP ins outs l k) := by show _ = _; rw [HEP.out]; simp
        have HO6 : Hid (w5.ownsRow w1.heap.size 3 1 V (entP ins outs l (k + 1)).length ((entP ins outs l (k + 1)).map (Value.int .i64))) := by show World.ownsRow _ _ _ _ _ _ _; rw [HE2.out]; exact HO5.out
        clear HEP HE2 HO5
        go_wp2_with fail
        go_roundw
        case rel => exact ⟨k + 1, _, by omega, rfl, by go_num, HO6, HB5⟩
        case measure => simp [intOf]; omega
      | true =>
        have HE2 : Hid (entP ins outs l (k + 1) = entP ins outs l k ++ [((k : Nat) : Int)]) := by show _ = _; rw [HEP.out]; simp
        have hba := below_alP w5 (.cells #[.int .i64 (k : Nat)] 3)
        have HO7 := Lib.hid (own_keepP HO5.out hba)
        have HB7 := Lib.hid (HB5.out.trans (hba.mono HB5.out.size))
        have HNW := Lib.hid (int_news w5 (k : Nat))
        have HG7 : Hid (w1.heap.size ≤ (w5.alloc (.cells #[.int .i64 (k : Nat)] 3)).heap.size) := HB7.out.size
        generalize entP ins outs l k = IL at *
        clear HEP hba HO5 HB5
        go_wp2_with (at_builtin; refine wpList_append_own _ rfl _ _ 80 rfl w1.heap.size 3 i0 (.int .i64 0) 1 8 Tryz.underlying80 hi hz0 hz1 hz2 rfl (by decide) _ _ _ rfl HO7.out ⟨w5.heap.size, 0, none⟩ 1 1 [.int .i64 (k : Nat)] rfl ?qc1 ?qc2 ?qc3 ?qc4 ?qc5 ?qc6 ?_)
        case qc1 => rfl
        case qc2 => exact HNW.out
        case qc3 => intro u hu; simp at hu; subst hu; rfl
        case qc4 => have := HLN.out; unfold maxLen; omega
        case qc5 => have := HLN.out; omega
        case qc6 => exact HG7.out
        intro v8 w8 hown8 hgrow8 _
        have HO8 : Hid (w8.ownsRow w1.heap.size 3 1 v8 (entP ins outs l (k + 1)).length ((entP ins outs l (k + 1)).map (Value.int .i64))) := by
          show World.ownsRow _ _ _ _ _ _ _
          rw [HE2.out, List.length_append, List.map_append]
          exact hown8
        have HB8 : Hid (Below w1.heap.size w1 w8) := HB7.out.grown hgrow8 HB7.out.size (fun z hz => by have := (HO7.out.lt z hz).1; omega)
        clear hown8 hgrow8 HO7 HB7 HNW HG7 HE2
        go_wp2_with fail
        go_roundw
        case rel => exact ⟨k + 1, _, by omega, rfl, by go_num, HO8, HB8⟩
        case measure => simp [intOf]; omega
    · obtain rfl : k = l.length := by omega
      have hd : decide ((l.length : Int) < (l.length : Int)) = false := decide_eq_false (by omega)
      obtain ⟨A5, c5, rfl, htx, hnw⟩ := ints_own2 HO.out
      have HNW := Lib.hid (fun a ha => Nat.le_trans (Nat.le_of_lt HG1.out) (hnw a ha))
      have HTI := Lib.hid htx
      have HBE := Lib.hid (below_thenE HB1.out HB.out)
      clear HO htx hnw
      go_wp2_with fail
      go_ret2
      exact .inr ⟨A5, c5, rfl, HTI.out, HNW.out, HBE.out⟩
end Go.Proofs.YtijfcmlgohbndaaGreatDoor

namespace Go.Proofs.YtijfcmlgohbndaaGreatDoor
set_option maxRecDepth 100000
set_option linter.unusedSimpArgs false
set_option linter.unusedVariables false
open Go.RowKit Go.Joins Go.Deep
open Go.Lib hiding intOf
def kepL (n : Nat) : List Act3 := (List.range n).map fun (k : Nat) => ⟨1, (k : Int), -1⟩
theorem kepL_len (n : Nat) : (kepL n).length = n := by simp [kepL]
theorem kepL_succ (n : Nat) : kepL (n + 1) = kepL n ++ [⟨1, (n : Nat), -1⟩] := by unfold kepL; rw [List.range_succ, List.map_append]; rfl
def drpS (L : List Act3) (p : Int) : List Act3 := L.set p.toNat ⟨3, p, -1⟩
/-- What Delete makes of the entries at places. -/
def delP (n : Nat) (pl : List Int) : List Act3 := pl.foldl drpS (kepL n)
theorem delP_snoc (n : Nat) (pl : List Int) (p : Int) : delP n (pl ++ [p]) = drpS (delP n pl) p := by simp [delP]
/-- Each action is its place's, and keeps or drops. -/
def DelOk (L : List Act3) : Prop := ∀ (i : Nat) a, L[i]? = some a → a.e = (i : Nat) ∧ a.i = -1 ∧ (a.k = 1 ∨ a.k = 3)
theorem kepL_ok (n : Nat) : DelOk (kepL n) := fun i a h => by
  have hi : i < n := by have := (List.getElem?_eq_some_iff.1 h).1; rwa [kepL_len] at this
  unfold kepL at h
  rw [List.getElem?_map, List.getElem?_range hi] at h
  injection h with h
  subst h
  exact ⟨rfl, rfl, .inl rfl⟩
theorem drpS_ok {L : List Act3} (h : DelOk L) (p : Nat) : DelOk (drpS L (p : Nat)) := fun i a hi => by
  unfold drpS at hi
  rw [Int.toNat_natCast] at hi
  rw [List.getElem?_set] at hi
  split at hi
  · rename_i hp
    split at hi
    · injection hi with hi
      subst hi hp
      exact ⟨rfl, rfl, .inr rfl⟩
    · cases hi
  · exact h i a hi
theorem drpS_len (L : List Act3) (p : Int) : (drpS L p).length = L.length := by simp [drpS]
theorem delP_fold_len : ∀ (pl : List Int) (L : List Act3), (pl.foldl drpS L).length = L.length
  | [], L => rfl
  | p :: pl, L => by rw [List.foldl_cons, delP_fold_len pl, drpS_len]
theorem delP_len (n : Nat) (pl : List Int) : (delP n pl).length = n := by unfold delP; rw [delP_fold_len, kepL_len]
theorem delP_fold_ok : ∀ (pl : List Int) (L : List Act3), (∀ p ∈ pl, 0 ≤ p) → DelOk L → DelOk (pl.foldl drpS L)
  | [], L, _, h => h
  | p :: pl, L, hp, h => by
    rw [List.foldl_cons]
    refine delP_fold_ok pl _ (fun q hq => hp q (List.mem_cons_of_mem _ hq)) ?_
    obtain ⟨q, rfl⟩ : ∃ q : Nat, p = (q : Nat) := ⟨p.toNat, (Int.toNat_of_nonneg (hp p (List.mem_cons_self ..))).symm⟩
    exact drpS_ok h q
theorem delP_ok (n : Nat) (pl : List Int) (hp : ∀ p ∈ pl, 0 ≤ p) : DelOk (delP n pl) := delP_fold_ok pl _ hp (kepL_ok n)
theorem cellsQ_set : ∀ (L : List Act3) (p : Nat) (k e i : Int), L[p]? = some ⟨k, e, i⟩ → (cellsQ L).set (p * 3) (.int .i64 3) = cellsQ (L.set p ⟨3, e, i⟩)
  | [], p, k, e, i, h => by cases h
  | x :: L, 0, k, e, i, h => by
    injection h with h
    subst h
    rfl
  | x :: L, p + 1, k, e, i, h => by
    have := cellsQ_set L p k e i (by simpa using h)
    rw [show (p + 1) * 3 = p * 3 + 1 + 1 + 1 by omega]
    show (Value.int .i64 x.k :: Value.int .i64 x.e :: Value.int .i64 x.i :: cellsQ L).set (p * 3 + 1 + 1 + 1) _ = _
    rw [List.set_cons_succ, List.set_cons_succ, List.set_cons_succ, this]
    rfl
theorem intW_set {w : World} {b off g i : Nat} {l : List Int} {v : Value} (h : IntW w (some ⟨b, off, none⟩) l) (hn : b ≠ g) : IntW (w.setCell ⟨g, i, none⟩ v) (some ⟨b, off, none⟩) l := fun h0 => by
  obtain ⟨b', off', e, hlt, hc⟩ := h h0
  injection e with e
  injection e with e1 e2 _
  subst e1 e2
  refine ⟨b, off, rfl, by simpa using hlt, fun j x hx => ?_⟩
  rw [World.cell?_of_block (Below.heap_setCell _ _ _ _ (fun e => hn e))]
  exact hc j x hx
/-- What deletions answers. -/
def DelR (w : World) (ins outs : List (List Atm)) (l : List Ent) (e : Ending) (w' : World) : Prop :=
  (∃ v z, z ≠ 0 ∧ e = .returned (.tuple #[v, .int .i64 z]) ∧ Below w.heap.size w w') ∨
  (∃ v, e = .returned (.tuple #[v, .int .i64 0]) ∧ RowQ w' w.heap.size v (delP l.length (entP ins outs l l.length)) ∧ Below w.heap.size w w')
set_option maxHeartbeats 32000000 in
theorem del_any (A : Option Addr) (c : Nat) (l : List Ent) (V : Value) (ins outs : List (List Atm)) (w : World) (hR : Ents w A l) (hl : l.length ≤ 1000) (hL : LightL l) (hU : Upper w) (hE : Env w) (hF : FilK w V ins outs) :
    Calls Tryz.prog 18 #[.slice A l.length c, V] w (DelR w ins outs l) := by
  obtain ⟨i0, hi, hz0, hz1, hz2⟩ := partsP
  have hif := info_fil
  have hFK := hF
  obtain ⟨⟨FA, fa, FB, fb, rfl, _⟩, _, _, _⟩ := hFK
  obtain ⟨w1, hw1⟩ : ∃ w1, w1 = w.alloc (.cells #[.slice FA ins.length fa, .slice FB outs.length fb] 31) := ⟨_, rfl⟩
  have hb1 : Below w.heap.size w w1 := by rw [hw1]; exact below_alP w _
  have HX1 : Hid (w1.heap[w.heap.size]? = some (.cells #[.slice FA ins.length fa, .slice FB outs.length fb] 31 (0, 0))) := by show _ = _; rw [hw1]; exact heap_alloc_new w _
  have HP := Lib.hid (paths_any A c l w1 (hR.below hb1) hl hL (hU.below hb1) (hE.below hb1))
  have HEN := Lib.hid (fun w2 (hb : Below w.heap.size w w2) => entries_any _ ins outs A c l w2 (hR.below hb) hl hL (hU.below hb) (hE.below hb) (hF.below hb))
  have HB1 := Lib.hid hb1
  have HW1 := Lib.hid hw1
  clear hR hL hU hE hF hw1 hb1
  generalize ins.length = ni at *
  generalize outs.length = no at *
  go_enter Tryz.func18, Tryz.ntmps18
  go_upto_region 1 with fail
  rw [← HW1.out]
  clear HW1
  go_wp2_with fail
  refine HP.out.mono ?_; rintro e w2 hout
  clear HP
  rcases hout with ⟨z, hz, rfl, hb2⟩ | ⟨A2, c2, hzz, rfl, _, hb2⟩
  · have bz : (z != 0) = true := bne_iff_ne.2 hz
    have HB2 := Lib.hid (below_thenE HB1.out hb2)
    clear hb2
    go_wp2_with fail
    go_ret2
    exact .inl ⟨_, z, hz, rfl, HB2.out⟩
  have HX2 := Lib.hid ((hb2.block _ (lt_of_heapP HX1.out)).trans HX1.out)
  have HB2 := Lib.hid (below_thenE HB1.out hb2)
  have HG2 : Hid (w.heap.size < w2.heap.size) := lt_of_heapP HX2.out
  clear hzz hb2 HX1 HB1
  go_wp2_with fail
  go_loopw [8, 24] (fun v8 v24 wr => ∃ (k : Nat) (V : Value), k ≤ l.length ∧ V = v8 ∧ v24 = .int .i64 (k : Nat) ∧ Hid (RowQ wr w2.heap.size V (kepL k)) ∧ Hid (Below w2.heap.size w2 wr)) (fun _ v _ => l.length - (intOf v).toNat)
  case atStart => exact ⟨0, _, Nat.zero_le _, rfl, rfl, World.ownsRow_nil _ _ _ _, Below.refl _ _⟩
  case round =>
    obtain ⟨k, V, hk, rfl, rfl, HO, HB⟩ := hrel
    by_cases hkn : k < l.length
    · have hd : decide ((k : Int) < (l.length : Int)) = true := decide_eq_true (by omega)
      have hba := below_alP wr (.cells #[.int .i64 1, .int .i64 (k : Nat), .int .i64 (-1)] 41)
      have HNW := Lib.hid (act_news wr ⟨1, (k : Nat), -1⟩ 41)
      have HOO := Lib.hid (act_ones ⟨1, (k : Nat), -1⟩)
      simp only [Act3.cells, Act3.cellsL] at HNW HOO
      have HO6 := Lib.hid (own_keepP (HO.out : World.ownsRow _ _ _ _ _ _ _) hba)
      have HB6 := Lib.hid (HB.out.trans (hba.mono HB.out.size))
      have HG6 : Hid (w2.heap.size ≤ (wr.alloc (.cells #[.int .i64 1, .int .i64 (k : Nat), .int .i64 (-1)] 41)).heap.size) := HB6.out.size
      have HKS : Hid (kepL (k + 1) = kepL k ++ [⟨1, (k : Nat), -1⟩]) := kepL_succ k
      have HKL : Hid ((kepL k).length = k) := kepL_len k
      generalize kepL k = PL at *
      clear hba HO HB
      go_wp2_with (at_builtin; refine wpList_append_own_at _ rfl (.tmp 27) (.tmp 30) _ rfl w2.heap.size 41 i0 (.agg #[.int .i64 0, .int .i64 0, .int .i64 0]) 3 24 Tryz.underlying35 hi hz0 hz1 hz2 rfl (by decide) V PL.length (cellsQ PL) rfl HO6.out ⟨wr.heap.size, 0, none⟩ 1 1 [.int .i64 1, .int .i64 (k : Nat), .int .i64 (-1)] rfl rfl ?c1 ?c2 ?c3 ?c4 ?c5 ?_)
      case c1 => exact HNW.out
      case c2 => exact HOO.out
      case c3 => have := HKL.out; unfold maxLen; omega
      case c4 => have := HKL.out; omega
      case c5 => exact HG6.out
      intro v8 w8 hown hgrow _ hfr
      have HO8 : Hid (RowQ w8 w2.heap.size v8 (kepL (k + 1))) := by
        show World.ownsRow _ _ _ _ _ _ _
        rw [HKS.out, List.length_append, cellsQ_app]
        exact hown
      have HB8 : Hid (Below w2.heap.size w2 w8) := HB6.out.grown hgrow HB6.out.size (fun z hz => by have := (HO6.out.lt z hz).1; omega)
      clear hown hgrow hfr HO6 HB6 HG6 HNW HOO HKS
      go_wp2_with fail
      go_roundw
      case rel => exact ⟨k + 1, _, by omega, rfl, by go_num, HO8, HB8⟩
      case measure => simp [intOf]; omega
    · obtain rfl : k = l.length := by omega
      have hd : decide ((l.length : Int) < (l.length : Int)) = false := decide_eq_false (by omega)
      have HX3 := Lib.hid ((HB.out.block _ (lt_of_heapP HX2.out)).trans HX2.out)
      have HBW := Lib.hid (below_thenE HB2.out HB.out)
      have HER := Lib.hid (HEN.out wr HBW.out)
      go_wp2_with (refine wpList_load_row rfl 31 (.tmp 3) rfl w.heap.size rfl 31 _ (0, 0) _ HX3.out Tryz.underlying31 rfl info_fil ?_)
      refine HER.out.mono ?_; rintro e w3 hout
      clear HER HX3
      rcases hout with ⟨z, hz, rfl, hb3⟩ | ⟨A3, c3, rfl, hints, hnw3, hb3⟩
      · have HB3 := Lib.hid (below_thenE HBW.out hb3)
        clear hb3
        go_wp2_with fail
        refine wp_loop_rounds 1 ?_
        rw [rounds_succ]
        go_wp2_with fail
        go_ret2
        exact .inl ⟨_, z, hz, rfl, HB3.out⟩
      · have HIW := Lib.hid hints
        have HVN : Hid (∀ g, V.ownBlock = some g → ∀ a, A3 = some a → a.block ≠ g) := fun g hg a ha e => by
          have h1 := ((HO.out : World.ownsRow _ _ _ _ _ _ _).lt g hg).2
          have h2 := hnw3 a ha
          omega
        have HO3 : Hid (RowQ w3 w2.heap.size V (delP l.length ((entP ins outs l l.length).take 0))) := own_keepP (HO.out : World.ownsRow _ _ _ _ _ _ _) hb3
        have HB3 := Lib.hid (HB.out.trans (hb3.mono HB.out.size))
        have HPA := Lib.hid (entP_all ins outs l l.length)
        have HPL := Lib.hid (entP_len ins outs l l.length)
        obtain ⟨PL, hPL⟩ : ∃ PL, PL = entP ins outs l l.length := ⟨_, rfl⟩
        rw [← hPL] at HIW HO3 HPA HPL ⊢
        have HPE := Lib.hid hPL
        have HBE := Lib.hid (below_thenE HBW.out hb3)
        clear hints hnw3 hb3 HO HB HBW HEN hPL
        have HG3 : Hid (w2.heap.size ≤ w3.heap.size) := HB3.out.size
        go_wp2_with fail
        go_loopw [41] (fun v41 wi => ∃ (q : Nat), q ≤ PL.length ∧ v41 = .int .i64 (q : Nat) ∧ Hid (RowQ wi w2.heap.size V (delP l.length (PL.take q))) ∧ Hid (Below w2.heap.size w2 wi) ∧ Hid (IntW wi A3 PL)) (fun v _ => PL.length - (intOf v).toNat)
        case atStart => exact ⟨0, Nat.zero_le _, rfl, HO3, HB3, HIW⟩
        case round =>
          clear HO3 HB3 HIW
          obtain ⟨q, hq, rfl, HO, HB, HI⟩ := hrel
          by_cases hqn : q < PL.length
          · have hd2 : decide ((q : Int) < (PL.length : Int)) = true := decide_eq_true (by omega)
            obtain ⟨b, off, rfl, hb, hcc⟩ := HI.out (by omega)
            have x0 := hcc q PL[q] (List.getElem?_eq_getElem hqn)
            have hpr := HPA.out PL[q] (List.getElem_mem hqn)
            have HTS : Hid (PL.take (q + 1) = PL.take q ++ [PL[q]]) := List.take_succ_eq_append_getElem hqn
            have HDO : Hid (DelOk (delP l.length (PL.take q))) := delP_ok _ _ (fun p hp => (HPA.out p (List.mem_of_mem_take hp)).1)
            have HDL : Hid ((delP l.length (PL.take q)).length = l.length) := delP_len _ _
            obtain ⟨p, hp⟩ : ∃ p : Nat, PL[q] = (p : Nat) := ⟨PL[q].toNat, (Int.toNat_of_nonneg hpr.1).symm⟩
            rw [hp] at x0 hpr HTS
            have hpl : p < l.length := by omega
            have hpi : ((p : Nat) : Int) < (l.length : Int) := by omega
            have hq62 : (q : Int) + 1 < 9223372036854775807 := by have := HPL.out; omega
            have HDS : Hid (delP l.length (PL.take (q + 1)) = (delP l.length (PL.take q)).set p ⟨3, (p : Nat), -1⟩) := by show _ = _; rw [HTS.out, delP_snoc]; unfold drpS; rw [Int.toNat_natCast]
            clear hcc hp HTS hpr
            generalize hDL : delP l.length (PL.take q) = DL at *
            clear hDL
            have hlt : p < DL.length := by have := HDL.out; omega
            obtain ⟨g, cap, rfl⟩ : ∃ g cap, V = .slice (some ⟨g, 0, none⟩) l.length cap := by
              rcases HO.out.2 with ⟨_, h0⟩ | ⟨g, cap, cur, he, _⟩
              · have := HDL.out; omega
              · exact ⟨g, cap, by rw [he, HDL.out]⟩
            obtain ⟨a, ha⟩ : ∃ a, DL[p]? = some a := ⟨_, List.getElem?_eq_getElem hlt⟩
            obtain ⟨h1, h2, _⟩ := HDO.out p a ha
            obtain ⟨ak, ae, ai⟩ := a
            dsimp only at h1 h2
            subst h1 h2
            have HOR : Hid (wr.ownsRow w2.heap.size 41 3 (.slice (some ⟨g, 0, none⟩) l.length cap) l.length (cellsQ DL)) := by
              have h : wr.ownsRow _ _ _ _ _ _ := HO.out
              rw [HDL.out] at h
              exact h
            have hst := HOR.out.stored (p * 3) (.int .i64 3)
            have hgl := HOR.out.lt g rfl
            have hce := HOR.out.cellAt (p * 3) (by omega)
            rw [(cellsQ_get DL p _ ha).1] at hce
            have hfz := HOR.out.frozenAt (p * 3)
            have HO9 : Hid (RowQ (wr.setCell ⟨g, p * 3, none⟩ (.int .i64 3)) w2.heap.size (.slice (some ⟨g, 0, none⟩) l.length cap) (delP l.length (PL.take (q + 1)))) := by
              show World.ownsRow _ _ _ _ _ _ _
              rw [HDS.out, ← cellsQ_set DL p _ _ _ ha, List.length_set, HDL.out]
              exact hst.1
            have HB9 : Hid (Below w2.heap.size w2 (wr.setCell ⟨g, p * 3, none⟩ (.int .i64 3))) := HB.out.setCell (p := ⟨g, p * 3, none⟩) hgl.1 _
            have HNE : Hid (b ≠ g) := HVN.out g rfl ⟨b, off, none⟩ rfl
            have HI9 : Hid (IntW (wr.setCell ⟨g, p * 3, none⟩ (.int .i64 3)) (some ⟨b, off, none⟩) PL) := intW_set HI.out HNE.out
            clear hst hgl HO HB HI HOR ha
            go_wp2_with fail
            go_roundw
            case rel => exact ⟨q + 1, by omega, by go_num, HO9, HB9, HI9⟩
            case measure => simp [intOf]; omega
          · obtain rfl : q = PL.length := by omega
            have hd2 : decide ((PL.length : Int) < (PL.length : Int)) = false := decide_eq_false (by omega)
            have HBX := Lib.hid (below_thenE HB2.out HB.out)
            have HOX := HO.out
            rw [List.take_length, HPE.out] at HOX
            have HOE := Lib.hid (own_lowerP HOX (Nat.le_of_lt HG2.out))
            clear HO HOX
            go_wp2_with fail
            go_ret2
            exact .inr ⟨V, rfl, HOE.out, HBX.out⟩
end Go.Proofs.YtijfcmlgohbndaaGreatDoor
