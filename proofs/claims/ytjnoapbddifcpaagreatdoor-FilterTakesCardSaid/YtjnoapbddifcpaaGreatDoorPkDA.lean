/-
  Items: slices.DeleteFunc, by Tree's closure.
  Filter: Tree.
  The document's filter: what is left of a tree.
-/
import Derived.Test.YtjnoapbddifcpaaGreatDoorPkCH
import Derived.Test.YtjnoapbddifcpaaGreatDoorPkCJ

namespace Go.Proofs.YtjnoapbddifcpaaGreatDoor
set_option maxRecDepth 100000
set_option linter.unusedSimpArgs false
set_option linter.unusedVariables false
open Go.RowKit Go.Joins Go.Deep
open Go.Lib hiding intOf
theorem zero_item (w : World) : (zeroValue 73).run Tryz.prog w = .ok (.agg #[.string ⟨#[]⟩, .int .i64 0, .int .u32 0, .int .u32 0, .int .u32 0, .int .i64 0, .int .i64 0, .string ⟨#[]⟩]) w := by kernel_rfl
/-- The cells of so many zero items. -/
theorem zeroCells_sizeI (z : Array Value) (n : Nat) : (Builtin.zeroCells z n).size = n * z.size := by
  unfold Builtin.zeroCells
  simp
theorem run_clear_items {w : World} {g : Nat} {l : List Itm} (h : IO w g l) (i c : Nat) (hi : i ≤ l.length) (ty : TypeId) :
    ∃ zs : List Value, (Builtin.clear_ #[23] ty #[.slice (some ⟨g, i * 8, none⟩) (l.length - i) c]).run Tryz.prog w = .ok (.tuple #[]) (w.setCells g (i * 8) zs) := by
  by_cases hz : l.length - i = 0
  · refine ⟨[], ?_⟩
    rw [hz]
    simp [Builtin.clear_, run_underlying Tryz.underlying23, World.setCells]
  · refine ⟨(Builtin.zeroCells #[.string ⟨#[]⟩, .int .i64 0, .int .u32 0, .int .u32 0, .int .u32 0, .int .i64 0, .int .i64 0, .string ⟨#[]⟩] (l.length - i)).toList, ?_⟩
    have hlen : (Builtin.zeroCells #[Value.string ⟨#[]⟩, .int .i64 0, .int .u32 0, .int .u32 0, .int .u32 0, .int .i64 0, .int .i64 0, .string ⟨#[]⟩] (l.length - i)).toList.length = (l.length - i) * 8 := by
      rw [Array.length_toList, zeroCells_sizeI]; rfl
    have hone : ∀ v ∈ (Builtin.zeroCells #[Value.string ⟨#[]⟩, .int .i64 0, .int .u32 0, .int .u32 0, .int .u32 0, .int .i64 0, .int .i64 0, .string ⟨#[]⟩] (l.length - i)).toList, v.oneCell' = true := by
      intro v hv
      rw [Builtin.zeroCells, Array.toList_map, List.mem_map] at hv
      obtain ⟨j, _, rfl⟩ := hv
      have h8 : j % 8 < 8 := Nat.mod_lt _ (by decide)
      show ((#[Value.string ⟨#[]⟩, .int .i64 0, .int .u32 0, .int .u32 0, .int .u32 0, .int .i64 0, .int .i64 0, .string ⟨#[]⟩] : Array Value)[j % 8]!).oneCell' = true
      generalize j % 8 = q at h8
      have h9 : q = 0 ∨ q = 1 ∨ q = 2 ∨ q = 3 ∨ q = 4 ∨ q = 5 ∨ q = 6 ∨ q = 7 := by omega
      rcases h9 with rfl | rfl | rfl | rfl | rfl | rfl | rfl | rfl <;> simp [Value.oneCell']
    have hth : ∀ j, j < (l.length - i) * 8 → (w.cell? ⟨g, i * 8 + j, none⟩).isSome = true ∧ w.frozen? ⟨g, i * 8 + j, none⟩ = false := fun j hj => by
      have hk : i + j / 8 < l.length := by omega
      have := (h.2 (i + j / 8) _ (List.getElem?_eq_getElem hk)).2 (j % 8) (Nat.mod_lt _ (by decide))
      rwa [show (i + j / 8) * 8 + j % 8 = i * 8 + j by omega] at this
    have hst := run_storeCells_cells (P := Tryz.prog) g (i * 8) _ 0 w (fun j hj => by rw [hlen] at hj; exact (hth j hj).1) (fun j hj => by rw [hlen] at hj; exact (hth j hj).2) hone
    obtain ⟨n, hn⟩ : ∃ n, l.length - i = n + 1 := ⟨l.length - i - 1, by omega⟩
    rw [hn] at hst ⊢
    simp only [Nat.add_zero] at hst
    simp [Builtin.clear_, run_underlying Tryz.underlying23, zero_item, Value.cells, hst]
theorem filter_snoc {α : Type} (q : α → Bool) (l : List α) (k : Nat) (h : k < l.length) : (l.take (k + 1)).filter q = (l.take k).filter q ++ (if q l[k] then [l[k]] else []) := by
  rw [List.take_succ_eq_append_getElem h, List.filter_append]
  congr 1
  by_cases hq : q l[k] = true
  · rw [if_pos hq, List.filter_cons_of_pos hq]; rfl
  · rw [if_neg hq, List.filter_cons_of_neg hq]; rfl
theorem filter_none {α : Type} (p : α → Bool) (l : List α) (h : l.any p = false) : l.filter (fun x => !p x) = l := by
  rw [List.filter_eq_self]
  intro x hx
  have := List.any_eq_false.1 h x hx
  simpa using this
set_option maxHeartbeats 4000000 in
theorem deleteI_nil (A : Option Addr) (cap gf : Nat) (w : World) :
    Calls Tryz.prog 34 #[.slice A 0 cap, .func (.func 36) #[] #[.pointer (some ⟨gf, 0, none⟩)]] w
      fun e w' => e = .returned (.slice A 0 cap) ∧ Below w.heap.size w w' := by
  have HC := Lib.hid (indexI_any (fun w1 => True) (fun w1 w2 h k => trivial) (fun _ => false) [] A cap gf w (Nat.zero_le _) (fun x hx => by cases hx) trivial (Itms.nil _ _))
  have hz : ([] : List Itm).length = 0 := rfl
  rw [hz] at HC
  go_enter Tryz.func34, Tryz.ntmps34
  go_wp2_with fail
  refine HC.out.mono ?_; rintro e w1 ⟨hb1, hcase⟩
  rcases hcase with ⟨rfl, _⟩ | ⟨k, hk, _⟩
  · have HB := Lib.hid hb1
    clear hb1
    go_wp2_with fail
    go_ret
    exact ⟨rfl, HB.out⟩
  · exact absurd hk (by simp)
set_option maxHeartbeats 8000000 in
theorem deleteI_any (w0 : World) (p : Itm → Bool) (l : List Itm) (g cap gf : Nat) (w : World) (hl : l.length ≤ 100000) (hcap : l.length ≤ cap) (hg : w0.heap.size ≤ g)
    (hP : ∀ x ∈ l, ∀ w1, Below w0.heap.size w0 w1 → Calls Tryz.prog 36 #[.agg x.cells, .pointer (some ⟨gf, 0, none⟩)] w1 fun e w' => e = .returned (.bool (p x)) ∧ Below w1.heap.size w1 w') (hw : Below w0.heap.size w0 w) (hO : IO w g l) :
    Calls Tryz.prog 34 #[.slice (some ⟨g, 0, none⟩) l.length cap, .func (.func 36) #[] #[.pointer (some ⟨gf, 0, none⟩)]] w
      fun e w' => e = .returned (.slice (some ⟨g, 0, none⟩) (l.filter (fun x => !p x)).length cap) ∧ IO w' g (l.filter (fun x => !p x)) ∧ Below w0.heap.size w0 w' := by
  have hir := info_item
  have HC := Lib.hid (indexI_any (fun w1 => Below w0.heap.size w0 w1) (fun w1 w2 h k => below_then h k) p l (some ⟨g, 0, none⟩) cap gf w (by omega) hP hw hO.itms)
  have HP := Lib.hid hP
  have HW := Lib.hid hw
  have HO := Lib.hid hO
  have HG := Lib.hid hg
  obtain ⟨q, hq⟩ : ∃ q : Itm → Bool, q = fun x => !p x := ⟨_, rfl⟩
  have HQ := Lib.hid hq
  rw [← hq]
  have HN := Lib.hid (filter_none p l)
  rw [← hq] at HN
  clear hP hw hO hg hq
  go_enter Tryz.func34, Tryz.ntmps34
  go_wp2_with fail
  refine HC.out.mono ?_; rintro e w1 ⟨hb1, hcase⟩
  have HB1 := Lib.hid (below_then HW.out hb1)
  have HO1 := Lib.hid (HO.out.below hb1)
  clear hb1 HC
  rcases hcase with ⟨rfl, hno⟩ | ⟨k, hk, rfl, hpk, hbef⟩
  · have HE := Lib.hid (HN.out hno)
    clear hno
    go_wp2_with fail
    go_ret
    rw [HE.out]
    exact ⟨rfl, HO1.out, HB1.out⟩
  · have HS : Hid (∃ (i j : Nat) (dk : List Itm), Value.int .i64 (k : Nat) = .int .i64 (i : Nat) ∧ Value.int .i64 ((k : Int) + 1) = .int .i64 (j : Nat) ∧ j ≤ l.length ∧ i < j ∧ Hid (dk.length = l.length) ∧ Hid (dk.take i = (l.take j).filter q) ∧ Hid (∀ t, j ≤ t → dk[t]? = l[t]?) ∧ Hid (IO w1 g dk) ∧ Hid (Below w0.heap.size w0 w1)) :=
      ⟨k, k + 1, l, rfl, by go_num, by omega, by omega, rfl, by
        show l.take k = _
        rw [filter_snoc q l k hk, HQ.out]
        simp only [hpk, Bool.not_true, Bool.false_eq_true, if_false, List.append_nil]
        exact (filter_none p (l.take k) hbef).symm, fun t _ => rfl, HO1, HB1⟩
    have hne : ((k : Int) == -1) = false := beq_eq_false_iff_ne.2 (by omega)
    have hk62 : (k : Int) + 1 < 9223372036854775807 := by omega
    clear hpk hbef HN HO1 HB1 HO HW
    go_wp2_with fail
    go_loopw [5, 6, 7] (fun v5 v6 _ wr => ∃ (i j : Nat) (dk : List Itm), v5 = .int .i64 (i : Nat) ∧ v6 = .int .i64 (j : Nat) ∧ j ≤ l.length ∧ i < j ∧ Hid (dk.length = l.length) ∧ Hid (dk.take i = (l.take j).filter q) ∧ Hid (∀ t, j ≤ t → dk[t]? = l[t]?) ∧ Hid (IO wr g dk) ∧ Hid (Below w0.heap.size w0 wr)) (fun _ v _ _ => l.length - (intOf v).toNat)
    case atStart => exact HS.out
    case round =>
      clear HS hne hk62
      obtain ⟨i, j, dk, rfl, rfl, hj, hij, HL, HT, HR, HI, HB⟩ := hrel
      by_cases hlt : j < l.length
      · have hd : decide ((j : Int) < (l.length : Int)) = true := decide_eq_true (by omega)
        have hjx : dk[j]? = some l[j] := (HR.out j (Nat.le_refl _)).trans (List.getElem?_eq_getElem hlt)
        have hr := (HI.out.2 j l[j] hjx).1
        have c0 := hr 0 _ rfl
        have c1 := hr 1 _ rfl
        have c2 := hr 2 _ rfl
        have c3 := hr 3 _ rfl
        have c4 := hr 4 _ rfl
        have c5 := hr 5 _ rfl
        have c6 := hr 6 _ rfl
        have c7 := hr 7 _ rfl
        rw [Nat.add_zero] at c0
        have hbx := below_alG wr (.cells l[j].cells 73)
        have hx0 := heap_alloc_new wr (.cells l[j].cells 73)
        have HBX := Lib.hid (HB.out.alloc HB.out.size (.cells l[j].cells 73))
        have HCL := Lib.hid (HP.out l[j] (List.getElem_mem hlt) _ HBX.out)
        have HIX := Lib.hid (HI.out.below hbx)
        have HF := Lib.hid (filter_snoc q l j hlt)
        have HX := Lib.hid hx0
        have HQx : Hid (q l[j] = !p l[j]) := by show q l[j] = _; rw [HQ.out]
        have hi62 : (i : Int) + 1 < 9223372036854775807 := by omega
        have hj62 : (j : Int) + 1 < 9223372036854775807 := by omega
        generalize hp : p l[j] = pv at *
        have HIN : Hid (i < dk.length) := by show _ < _; rw [HL.out]; omega
        clear hjx hr hbx hx0 hp
        simp only [Itm.cells] at HCL HX HBX HIX
        have HLX : Hid (q l[j] = !pv) := HQx
        generalize hxx : l[j] = x at *
        have HXX := Lib.hid hxx
        clear hxx HQx
        obtain ⟨x0, x1, x2, x3, x4, x5, x6, x7⟩ := x
        dsimp only at c0 c1 c2 c3 c4 c5 c6 c7 HCL HX HBX HIX
        go_upto_region 8 with fail
        generalize hgp : wr.heap.size = gp at *
        generalize wr.alloc (.cells #[.string x0, .int .i64 x1, .int .u32 x2, .int .u32 x3, .int .u32 x4, .int .i64 x5, .int .i64 x6, .string x7] 73) = wx at *
        go_wp2_with (refine wpList_load_row rfl 73 (.tmp 7) rfl gp rfl 73 _ (0, 0) _ HX.out Tryz.underlying73 rfl info_item ?_)
        refine HCL.out.mono ?_; rintro e w5 ⟨rfl, hb5⟩
        have HB5 := Lib.hid (below_then HBX.out hb5)
        have HI5 := Lib.hid (HIX.out.below hb5)
        have HX5 := Lib.hid ((hb5.block gp (lt_of_block HX.out)).trans HX.out)
        clear hb5 HCL HX HIX HBX HI c0 c1 c2 c3 c4 c5 c6 c7 hgp
        cases pv with
        | true =>
          have HT2 : Hid (dk.take i = (l.take (j + 1)).filter q) := by
            show _ = _
            have h := HF.out
            rw [HLX.out] at h
            rw [h, HT.out]
            simp
          have HR2 : Hid (∀ t, j + 1 ≤ t → dk[t]? = l[t]?) := fun t ht => HR.out t (by omega)
          clear HT HR HF HLX HXX
          go_wp2_with fail
          go_roundw
          case rel => exact ⟨i, j + 1, dk, rfl, by go_num, by omega, by omega, HL, HT2, HR2, HI5, HB5⟩
          case measure => simp [intOf]; omega
        | false =>
          have hth := (HI5.out.2 i dk[i] (List.getElem?_eq_getElem HIN.out)).2
          have HTH := Lib.hid hth
          obtain ⟨y, hy⟩ : ∃ y : Itm, y = ⟨x0, x1, x2, x3, x4, x5, x6, x7⟩ := ⟨_, rfl⟩
          have HI6 := Lib.hid (HI5.out.store i y HIN.out)
          have HB6 := Lib.hid (below_setCells' HG.out y.cellsL (i * 8) w5 HB5.out)
          have HT2 : Hid ((dk.set i y).take (i + 1) = (l.take (j + 1)).filter q) := by
            show _ = _
            have h := HF.out
            rw [HLX.out] at h
            rw [h, ← HT.out, List.take_succ_eq_append_getElem (by rw [List.length_set]; exact HIN.out), List.take_set_of_le (Nat.le_refl _), List.getElem_set_self, hy]
            simp
          have HR2 : Hid (∀ t, j + 1 ≤ t → (dk.set i y)[t]? = l[t]?) := fun t ht => by
            rw [List.getElem?_set_ne (by omega)]
            exact HR.out t (by omega)
          have HL2 : Hid ((dk.set i y).length = l.length) := by show _ = _; rw [List.length_set]; exact HL.out
          have hyl : y.cellsL = (#[.string x0, .int .i64 x1, .int .u32 x2, .int .u32 x3, .int .u32 x4, .int .i64 x5, .int .i64 x6, .string x7] : Array Value).toList := by rw [hy]; rfl
          rw [hyl] at HI6 HB6
          clear HT HR HF HLX HXX hth hyl hy HI5 HB5
          have hin : i < l.length := by omega
          go_wp2_with (first | refine wpList_load_row rfl 73 (.tmp 7) rfl gp rfl 73 _ (0, 0) _ HX5.out Tryz.underlying73 rfl info_item ?_ | refine wpList_store_mid rfl 73 (.tmp 33) (.tmp 32) rfl g (i * 8) _ rfl rfl HTH.out info_item (by simp [Value.oneCell']) ?_; generalize w5.setCells g (i * 8) _ = w6 at *)
          go_roundw
          case rel => exact ⟨i + 1, j + 1, dk.set i y, by go_num, by go_num, by omega, by omega, HL2, HT2, HR2, HI6, HB6⟩
          case measure => simp [intOf]; omega
      · obtain rfl : j = l.length := by omega
        have hd : decide ((l.length : Int) < (l.length : Int)) = false := decide_eq_false (by omega)
        have hIl := HI.out
        obtain ⟨zs, hz⟩ := run_clear_items HI.out i (cap - i) (by rw [HL.out]; omega) 0
        rw [HL.out] at hz
        have hin : i < l.length := hij
        have hHE : (l.filter q).length = i ∧ l.filter q = dk.take i := by
          have h := HT.out
          rw [List.take_length] at h
          rw [← h]
          exact ⟨by rw [List.length_take, HL.out]; omega, rfl⟩
        have HE := Lib.hid hHE
        have HIO : Hid (IO (wr.setCells g (i * 8) zs) g (dk.take i)) := by
          refine ⟨by rw [size_setCells]; exact hIl.1, fun t x hx => ?_⟩
          have ht : t < i := by have := (List.getElem?_eq_some_iff.1 hx).1; rw [List.length_take] at this; omega
          rw [List.getElem?_take, if_pos ht] at hx
          have h2 := hIl.2 t x hx
          have e2 : x.cellsL.length = 8 := rfl
          exact ⟨World.rangeAt_setCells_apart h2.1 _ _ _ (by rw [e2]; omega), World.there_setCells h2.2 _ _ _⟩
        have HBZ := Lib.hid (below_setCells' HG.out zs (i * 8) wr HB.out)
        clear hIl hHE HT HR HL HI HB
        go_upto_region 11 with fail
        go_wp2_with fail
        generalize wr.setCells g (i * 8) zs = w6 at *
        go_ret
        rw [HE.out.2]
        refine ⟨?_, HIO.out, HBZ.out⟩
        rw [← HE.out.2, HE.out.1]
        rfl
end Go.Proofs.YtjnoapbddifcpaaGreatDoor

namespace Go.Proofs.YtjnoapbddifcpaaGreatDoor
set_option maxRecDepth 100000
set_option linter.unusedSimpArgs false
set_option linter.unusedVariables false
open Go.RowKit Go.Joins Go.Deep
open Go.Lib hiding intOf
/-- The items that are meant. -/
noncomputable def keepI (ins outs : List (List Atm)) (l : List Itm) : List Itm := l.filter (fun x => takM ins outs x.s (x.k == 1))
theorem keepI_len (ins outs : List (List Atm)) (l : List Itm) : (keepI ins outs l).length ≤ l.length := List.length_filter_le _ _
set_option maxHeartbeats 8000000 in
theorem ftree_any (F : Array Value) (ins outs : List (List Atm)) (A : Option Addr) (c : Nat) (l : List Itm) (hl : l.length ≤ 100000) (hs : ∀ x ∈ l, x.s.size ≤ 100000) (h1 : SmallP ins) (h2 : SmallP outs) (w : World) (hF : FilV w (.agg F) ins outs) (hT : Tabs w) (hR : Itms w A l) :
    Calls Tryz.prog 16 #[.agg F, .slice A l.length c] w fun e w' => ∃ A' c', e = .returned (.slice A' (keepI ins outs l).length c') ∧ Itms w' A' (keepI ins outs l) ∧ Below w.heap.size w w' := by
  have hF2 : F.size = 2 := by obtain ⟨A1, c1, A2, c2, e, _⟩ := hF; cases e; rfl
  have hif := info_fil
  have hb1 := below_alG w (.cells F 36)
  have hx1 := heap_alloc_new w (.cells F 36)
  have HFX := Lib.hid (hF.below hb1)
  have HTX := Lib.hid (hT.below hb1)
  have HB := Lib.hid hb1
  have HX := Lib.hid hx1
  have HCL := Lib.hid (cloneI_any A c l _ (hR.below hb1) (by omega))
  have HF2 := Lib.hid hF2
  have HS := Lib.hid hs
  have H1 := Lib.hid h1
  have H2 := Lib.hid h2
  clear hb1 hx1 hF hT hR hF2 hs h1 h2
  go_enter Tryz.func16, Tryz.ntmps16
  go_upto_region 1 with fail
  generalize hgf : w.heap.size = gf at *
  generalize w.alloc (.cells F 36) = w1 at *
  go_wp2_with fail
  refine HCL.out.mono ?_; rintro e w2 ⟨A2, c2, rfl, hc2, hN, hb2⟩
  have HP : Hid (∀ x ∈ l, ∀ w3, Below w1.heap.size w1 w3 → Calls Tryz.prog 36 #[.agg x.cells, .pointer (some ⟨gf, 0, none⟩)] w3 fun e w' => e = .returned (.bool (!takM ins outs x.s (x.k == 1))) ∧ Below w3.heap.size w3 w') := fun x hx w3 hb3 =>
    tree1_any gf F ins outs x.s x.k _ _ _ _ _ _ (HS.out x hx) H1.out H2.out w3 (HFX.out.below hb3) (HTX.out.below hb3) ((hb3.block gf (lt_of_block HX.out)).trans HX.out)
  have HB2 := Lib.hid hb2
  clear HCL hb2
  have hkeep : keepI ins outs l = l.filter (fun x => !(!takM ins outs x.s (x.k == 1))) := by
    unfold keepI
    congr 1
    funext x
    rw [Bool.not_not]
  have HK := Lib.hid hkeep
  clear hkeep
  rcases hN with rfl | ⟨g, rfl, hgB, hIO⟩
  · have HD := Lib.hid (deleteI_nil A2 c2 gf w2)
    go_wp2_with fail
    refine HD.out.mono ?_; rintro e w3 ⟨rfl, hb3⟩
    have HB3 := Lib.hid (below_then (below_then (by rw [hgf]; exact HB.out : Below w.heap.size w w1) HB2.out) hb3)
    clear hb3
    go_wp2_with fail
    go_ret
    exact ⟨A2, c2, rfl, Itms.nil _ _, by subst hgf; exact HB3.out⟩
  · have HD := Lib.hid (deleteI_any w1 (fun x => !takM ins outs x.s (x.k == 1)) l g c2 gf w2 hl hc2 hgB HP.out HB2.out hIO)
    rw [← HK.out] at HD
    clear hIO HP
    go_wp2_with fail
    refine HD.out.mono ?_; rintro e w3 ⟨rfl, hI3, hb3⟩
    have HB3 := Lib.hid (below_then (by rw [hgf]; exact HB.out : Below w.heap.size w w1) hb3)
    have HI3 := Lib.hid hI3.itms
    clear hb3 hI3
    go_wp2_with fail
    go_ret
    exact ⟨_, c2, rfl, HI3.out, by subst hgf; exact HB3.out⟩
end Go.Proofs.YtjnoapbddifcpaaGreatDoor

namespace Go.Proofs.YtjnoapbddifcpaaGreatDoor
set_option maxRecDepth 100000
set_option linter.unusedSimpArgs false
set_option linter.unusedVariables false
open Go.RowKit Go.Joins Go.Deep
open Go.Lib hiding intOf
theorem own_newG {w : World} {B : Nat} {l : List Itm} {v : Value} (h : w.ownsRow B 73 8 v l.length (cellsI l)) : ∃ A' c', v = .slice A' l.length c' ∧ NewI w B A' l := by
  rcases h.2 with ⟨he, h0⟩ | ⟨g2, cap2, cur, he, hbg, _⟩
  · exact ⟨none, 0, by rw [he, h0], .inl (List.eq_nil_of_length_eq_zero h0)⟩
  · refine ⟨some ⟨g2, 0, none⟩, cap2, he, .inr ⟨g2, rfl, hbg, ?_⟩⟩
    rw [he] at h
    exact io_of_own h
theorem cells_of2 {w : World} {g : Nat} {X : Itm} (h : w.heap[g]? = some (.cells X.cells 73 (0, 0))) : w.cell? ⟨g, 0, none⟩ = some (.string X.s) ∧ w.cell? ⟨g, 1, none⟩ = some (.int .i64 X.k) ∧ w.cell? ⟨g, 2, none⟩ = some (.int .u32 X.m) ∧ w.cell? ⟨g, 3, none⟩ = some (.int .u32 X.u) ∧ w.cell? ⟨g, 4, none⟩ = some (.int .u32 X.g) ∧ w.cell? ⟨g, 5, none⟩ = some (.int .i64 X.t) ∧ w.cell? ⟨g, 6, none⟩ = some (.int .i64 X.a) ∧ w.cell? ⟨g, 7, none⟩ = some (.string X.d) :=
  ⟨(cell_of_row _ _ 0 _ _ _ h).trans rfl, (cell_of_row _ _ 1 _ _ _ h).trans rfl, (cell_of_row _ _ 2 _ _ _ h).trans rfl, (cell_of_row _ _ 3 _ _ _ h).trans rfl, (cell_of_row _ _ 4 _ _ _ h).trans rfl, (cell_of_row _ _ 5 _ _ _ h).trans rfl, (cell_of_row _ _ 6 _ _ _ h).trans rfl, (cell_of_row _ _ 7 _ _ _ h).trans rfl⟩
theorem news_box2 (w : World) (X : Itm) : ∀ j u, X.cellsL[j]? = some u → (w.alloc (.cells X.cells 73)).cell? ((⟨w.heap.size, 0, none⟩ : Addr).add j) = some u := fun j u hj => by
  rw [Addr.add_lit, Nat.zero_add, cell_of_row _ _ j _ _ _ (heap_alloc_new w _)]
  simpa [Itm.cells, Itm.cellsL] using hj
theorem own_below2 {w w' : World} {base size n : Nat} {e : TypeId} {v : Value} {xs : List Value} (h : w.ownsRow base e size v n xs) (hb : Below w.heap.size w w') : w'.ownsRow base e size v n xs :=
  h.kept (row := none) ⟨hb.os, hb.tape, hb.output, hb.size, fun i hi _ => hb.block i hi⟩ (by cases hv : v.ownBlock <;> simp)
theorem one_box2 (X : Itm) : ∀ u ∈ X.cellsL, u.oneCell' = true := fun u hu => cellsI_one [X] u (by rw [cellsI, cellsI, List.append_nil]; exact hu)
theorem cells_snoc2 (L : List Itm) (X : Itm) : cellsI L ++ X.cellsL = cellsI (L ++ [X]) := by rw [cellsI_app, cellsI, cellsI, List.append_nil]
/-- Those that such a test leaves. -/
def lefG (f : Itm → Bool) (l : List Itm) : List Itm := l.filter fun x => !f x
theorem lefG_snoc (f : Itm → Bool) (l : List Itm) (k : Nat) (h : k < l.length) : lefG f (l.take (k + 1)) = lefG f (l.take k) ++ (if f l[k] = true then [] else [l[k]]) := by
  unfold lefG
  rw [List.take_succ_eq_append_getElem h, List.filter_append]
  congr 1
  by_cases e : f l[k] = true
  · rw [if_pos e, List.filter_cons_of_neg (by rw [e]; decide)]; rfl
  · rw [if_neg e, List.filter_cons_of_pos (by rw [Bool.eq_false_iff.2 e]; rfl)]; rfl
theorem lefG_le (f : Itm → Bool) (l : List Itm) (k : Nat) : (lefG f (l.take k)).length ≤ k := by
  refine Nat.le_trans (List.length_filter_le _ _) ?_
  rw [List.length_take]
  omega
set_option maxHeartbeats 16000000 in
theorem rtree22_any (A : Option Addr) (c : Nat) (l : List Itm) (VF : Value) (ins outs : List (List Atm)) (w : World) (hR : Itms w A l) (hl : l.length ≤ 1000000) (hs : ∀ x ∈ l, x.s.size ≤ 99000) (hF : FilE w VF ins outs) :
    Calls Tryz.prog 17 #[VF, .slice A l.length c] w fun e w' => ∃ A' c', e = .returned (.slice A' (keepI ins outs l).length c') ∧ Itms w' A' (keepI ins outs l) ∧ Below w.heap.size w w' := by
  have hif := info_filD
  obtain ⟨i0, hi, hz0, hz1, hz2⟩ := partsI
  have hir := info_item
  have HR := Lib.hid (fun w1 (hb : Below w.heap.size w w1) => hR.below hb)
  have hFF := hF
  obtain ⟨⟨FA, fa, FB, fb, rfl, _⟩, _⟩ := hFF
  obtain ⟨w1, hw1⟩ : ∃ w1, w1 = w.alloc (.cells #[.slice FA ins.length fa, .slice FB outs.length fb] 42) := ⟨_, rfl⟩
  have hb1 : Below w.heap.size w w1 := by rw [hw1]; exact below_alG w _
  have HX1 : Hid (w1.heap[w.heap.size]? = some (.cells #[.slice FA ins.length fa, .slice FB outs.length fb] 42 (0, 0))) := by show _ = _; rw [hw1]; exact heap_alloc_new w _
  have HFK := Lib.hid (fun w2 (hb : Below w.heap.size w w2) => hF.below hb)
  have HB1 := Lib.hid hb1
  have HW1 := Lib.hid hw1
  have HS := Lib.hid hs
  obtain ⟨F, hFn⟩ : ∃ F : Itm → Bool, F = fun X => !takM ins outs X.s (X.k == 1) := ⟨_, rfl⟩
  rw [show keepI ins outs l = lefG F l from by rw [hFn]; unfold keepI lefG; congr 1; funext X; rw [Bool.not_not]]
  have HF : Hid (∀ X, takM ins outs X.s (X.k == 1) = !F X) := fun X => by rw [hFn, Bool.not_not]
  clear hR hFn hF hw1 hb1 hs
  generalize ins.length = ni at *
  generalize outs.length = no at *
  go_enter Tryz.func17, Tryz.ntmps17
  go_upto_region 1 with fail
  rw [← HW1.out]
  clear HW1
  go_wp2_with fail
  go_loopw [5, 10] (fun v5 v10 wr => ∃ (k : Nat) (V : Value), k ≤ l.length ∧ V = v5 ∧ v10 = .int .i64 (k : Nat) ∧ Hid (wr.ownsRow w1.heap.size 73 8 V (lefG F (l.take k)).length (cellsI (lefG F (l.take k)))) ∧ Hid (Below w1.heap.size w1 wr)) (fun _ v _ => l.length - (intOf v).toNat)
  case atStart => exact ⟨0, _, Nat.zero_le _, rfl, rfl, World.ownsRow_nil _ _ _ _, Below.refl _ _⟩
  case round =>
    obtain ⟨k, V, hk, rfl, rfl, HO, HBR⟩ := hrel
    by_cases hkn : k < l.length
    case neg =>
      obtain rfl : k = l.length := by omega
      have hd : decide ((l.length : Int) < (l.length : Int)) = false := decide_eq_false (by omega)
      have HTK : Hid (l.take l.length = l) := List.take_length
      rw [HTK.out] at HO
      obtain ⟨A7, c7, hv7, hN7⟩ := own_newG HO.out
      have HN7 := Lib.hid hN7
      subst hv7
      clear hN7 HO
      go_wp2_with fail
      go_ret
      exact ⟨A7, c7, rfl, HN7.out.itms, below_then HB1.out HBR.out⟩
    have hd : decide ((k : Int) < (l.length : Int)) = true := decide_eq_true (by omega)
    obtain ⟨b, off, rfl, hb, hcc⟩ := (HR.out wr (below_then HB1.out HBR.out)) (by omega)
    obtain ⟨c0, c1, c2, c3, c4, c5, c6, c7⟩ := hcc k l[k] (List.getElem?_eq_getElem hkn)
    have HSN := Lib.hid (lefG_snoc F l k hkn)
    have HLE := Lib.hid (lefG_le F l k)
    have HSK : Hid (l[k].s.size ≤ 99000) := HS.out _ (List.getElem_mem hkn)
    have HLL : Hid (k ≤ 1000000) := by show _ ≤ _; omega
    obtain ⟨W2, hW2⟩ : ∃ W2, W2 = wr.alloc (.cells l[k].cells 73) := ⟨_, rfl⟩
    have hb2 : Below wr.heap.size wr W2 := by rw [hW2]; exact below_alG wr _
    have HX2 : Hid (W2.heap[wr.heap.size]? = some (.cells l[k].cells 73 (0, 0))) := by show _ = _; rw [hW2]; exact heap_alloc_new wr _
    have HO2 : Hid (W2.ownsRow w1.heap.size 73 8 V (lefG F (l.take k)).length (cellsI (lefG F (l.take k)))) := own_below2 HO.out hb2
    have HB2 := Lib.hid (below_then HBR.out hb2)
    generalize lefG F (l.take k) = L at *
    generalize l[k] = X at *
    have HFX := Lib.hid (HF.out X)
    simp only [Itm.cells] at hW2
    have HW2 := Lib.hid hW2
    clear hcc hb2 hW2 HO HBR
    generalize hgx : wr.heap.size = gx at *
    go_upto_region 5 with fail
    rw [← HW2.out]
    clear HW2 c0 c1 c2 c3 c4 c5 c6 c7
    obtain ⟨x0, x1, x2, x3, x4, x5, x6, x7⟩ := cells_of2 HX2.out
    have HXF := Lib.hid (((HB2.out.block _ (lt_of_block HX1.out)).trans HX1.out : W2.heap[w.heap.size]? = _))
    have HTK := Lib.hid (rtakes22_any _ ins outs X.s (X.k == 1) HSK.out W2 (HFK.out W2 (below_then HB1.out HB2.out)))
    rw [HFX.out] at HTK
    by_cases hbd : F X = true
    · have HNE : Hid (lefG F (l.take (k + 1)) = L) := by show _ = _; rw [HSN.out, if_pos hbd, List.append_nil]
      clear HSN
      rw [hbd] at HTK
      go_wp2_with (refine wpList_load_row rfl 42 (.tmp 2) rfl w.heap.size rfl 42 _ (0, 0) _ HXF.out Tryz.underlying42 rfl info_filD ?_)
      refine HTK.out.mono ?_; rintro e w3 ⟨rfl, hb3⟩
      have HO3 := Lib.hid (own_below2 HO2.out hb3)
      have HB3 := Lib.hid (below_then HB2.out hb3)
      clear hb3 HTK HO2
      go_wp2_with fail
      go_roundw
      case rel => exact ⟨k + 1, _, by omega, rfl, by go_num, by rw [HNE.out]; exact HO3, HB3⟩
      case measure => simp [intOf]; omega
    · have hbd := Bool.eq_false_iff.2 hbd
      have HNE : Hid (lefG F (l.take (k + 1)) = L ++ [X]) := by show _ = _; rw [HSN.out, if_neg (by rw [hbd]; decide)]
      rw [hbd] at HTK
      clear HSN
      go_wp2_with (refine wpList_load_row rfl 42 (.tmp 2) rfl w.heap.size rfl 42 _ (0, 0) _ HXF.out Tryz.underlying42 rfl info_filD ?_)
      refine HTK.out.mono ?_; rintro e w3 ⟨rfl, hb3⟩
      have HO3 := Lib.hid (own_below2 HO2.out hb3)
      have HB3 := Lib.hid (below_then HB2.out hb3)
      have HX3 := Lib.hid ((hb3.block _ (lt_of_block HX2.out)).trans HX2.out)
      clear hb3 HTK HO2 x0 x1 x2 x3 x4 x5 x6 x7
      obtain ⟨x0, x1, x2, x3, x4, x5, x6, x7⟩ := cells_of2 HX3.out
      have HO6 := Lib.hid (HO3.out.alloc (.cells X.cells 73))
      have HQ6 := Lib.hid (news_box2 w3 X)
      have HB6 := Lib.hid (HB3.out.alloc HB3.out.size (.cells X.cells 73))
      simp only [Itm.cells] at HO6 HQ6 HB6
      clear HO3
      go_wp2_with (at_builtin; refine wpList_append_own _ rfl _ _ 23 rfl w1.heap.size 73 i0 (.agg #[.string ⟨#[]⟩, .int .i64 0, .int .u32 0, .int .u32 0, .int .u32 0, .int .i64 0, .int .i64 0, .string ⟨#[]⟩]) 8 72 Tryz.underlying23 hi hz0 hz1 hz2 rfl (by decide) _ _ _ rfl HO6.out ⟨w3.heap.size, 0, none⟩ 1 1 X.cellsL rfl ?qc1 ?qc2 ?qc3 ?qc4 ?qc5 ?qc6 ?_)
      case qc1 => rfl
      case qc2 => exact HQ6.out
      case qc3 => exact one_box2 X
      case qc4 => have := HLE.out; have := HLL.out; unfold maxLen; omega
      case qc5 => have := HLE.out; have := HLL.out; omega
      case qc6 => exact HB6.out.size
      intro v7 w7 hown7 hgrow7 _
      have HB7 : Hid (Below w1.heap.size w1 w7) := HB6.out.grown hgrow7 HB6.out.size (fun q hq => (HO6.out.lt q hq).1)
      have HO7 : Hid (w7.ownsRow w1.heap.size 73 8 v7 (lefG F (l.take (k + 1))).length (cellsI (lefG F (l.take (k + 1))))) := by
        show World.ownsRow _ _ _ _ _ _ _
        rw [HNE.out, ← cells_snoc2, List.length_append]
        exact hown7
      clear hown7 hgrow7 HO6 HQ6 HB6
      go_wp2_with fail
      go_roundw
      case rel => exact ⟨k + 1, _, by omega, rfl, by go_num, HO7, HB7⟩
      case measure => simp [intOf]; omega
end Go.Proofs.YtjnoapbddifcpaaGreatDoor
