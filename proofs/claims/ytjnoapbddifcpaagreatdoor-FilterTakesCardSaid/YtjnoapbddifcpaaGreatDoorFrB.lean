/-
  The document's filter: Make.
-/
import Derived.Test.YtjnoapbddifcpaaGreatDoorPkBA
import Derived.Test.YtjnoapbddifcpaaGreatDoorPkBB
import Derived.Test.YtjnoapbddifcpaaGreatDoorPkCI
namespace Go.Proofs.YtjnoapbddifcpaaGreatDoor
set_option maxRecDepth 100000
set_option linter.unusedSimpArgs false
set_option linter.unusedVariables false
open Go.RowKit Go.Joins Go.Deep
open Go.Lib hiding intOf
theorem info_filD : (Tryz.prog.info? 42).map (·.size) = some 2 := by kernel_rfl
theorem zero_filD (w : World) : (zeroValue 42).run Tryz.prog w = .ok (.agg #[.slice none 0 0, .slice none 0 0]) w := by kernel_rfl
theorem setRow_farD (w : World) (g j : Nat) (cs : Array Value) (h : j ≠ g) : (w.setRow g cs).heap[j]? = w.heap[j]? := by
  unfold World.setRow
  rw [Array.getElem?_modify, if_neg (fun e => h e.symm)]
theorem keepD_setRow {w : World} {g : Nat} {cs : Array Value} {T : TypeId} {f : Nat × Nat} (hg : w.heap[g]? = some (.cells cs T f)) (h1 : T ≠ 76) (h2 : T ≠ 104) (h3 : T ≠ 107) (v : Array Value) : KeepD w (w.setRow g v) := fun T' b cs' hT hx => by
  refine (setRow_farD _ _ _ _ (fun e => ?_)).trans hx
  subst e
  rw [hg] at hx
  injection hx with hx
  injection hx with _ hx _
  subst hx
  rcases hT with h | h | h
  · exact h1 h
  · exact h2 h
  · exact h3 h
/-- The row while it grows. -/
def RowE (B : Nat) (wr : World) (v : Value) (qs : List (Value × List Atm)) : Prop := wr.ownsRow B 76 1 v qs.length (qs.map (·.1)) ∧ ∀ q ∈ qs, PVd wr q.1 q.2
theorem RowE.below {B : Nat} {w w' : World} {v : Value} {qs : List (Value × List Atm)} (h : RowE B w v qs) (hb : Below w.heap.size w w') : RowE B w' v qs := ⟨own_below' h.1 hb, fun q hq => (h.2 q hq).below hb⟩
theorem RowE.set {B : Nat} {w : World} {v : Value} {qs : List (Value × List Atm)} (h : RowE B w v qs) {g i : Nat} {cs : Array Value} (hg : w.heap[g]? = some (.cells cs 42 (0, 0))) (hB : g < B) (x : Value) : RowE B (w.setCell ⟨g, i, none⟩ x) v qs :=
  ⟨ownsRow_setCell_below h.1 (a := ⟨g, i, none⟩) hB x, fun q hq => (h.2 q hq).keep (keepD_set hg (by decide) (by decide) (by decide) x)⟩
theorem patE_of_own {B : Nat} {wr : World} {A : Option Addr} {c : Nat} {qs : List (Value × List Atm)} (h : RowE B wr (.slice A qs.length c) qs) : PatD wr A (qs.map (·.2)) := fun h0 => by
  obtain ⟨ho, hq⟩ := h
  rw [List.length_map] at h0
  obtain ⟨b, cur, e, hb, hc⟩ := own_curD ho h0
  refine ⟨b, cur, e, hb, fun i p hp => ?_⟩
  rw [List.getElem?_map] at hp
  obtain ⟨q, hqi, rfl⟩ := Option.map_eq_some_iff.1 hp
  exact ⟨q.1, hc _ _ (by rw [List.getElem?_map, hqi]; rfl), hq q (List.mem_of_getElem? hqi)⟩
/-- A filter of the document's. -/
def FilD (w : World) (V : Value) (ins outs : List (List Atm)) : Prop := ∃ A1 c1 A2 c2, V = .agg #[.slice A1 ins.length c1, .slice A2 outs.length c2] ∧ PatD w A1 ins ∧ PatD w A2 outs
theorem FilD.below {w w' : World} {V : Value} {ins outs : List (List Atm)} (h : FilD w V ins outs) (hb : Below w.heap.size w w') : FilD w' V ins outs := by
  obtain ⟨A1, c1, A2, c2, e, h1, h2⟩ := h
  exact ⟨A1, c1, A2, c2, e, h1.below hb, h2.below hb⟩
def MakD (w : World) (ssi sso : List ByteArray) (e : Ending) (w' : World) : Prop :=
  ((∃ s ∈ ssi ++ sso, cmp1 s = none) ∧ e = .returned (.tuple #[.agg #[.slice none 0 0, .slice none 0 0], .int .i64 22]) ∧ Below w.heap.size w w') ∨
  (∃ ins outs A1 c1 A2 c2, ssi.map cmp1 = ins.map some ∧ sso.map cmp1 = outs.map some ∧ e = .returned (.tuple #[.agg #[.slice A1 ins.length c1, .slice A2 outs.length c2], .int .i64 0]) ∧ FilD w' (.agg #[.slice A1 ins.length c1, .slice A2 outs.length c2]) ins outs ∧ Below w.heap.size w w')
/-- Make on its way: the answer's cells, the filter's. -/
def FmS (w wr : World) (V1 V2 : Value) : Prop := wr.heap[w.heap.size]? = some (.cells #[.slice none 0 0, .slice none 0 0] 42 (0, 0)) ∧ wr.heap[w.heap.size + 1]? = some (.cells #[V1, V2] 42 (0, 0)) ∧ Below w.heap.size w wr
theorem FmS.next {w x z : World} {V1 V2 : Value} (h : FmS w x V1 V2) (hb : Below x.heap.size x z) : FmS w z V1 V2 :=
  ⟨(hb.block _ (lt_of_block h.1)).trans h.1, (hb.block _ (lt_of_block h.2.1)).trans h.2.1, h.2.2.trans (hb.mono h.2.2.size)⟩
theorem FmS.set0 {w x : World} {V1 V2 : Value} (h : FmS w x V1 V2) (v : Value) : FmS w (x.setCell ⟨w.heap.size + 1, 0, none⟩ v) v V2 :=
  ⟨(Below.heap_setCell _ _ _ _ (by simp only [ne_eq]; omega)).trans h.1, (heap_setCell_same x _ 0 _ _ v h.2.1), h.2.2.setCell (p := ⟨w.heap.size + 1, 0, none⟩) (Nat.le_succ _) _⟩
theorem FmS.set1 {w x : World} {V1 V2 : Value} (h : FmS w x V1 V2) (v : Value) : FmS w (x.setCell ⟨w.heap.size + 1, 1, none⟩ v) V1 v :=
  ⟨(Below.heap_setCell _ _ _ _ (by simp only [ne_eq]; omega)).trans h.1, (heap_setCell_same x _ 1 _ _ v h.2.1), h.2.2.setCell (p := ⟨w.heap.size + 1, 1, none⟩) (Nat.le_succ _) _⟩
set_option maxHeartbeats 4000000 in
theorem rfmakeMany_any (A1 A2 : Option Addr) (c1 c2 n1 n2 : Nat) (h : 100 < n1 ∨ 100 < n2) (w : World) :
    Calls Tryz.prog 10 #[.slice A1 n1 c1, .slice A2 n2 c2] w fun e w' => e = .returned (.tuple #[.agg #[.slice none 0 0, .slice none 0 0], .int .i64 6]) ∧ Below w.heap.size w w' := by
  have hzf := zero_filD
  obtain ⟨w1, hw1⟩ : ∃ w1, w1 = (w.alloc (.cells #[.slice none 0 0, .slice none 0 0] 42)).alloc (.cells #[.slice none 0 0, .slice none 0 0] 42) := ⟨_, rfl⟩
  have HS1 : Hid (FmS w w1 (.slice none 0 0) (.slice none 0 0)) := by show FmS _ _ _ _; rw [hw1]; exact ⟨two_first _ _ _, two_second _ _ _, below_two _ _ _⟩
  have HW1 := Lib.hid hw1
  clear hw1
  go_enter Tryz.func10, Tryz.ntmps10
  go_upto_region 2 with fail
  rw [← HW1.out]
  clear HW1
  have fin : ∀ (tm : Bool), True := fun _ => trivial
  by_cases h1 : 100 < n1
  · have d1 : decide ((100 : Int) < (n1 : Int)) = true := decide_eq_true (by omega)
    have p1 : (100 : Int) < (n1 : Int) := by omega
    go_wp2_with (first | (refine wpList_load_row rfl 42 (.tmp 6) rfl (w.heap.size + 1) rfl 42 _ (0, 0) _ HS1.out.2.1 Tryz.underlying42 rfl info_filD ?_) | (refine wpList_store_row rfl 42 (.tmp 4) (.tmp 23) rfl w.heap.size #[.slice none 0 0, .slice none 0 0] rfl rfl 42 _ HS1.out.1 info_filD rfl (by simp [Value.oneCell']) ?_))
    have HY := Lib.hid (setRow_heap _ _ _ #[.slice none 0 0, .slice none 0 0] _ _ HS1.out.1)
    exact bodyPost_ret (results_ct_rowD rfl _ _ w.heap.size 42 #[.slice none 0 0, .slice none 0 0] (0, 0) _ rfl HY.out Tryz.underlying42 rfl info_filD) rfl ⟨rfl, below_setRow HS1.out.2.2 (Nat.le_refl _) _⟩
  · have h2 : 100 < n2 := by omega
    have d1 : decide ((100 : Int) < (n1 : Int)) = false := decide_eq_false (by omega)
    have p1 : ¬ (100 : Int) < (n1 : Int) := by omega
    have d2 : decide ((100 : Int) < (n2 : Int)) = true := decide_eq_true (by omega)
    have p2 : (100 : Int) < (n2 : Int) := by omega
    go_wp2_with (first | (refine wpList_load_row rfl 42 (.tmp 6) rfl (w.heap.size + 1) rfl 42 _ (0, 0) _ HS1.out.2.1 Tryz.underlying42 rfl info_filD ?_) | (refine wpList_store_row rfl 42 (.tmp 4) (.tmp 23) rfl w.heap.size #[.slice none 0 0, .slice none 0 0] rfl rfl 42 _ HS1.out.1 info_filD rfl (by simp [Value.oneCell']) ?_))
    have HY := Lib.hid (setRow_heap _ _ _ #[.slice none 0 0, .slice none 0 0] _ _ HS1.out.1)
    exact bodyPost_ret (results_ct_rowD rfl _ _ w.heap.size 42 #[.slice none 0 0, .slice none 0 0] (0, 0) _ rfl HY.out Tryz.underlying42 rfl info_filD) rfl ⟨rfl, below_setRow HS1.out.2.2 (Nat.le_refl _) _⟩

set_option maxHeartbeats 32000000 in
theorem rfmake_any (A1 A2 : Option Addr) (c1 c2 : Nat) (ssi sso : List ByteArray) (h1 : ssi.length ≤ 100) (h2 : sso.length ≤ 100) (hs1 : ∀ s ∈ ssi, s.size ≤ 65535) (hs2 : ∀ s ∈ sso, s.size ≤ 65535) (w : World) (hT1 : TxS w A1 ssi) (hT2 : TxS w A2 sso) :
    Calls Tryz.prog 10 #[.slice A1 ssi.length c1, .slice A2 sso.length c2] w (MakD w ssi sso) := by
  have hzf := zero_filD
  obtain ⟨i0, hi, hz0, hz1, hz2⟩ := parts_of parts_patD
  obtain ⟨w1, hw1⟩ : ∃ w1, w1 = (w.alloc (.cells #[.slice none 0 0, .slice none 0 0] 42)).alloc (.cells #[.slice none 0 0, .slice none 0 0] 42) := ⟨_, rfl⟩
  have HS1 : Hid (FmS w w1 (.slice none 0 0) (.slice none 0 0)) := by show FmS _ _ _ _; rw [hw1]; exact ⟨two_first _ _ _, two_second _ _ _, below_two _ _ _⟩
  have HT1 := Lib.hid (fun wz (hb : Below w.heap.size w wz) => hT1.below hb)
  have HT2 := Lib.hid (fun wz (hb : Below w.heap.size w wz) => hT2.below hb)
  have HSI := Lib.hid hs1
  have HSO := Lib.hid hs2
  have HBB1 : Hid (w1.heap.size ≤ w1.heap.size ∧ w.heap.size + 1 < w1.heap.size) := ⟨Nat.le_refl _, lt_of_block HS1.out.2.1⟩
  have HW1 := Lib.hid hw1
  have d1 : decide ((100 : Int) < (ssi.length : Int)) = false := decide_eq_false (by omega)
  have p1 : ¬ (100 : Int) < (ssi.length : Int) := by omega
  have d2 : decide ((100 : Int) < (sso.length : Int)) = false := decide_eq_false (by omega)
  have p2 : ¬ (100 : Int) < (sso.length : Int) := by omega
  clear hw1 hT1 hT2 hs1 hs2
  go_enter Tryz.func10, Tryz.ntmps10
  go_upto_region 2 with fail
  rw [← HW1.out]
  clear HW1
  go_upto_region 5 with fail
  go_loopw [26] (fun v26 wr => ∃ (k : Nat) (A0 : Option Addr) (c0 : Nat) (ps : List (Value × List Atm)), k ≤ ssi.length ∧ v26 = .int .i64 (k : Nat) ∧ Hid (FmS w wr (.slice A0 k c0) (.slice none 0 0)) ∧ Hid (ps.length = k ∧ RowE w1.heap.size wr (.slice A0 k c0) ps ∧ (ssi.take k).map cmp1 = (ps.map (·.2)).map some) ∧ Hid (w1.heap.size ≤ wr.heap.size)) (fun v _ => ssi.length - (intOf v).toNat)
  case atStart => exact ⟨0, none, 0, [], Nat.zero_le _, rfl, HS1, ⟨rfl, ⟨World.ownsRow_nil _ _ _ _, fun q hq => by cases hq⟩, rfl⟩, HBB1.out.1⟩
  case round =>
    obtain ⟨k, A0, c0, ps, hk, rfl, HFS, HQ, HBS⟩ := hrel
    by_cases hlt : k < ssi.length
    · have hd : decide ((k : Int) < (ssi.length : Int)) = true := decide_eq_true (by omega)
      have hk2 : k < 200 := by omega
      obtain ⟨b, off, rfl, hb, hc⟩ := (HT1.out wr HFS.out.2.2) (by omega)
      have c1 := hc k ssi[k] (List.getElem?_eq_getElem hlt)
      have HMEM : Hid (ssi[k] ∈ ssi) := List.getElem_mem hlt
      have HC := Lib.hid (rcompile_any ssi[k] (HSI.out _ HMEM.out) wr)
      have HTK : Hid ((ssi.take (k + 1)).map cmp1 = (ssi.take k).map cmp1 ++ [cmp1 ssi[k]]) := by
        show _ = _
        rw [List.take_succ_eq_append_getElem hlt, List.map_append]
        rfl
      rw [show compF (runesB ssi[k]) 0 [] = cmp1 ssi[k] from rfl] at HC
      clear hc
      generalize ssi[k] = sk at *
      go_wp2_with fail
      refine HC.out.mono ?_; rintro e w2 hout
      clear c1 HC
      rcases hout with ⟨hnone, rfl, hb2⟩ | ⟨ats, A5, c5, hsome, rfl, hat, hb2⟩
      · have HN : Hid (∃ s ∈ ssi ++ sso, cmp1 s = none) := ⟨sk, List.mem_append.2 (.inl HMEM.out), hnone⟩
        have HF2 := Lib.hid (HFS.out.next hb2)
        clear hnone hb2
        go_wp2_with (refine wpList_store_row rfl 42 (.tmp 4) (.tmp 37) rfl w.heap.size #[.slice none 0 0, .slice none 0 0] rfl rfl 42 _ HF2.out.1 info_filD rfl (by simp [Value.oneCell']) ?_)
        have HY := Lib.hid (setRow_heap _ _ _ #[.slice none 0 0, .slice none 0 0] _ _ HF2.out.1)
        exact bodyPost_ret (results_ct_rowD rfl _ _ w.heap.size 42 #[.slice none 0 0, .slice none 0 0] (0, 0) _ rfl HY.out Tryz.underlying42 rfl info_filD) rfl (.inl ⟨HN.out, rfl, below_setRow HF2.out.2.2 (Nat.le_refl _) _⟩)
      · have HSM : Hid (cmp1 sk = some ats) := hsome
        have HF2 := Lib.hid (HFS.out.next hb2)
        have HR2 := Lib.hid (HQ.out.2.1.below hb2)

        obtain ⟨w3, hw3⟩ : ∃ w3, w3 = w2.alloc (.cells #[.slice A5 ats.length c5] 76) := ⟨_, rfl⟩
        have hb3 : Below w2.heap.size w2 w3 := by rw [hw3]; exact below_alG w2 _
        have HF3 := Lib.hid (HF2.out.next hb3)
        have HR3 := Lib.hid (HR2.out.below hb3)

        have HX3 : Hid (w3.heap[w2.heap.size]? = some (.cells #[.slice A5 ats.length c5] 76 (0, 0))) := by show _ = _; rw [hw3]; exact heap_alloc_new w2 _
        have HPV : Hid (PVd w3 (.slice A5 ats.length c5) ats) := ⟨A5, c5, rfl, hat.below hb3⟩
        have p0 := (cell_of_row _ _ 0 _ _ _ HF2.out.2.1).trans (show _ = some (Value.slice A0 k c0) from rfl)
        have HLQ : Hid (ps.length = k) := HQ.out.1
        have HTQ : Hid ((ssi.take k).map cmp1 = (ps.map (·.2)).map some) := HQ.out.2.2
        have HO3 : Hid (w3.ownsRow w1.heap.size 76 1 (.slice A0 k c0) k (ps.map (·.1))) := by
          have h := HR3.out.1
          rw [HLQ.out] at h
          exact h
        have HNW : Hid (∀ j u, [Value.slice A5 ats.length c5][j]? = some u → w3.cell? ((⟨w2.heap.size, 0, none⟩ : Addr).add j) = some u) := fun j u hj => by
          rw [Addr.add_lit, Nat.zero_add, cell_of_row _ _ j _ _ _ HX3.out]
          simpa using hj
        have HS3 : Hid (w1.heap.size ≤ w3.heap.size) := Nat.le_trans HBS.out (Nat.le_trans hb2.size hb3.size)
        have HW3 := Lib.hid hw3
        clear hsome hb2 hb3 hw3 hat HQ HF2 HR2 HFS
        go_wp2_with (at_builtin; rw [← HW3.out]; (refine wpList_append_own_at _ rfl (.tmp 40) (.tmp 42) _ rfl w1.heap.size 76 i0 (.slice none 0 0) 1 24 Tryz.underlying40 hi hz0 hz1 hz2 rfl (by decide) (.slice A0 k c0) k (ps.map (·.1)) rfl HO3.out ⟨w2.heap.size, 0, none⟩ 1 1 [.slice A5 ats.length c5] rfl rfl ?c1 ?c2 ?c3 ?c0 ?c5 ?_))
        case c1 => exact HNW.out
        case c2 => intro u hu; simp at hu; subst hu; rfl
        case c3 => unfold maxLen; omega
        case c0 => omega
        case c5 => exact HS3.out
        intro v9 w9 hown hgrow hnil hat
        obtain ⟨A9, c9, rfl⟩ := row_slice2 hown
        have HLT := Lib.hid (fun q hq => (HO3.out.lt q hq).1)
        have HF9 : Hid (FmS w w9 (.slice A0 k c0) (.slice none 0 0)) := ⟨(hgrow.block _ (lt_of_block HF3.out.1) (fun e => by have := HLT.out _ e.symm; have := HBB1.out.2; omega)).trans HF3.out.1, (hgrow.block _ (lt_of_block HF3.out.2.1) (fun e => by have := HLT.out _ e.symm; have := HBB1.out.2; omega)).trans HF3.out.2.1, HF3.out.2.2.grown hgrow HF3.out.2.2.size (fun j hj => by have := HLT.out j hj; have := HBB1.out.2; omega)⟩
        have HR9 : Hid (RowE w1.heap.size w9 (.slice A9 (k + 1) c9) (ps ++ [(Value.slice A5 ats.length c5, ats)])) := by
          refine ⟨?_, fun q hq => ?_⟩
          · rw [List.length_append, List.map_append, HLQ.out]
            exact hown
          · rcases List.mem_append.1 hq with hq | hq
            · exact (HR3.out.2 q hq).grow HO3.out hgrow
            · obtain rfl : q = (Value.slice A5 ats.length c5, ats) := by simpa using hq
              exact HPV.out.grow HO3.out hgrow

        have q0 := (cell_of_row _ _ 0 _ _ _ HF9.out.2.1).trans (show _ = some (Value.slice A0 k c0) from rfl)
        have z0 := Lib.frozen_of_heap HF9.out.2.1 0
        have HBE : Hid (w1.heap.size ≤ (w9.setCell ⟨w.heap.size + 1, 0, none⟩ (.slice A9 (k + 1) c9)).heap.size) := Nat.le_trans HS3.out (Nat.le_trans hgrow.size (by simp [World.setCell]))
        have HFE := Lib.hid (HF9.out.set0 (.slice A9 (k + 1) c9))
        have HRE := Lib.hid (HR9.out.set (i := 0) HF9.out.2.1 HBB1.out.2 (.slice A9 (k + 1) c9))
        clear hown hgrow hnil hat HF3 HR3 HX3 HPV HNW HS3 HW3 HO3 HLT p0
        go_wp2_with fail
        go_roundw
        case rel =>
          refine ⟨k + 1, A9, c9, ps ++ [(Value.slice A5 ats.length c5, ats)], by omega, by go_num, HFE, ⟨by rw [List.length_append, HLQ.out]; rfl, HRE.out, ?_⟩, HBE⟩
          rw [HTK.out, HTQ.out, HSM.out]
          simp
        case measure => simp [intOf]; omega
    · obtain rfl : k = ssi.length := by omega
      have hd : decide ((ssi.length : Int) < (ssi.length : Int)) = false := decide_eq_false (by omega)
      have HIN := Lib.hid (show ps.length = ssi.length ∧ True ∧ ssi.map cmp1 = (ps.map (·.2)).map some from ⟨HQ.out.1, trivial, by have h := HQ.out.2.2; rw [List.take_length] at h; exact h⟩)
      obtain ⟨B2, hB2⟩ : ∃ B2, B2 = wr.heap.size := ⟨_, rfl⟩
      have HP0 : Hid (RowE w1.heap.size wr (.slice A0 ssi.length c0) ps ∧ ∀ q, (Value.slice A0 ssi.length c0).ownBlock = some q → q < B2) := ⟨HQ.out.2.1, fun q hq => by rw [hB2]; exact (HQ.out.2.1.1.lt q hq).2⟩
      have HBB2 : Hid (B2 ≤ wr.heap.size ∧ w.heap.size + 1 < B2) := ⟨by omega, by rw [hB2]; exact lt_of_block HFS.out.2.1⟩
      have HF0 := HFS
      clear hB2 HQ HFS
      go_wp2_with fail

      go_loopw [48] (fun v48 wr => ∃ (k : Nat) (A4 : Option Addr) (c4 : Nat) (qs : List (Value × List Atm)), k ≤ sso.length ∧ v48 = .int .i64 (k : Nat) ∧ Hid (FmS w wr (.slice A0 ssi.length c0) (.slice A4 k c4)) ∧ Hid (qs.length = k ∧ RowE B2 wr (.slice A4 k c4) qs ∧ (sso.take k).map cmp1 = (qs.map (·.2)).map some) ∧ Hid (B2 ≤ wr.heap.size) ∧ Hid (RowE w1.heap.size wr (.slice A0 ssi.length c0) ps ∧ ∀ q, (Value.slice A0 ssi.length c0).ownBlock = some q → q < B2)) (fun v _ => sso.length - (intOf v).toNat)
      case atStart => exact ⟨0, none, 0, [], Nat.zero_le _, rfl, HF0, ⟨rfl, ⟨World.ownsRow_nil _ _ _ _, fun q hq => by cases hq⟩, rfl⟩, HBB2.out.1, HP0⟩
      case round =>
        obtain ⟨k, A4, c4, qs, hk, rfl, HFS, HQ, HBS, HP1⟩ := hrel
        by_cases hlt : k < sso.length
        · have hd : decide ((k : Int) < (sso.length : Int)) = true := decide_eq_true (by omega)
          have hk2 : k < 200 := by omega
          obtain ⟨b, off, rfl, hb, hc⟩ := (HT2.out wr HFS.out.2.2) (by omega)
          have c1 := hc k sso[k] (List.getElem?_eq_getElem hlt)
          have HMEM : Hid (sso[k] ∈ sso) := List.getElem_mem hlt
          have HC := Lib.hid (rcompile_any sso[k] (HSO.out _ HMEM.out) wr)
          have HTK : Hid ((sso.take (k + 1)).map cmp1 = (sso.take k).map cmp1 ++ [cmp1 sso[k]]) := by
            show _ = _
            rw [List.take_succ_eq_append_getElem hlt, List.map_append]
            rfl
          rw [show compF (runesB sso[k]) 0 [] = cmp1 sso[k] from rfl] at HC
          clear hc
          generalize sso[k] = sk at *
          go_wp2_with fail
          refine HC.out.mono ?_; rintro e w2 hout
          clear c1 HC
          rcases hout with ⟨hnone, rfl, hb2⟩ | ⟨ats, A5, c5, hsome, rfl, hat, hb2⟩
          · have HN : Hid (∃ s ∈ ssi ++ sso, cmp1 s = none) := ⟨sk, List.mem_append.2 (.inr HMEM.out), hnone⟩
            have HF2 := Lib.hid (HFS.out.next hb2)
            clear hnone hb2
            go_wp2_with (refine wpList_store_row rfl 42 (.tmp 4) (.tmp 59) rfl w.heap.size #[.slice none 0 0, .slice none 0 0] rfl rfl 42 _ HF2.out.1 info_filD rfl (by simp [Value.oneCell']) ?_)
            have HY := Lib.hid (setRow_heap _ _ _ #[.slice none 0 0, .slice none 0 0] _ _ HF2.out.1)
            exact bodyPost_ret (results_ct_rowD rfl _ _ w.heap.size 42 #[.slice none 0 0, .slice none 0 0] (0, 0) _ rfl HY.out Tryz.underlying42 rfl info_filD) rfl (.inl ⟨HN.out, rfl, below_setRow HF2.out.2.2 (Nat.le_refl _) _⟩)
          · have HSM : Hid (cmp1 sk = some ats) := hsome
            have HF2 := Lib.hid (HFS.out.next hb2)
            have HR2 := Lib.hid (HQ.out.2.1.below hb2)
            have HP2 : Hid (RowE w1.heap.size w2 (.slice A0 ssi.length c0) ps ∧ ∀ q, (Value.slice A0 ssi.length c0).ownBlock = some q → q < B2) := ⟨HP1.out.1.below hb2, HP1.out.2⟩
            obtain ⟨w3, hw3⟩ : ∃ w3, w3 = w2.alloc (.cells #[.slice A5 ats.length c5] 76) := ⟨_, rfl⟩
            have hb3 : Below w2.heap.size w2 w3 := by rw [hw3]; exact below_alG w2 _
            have HF3 := Lib.hid (HF2.out.next hb3)
            have HR3 := Lib.hid (HR2.out.below hb3)
            have HP3 : Hid (RowE w1.heap.size w3 (.slice A0 ssi.length c0) ps ∧ ∀ q, (Value.slice A0 ssi.length c0).ownBlock = some q → q < B2) := ⟨HP2.out.1.below hb3, HP2.out.2⟩
            have HX3 : Hid (w3.heap[w2.heap.size]? = some (.cells #[.slice A5 ats.length c5] 76 (0, 0))) := by show _ = _; rw [hw3]; exact heap_alloc_new w2 _
            have HPV : Hid (PVd w3 (.slice A5 ats.length c5) ats) := ⟨A5, c5, rfl, hat.below hb3⟩
            have p0 := (cell_of_row _ _ 1 _ _ _ HF2.out.2.1).trans (show _ = some (Value.slice A4 k c4) from rfl)
            have HLQ : Hid (qs.length = k) := HQ.out.1
            have HTQ : Hid ((sso.take k).map cmp1 = (qs.map (·.2)).map some) := HQ.out.2.2
            have HO3 : Hid (w3.ownsRow B2 76 1 (.slice A4 k c4) k (qs.map (·.1))) := by
              have h := HR3.out.1
              rw [HLQ.out] at h
              exact h
            have HNW : Hid (∀ j u, [Value.slice A5 ats.length c5][j]? = some u → w3.cell? ((⟨w2.heap.size, 0, none⟩ : Addr).add j) = some u) := fun j u hj => by
              rw [Addr.add_lit, Nat.zero_add, cell_of_row _ _ j _ _ _ HX3.out]
              simpa using hj
            have HS3 : Hid (B2 ≤ w3.heap.size) := Nat.le_trans HBS.out (Nat.le_trans hb2.size hb3.size)
            have HW3 := Lib.hid hw3
            clear hsome hb2 hb3 hw3 hat HQ HF2 HR2 HFS
            go_wp2_with (at_builtin; rw [← HW3.out]; (refine wpList_append_own_at _ rfl (.tmp 62) (.tmp 64) _ rfl B2 76 i0 (.slice none 0 0) 1 24 Tryz.underlying40 hi hz0 hz1 hz2 rfl (by decide) (.slice A4 k c4) k (qs.map (·.1)) rfl HO3.out ⟨w2.heap.size, 0, none⟩ 1 1 [.slice A5 ats.length c5] rfl rfl ?c1 ?c2 ?c3 ?c4 ?c5 ?_))
            case c1 => exact HNW.out
            case c2 => intro u hu; simp at hu; subst hu; rfl
            case c3 => unfold maxLen; omega
            case c4 => omega
            case c5 => exact HS3.out
            intro v9 w9 hown hgrow hnil hat
            obtain ⟨A9, c9, rfl⟩ := row_slice2 hown
            have HLT := Lib.hid (fun q hq => (HO3.out.lt q hq).1)
            have HF9 : Hid (FmS w w9 (.slice A0 ssi.length c0) (.slice A4 k c4)) := ⟨(hgrow.block _ (lt_of_block HF3.out.1) (fun e => by have := HLT.out _ e.symm; have := HBB2.out.2; omega)).trans HF3.out.1, (hgrow.block _ (lt_of_block HF3.out.2.1) (fun e => by have := HLT.out _ e.symm; have := HBB2.out.2; omega)).trans HF3.out.2.1, HF3.out.2.2.grown hgrow HF3.out.2.2.size (fun j hj => by have := HLT.out j hj; have := HBB2.out.2; omega)⟩
            have HR9 : Hid (RowE B2 w9 (.slice A9 (k + 1) c9) (qs ++ [(Value.slice A5 ats.length c5, ats)])) := by
              refine ⟨?_, fun q hq => ?_⟩
              · rw [List.length_append, List.map_append, HLQ.out]
                exact hown
              · rcases List.mem_append.1 hq with hq | hq
                · exact (HR3.out.2 q hq).grow HO3.out hgrow
                · obtain rfl : q = (Value.slice A5 ats.length c5, ats) := by simpa using hq
                  exact HPV.out.grow HO3.out hgrow
            have HPE : Hid (RowE w1.heap.size (w9.setCell ⟨w.heap.size + 1, 1, none⟩ (.slice A9 (k + 1) c9)) (.slice A0 ssi.length c0) ps ∧ ∀ q, (Value.slice A0 ssi.length c0).ownBlock = some q → q < B2) := by
              refine ⟨RowE.set (i := 1) ⟨HP3.out.1.1.kept hgrow ?_, fun q hq => (HP3.out.1.2 q hq).grow HO3.out hgrow⟩ HF9.out.2.1 HBB1.out.2 _, HP3.out.2⟩
              cases hq : (Value.slice A0 ssi.length c0).ownBlock with
              | none => exact .inl rfl
              | some q =>
                refine .inr fun e => ?_
                have e1 := HLT.out q e.symm
                have e2 := HP3.out.2 q hq
                omega
            have q0 := (cell_of_row _ _ 1 _ _ _ HF9.out.2.1).trans (show _ = some (Value.slice A4 k c4) from rfl)
            have z0 := Lib.frozen_of_heap HF9.out.2.1 1
            have HBE : Hid (B2 ≤ (w9.setCell ⟨w.heap.size + 1, 1, none⟩ (.slice A9 (k + 1) c9)).heap.size) := Nat.le_trans HS3.out (Nat.le_trans hgrow.size (by simp [World.setCell]))
            have HFE := Lib.hid (HF9.out.set1 (.slice A9 (k + 1) c9))
            have HRE := Lib.hid (HR9.out.set (i := 1) HF9.out.2.1 HBB2.out.2 (.slice A9 (k + 1) c9))
            clear hown hgrow hnil hat HF3 HR3 HX3 HPV HNW HS3 HW3 HO3 HLT p0
            go_wp2_with fail
            go_roundw
            case rel =>
              refine ⟨k + 1, A9, c9, qs ++ [(Value.slice A5 ats.length c5, ats)], by omega, by go_num, HFE, ⟨by rw [List.length_append, HLQ.out]; rfl, HRE.out, ?_⟩, HBE, HPE⟩
              rw [HTK.out, HTQ.out, HSM.out]
              simp
            case measure => simp [intOf]; omega
        · obtain rfl : k = sso.length := by omega
          have hd : decide ((sso.length : Int) < (sso.length : Int)) = false := decide_eq_false (by omega)
          have HPO := Lib.hid HQ.out
          have HBX : Hid (wr.heap[w.heap.size]? = some (.cells #[.slice none 0 0, .slice none 0 0] 42 (0, 0))) := HFS.out.1
          have HBE := Lib.hid (below_setRow HFS.out.2.2 (Nat.le_refl _) #[.slice A0 ssi.length c0, .slice A4 sso.length c4])
          go_wp2_with (first | (refine wpList_load_row rfl 42 (.tmp 6) rfl (w.heap.size + 1) rfl 42 _ (0, 0) _ HFS.out.2.1 Tryz.underlying42 rfl info_filD ?_) | (refine wpList_store_row rfl 42 (.tmp 4) (.tmp 68) rfl w.heap.size #[.slice A0 ssi.length c0, .slice A4 sso.length c4] rfl rfl 42 _ HFS.out.1 info_filD rfl (by simp [Value.oneCell']) ?_))
          have HY := Lib.hid (setRow_heap _ _ _ #[.slice A0 ssi.length c0, .slice A4 sso.length c4] _ _ HBX.out)
          refine bodyPost_ret (results_ct_rowD rfl _ _ w.heap.size 42 #[.slice A0 ssi.length c0, .slice A4 sso.length c4] (0, 0) _ rfl HY.out Tryz.underlying42 rfl info_filD) rfl ?_
          obtain ⟨h1, h2, h3⟩ := HPO.out
          obtain ⟨g1, g2, g3⟩ := HIN.out
          rw [List.take_length] at h3
          have hk := keepD_setRow HBX.out (by decide) (by decide) (by decide) #[.slice A0 ssi.length c0, .slice A4 sso.length c4]
          have e1 : (ps.map (·.2)).length = ssi.length := by rw [List.length_map, g1]
          have e2 : (qs.map (·.2)).length = sso.length := by rw [List.length_map, h1]
          refine .inr ⟨ps.map (·.2), qs.map (·.2), A0, c0, A4, c4, g3, h3, by rw [e1, e2]; rfl, ⟨A0, c0, A4, c4, rfl, ?_, ?_⟩, HBE.out⟩
          · have g4 := HP1.out
            rw [← g1] at g4
            exact (patE_of_own g4.1).keep hk
          · rw [← h1] at h2
            exact (patE_of_own h2).keep hk
end Go.Proofs.YtjnoapbddifcpaaGreatDoor
