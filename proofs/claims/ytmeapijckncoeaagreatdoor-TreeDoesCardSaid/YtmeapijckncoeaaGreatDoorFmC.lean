/-
  Trees: Fill, of any items.
-/
import Derived.Test.YtmeapijckncoeaaGreatDoorPkBG
import Derived.Test.YtmeapijckncoeaaGreatDoorPkBD
namespace Go.Proofs.YtmeapijckncoeaaGreatDoor
set_option maxRecDepth 100000
set_option linter.unusedSimpArgs false
set_option linter.unusedVariables false
open Go.RowKit Go.Joins Go.Deep Go.WideMaps
open Go.Lib hiding intOf
/-- A node at a path. -/
def Itm.at (D : Itm) (p : ByteArray) : Itm := { D with s := p }
/-- All with the directories that their paths imply, in order. -/
def filL (D : Itm) (t : List Itm) : List Itm := sortI (t ++ (impL t).map D.at)
theorem own_itmsF {w : World} {B : Nat} {l : List Itm} {v : Value} (h : w.ownsRow B 42 8 v l.length (cellsI l)) : ∃ A' c', v = .slice A' l.length c' ∧ Itms w A' l := by
  rcases h.2 with ⟨he, h0⟩ | ⟨g2, cap2, cur, he, hbg, _⟩
  · refine ⟨none, 0, by rw [he, h0], ?_⟩
    rw [List.eq_nil_of_length_eq_zero h0]
    exact Itms.nil _ _
  · refine ⟨some ⟨g2, 0, none⟩, cap2, he, ?_⟩
    rw [he] at h
    exact (io_of_own h).itms
theorem cells_snocF (L : List Itm) (X : Itm) : cellsI L ++ X.cellsL = cellsI (L ++ [X]) := by rw [cellsI_app, cellsI, cellsI, List.append_nil]
theorem one_boxF (X : Itm) : ∀ u ∈ X.cellsL, u.oneCell' = true := fun u hu => cellsI_one [X] u (by rw [cellsI, cellsI, List.append_nil]; exact hu)
theorem news_boxF (w : World) (X : Itm) : ∀ j u, X.cellsL[j]? = some u → (w.alloc (.cells X.cells 42)).cell? ((⟨w.heap.size, 0, none⟩ : Addr).add j) = some u := fun j u hj => by
  rw [Addr.add_lit, Nat.zero_add, cell_of_row _ _ j _ _ _ (heap_alloc_new w _)]
  simpa [Itm.cells, Itm.cellsL] using hj
/-! ### how many are implied -/
theorem impW_len (t : List Itm) : ∀ (r : List ByteArray) (kn out : List ByteArray) (s : List ByteArray × List ByteArray), impW t r (kn, out) = some s → s.2.length ≤ out.length + r.length
  | [], kn, out, s, h => by unfold impW at h; injection h with h; subst h; exact Nat.le_add_right _ _
  | a :: r, kn, out, s, h => by
    unfold impW at h
    split at h
    · injection h with h; subst h; exact Nat.le_add_right _ _
    · split at h
      · split at h
        · have := impW_len t r _ _ s h
          rw [List.length_cons]
          omega
        · cases h
      · have := impW_len t r _ _ s h
        rw [List.length_append, List.length_singleton] at this
        rw [List.length_cons]
        omega
theorem chnF_len : ∀ (n : Nat) (q : ByteArray), (chnF n q).length ≤ n
  | 0, q => Nat.le_refl _
  | n + 1, q => by
    unfold chnF
    split
    · exact Nat.zero_le _
    · rw [List.length_cons]; have := chnF_len n (parB q); omega
theorem par_le (q : ByteArray) : (parB q).size ≤ q.size := by unfold parB; rw [ByteArray.size_extract]; omega
theorem impA_len (t : List Itm) (m : Nat) (hm : ∀ x ∈ t, x.s.size ≤ m) : ∀ (k : Nat) (s : List ByteArray × List ByteArray), k ≤ t.length → impA t (t.take k) = some s → s.2.length ≤ k * m
  | 0, s, _, h => by rw [List.take_zero] at h; injection h with h; subst h; exact Nat.zero_le _
  | k + 1, s, hk, h => by
    rw [List.take_succ_eq_append_getElem (by omega), impA_snoc] at h
    cases e : impA t (t.take k) with
    | none => rw [e] at h; cases h
    | some s1 =>
      rw [e] at h
      have h1 := impA_len t m hm k s1 (by omega) e
      have h2 := impW_len t _ s1.1 s1.2 s h
      have h3 : (chn (parB (t[k]'(by omega)).s)).length ≤ m := by
        unfold chn
        have := chnF_len (parB (t[k]'(by omega)).s).size (parB (t[k]'(by omega)).s)
        have := par_le (t[k]'(by omega)).s
        have := hm _ (List.getElem_mem (by omega : k < t.length))
        omega
      rw [Nat.add_mul]
      omega
theorem impL_len (t : List Itm) (m : Nat) (hm : ∀ x ∈ t, x.s.size ≤ m) : (impL t).length ≤ t.length * m := by
  unfold impL impB impO
  cases e : impA t t with
  | none => exact Nat.zero_le _
  | some s =>
    have h := impA_len t m hm t.length s (Nat.le_refl _) (by rw [List.take_length]; exact e)
    exact h
theorem impW_mem (t : List Itm) (m : Nat) : ∀ (r : List ByteArray) (kn out : List ByteArray) (s : List ByteArray × List ByteArray), impW t r (kn, out) = some s → (∀ p ∈ out, p.size ≤ m) → (∀ p ∈ r, p.size ≤ m) → ∀ p ∈ s.2, p.size ≤ m
  | [], kn, out, s, h, h1, _ => by unfold impW at h; injection h with h; subst h; exact h1
  | a :: r, kn, out, s, h, h1, h2 => by
    unfold impW at h
    have h2' : ∀ p ∈ r, p.size ≤ m := fun p hp => h2 p (List.mem_cons_of_mem _ hp)
    split at h
    · injection h with h; subst h; exact h1
    · split at h
      · split at h
        · exact impW_mem t m r _ _ s h h1 h2'
        · cases h
      · refine impW_mem t m r _ _ s h (fun p hp => ?_) h2'
        rcases List.mem_append.1 hp with hp | hp
        · exact h1 p hp
        · rw [List.mem_singleton] at hp; subst hp; exact h2 _ (List.mem_cons_self ..)
theorem chnF_mem : ∀ (n : Nat) (q p : ByteArray), p ∈ chnF n q → p.size ≤ q.size
  | 0, q, p, h => by cases h
  | n + 1, q, p, h => by
    unfold chnF at h
    split at h
    · cases h
    · rcases List.mem_cons.1 h with rfl | h
      · exact Nat.le_refl _
      · exact Nat.le_trans (chnF_mem n _ p h) (par_le q)
theorem impA_mem (t : List Itm) (m : Nat) (hm : ∀ x ∈ t, x.s.size ≤ m) : ∀ (k : Nat) (s : List ByteArray × List ByteArray), k ≤ t.length → impA t (t.take k) = some s → ∀ p ∈ s.2, p.size ≤ m
  | 0, s, _, h => by rw [List.take_zero] at h; injection h with h; subst h; intro p hp; cases hp
  | k + 1, s, hk, h => by
    rw [List.take_succ_eq_append_getElem (by omega), impA_snoc] at h
    cases e : impA t (t.take k) with
    | none => rw [e] at h; cases h
    | some s1 =>
      rw [e] at h
      refine impW_mem t m _ s1.1 s1.2 s h (impA_mem t m hm k s1 (by omega) e) (fun p hp => ?_)
      have h1 := chnF_mem _ _ _ hp
      have h2 := par_le (t[k]'(by omega)).s
      have h3 := hm _ (List.getElem_mem (by omega : k < t.length))
      omega
theorem impL_mem (t : List Itm) (m : Nat) (hm : ∀ x ∈ t, x.s.size ≤ m) : ∀ p ∈ impL t, p.size ≤ m := by
  unfold impL impB impO
  cases e : impA t t with
  | none => intro p hp; cases hp
  | some s => exact impA_mem t m hm t.length s (Nat.le_refl _) (by rw [List.take_length]; exact e)
set_option maxHeartbeats 16000000 in
theorem tfill_any (A : Option Addr) (c : Nat) (t : List Itm) (D : Itm) (w : World) (hT : Itms w A t) (hl : t.length ≤ 100) (hs : ∀ x ∈ t, x.s.size ≤ 5000) :
    Calls Tryz.prog 8 #[.slice A t.length c, .agg D.node] w fun e w' => ∃ A' c', e = .returned (.tuple #[.slice A' (filL D t).length c', .bool (impB t)]) ∧ NewI w' w.heap.size A' (filL D t) ∧ Below w.heap.size w w' := by
  obtain ⟨i0, hi, hz0, hz1, hz2⟩ := partsI
  have hir := info_item
  have hinod := info_nodeT
  have HLL : Hid ((impL t).length ≤ 500000) := by show _ ≤ _; have h := impL_len t 5000 hs; have : t.length * 5000 ≤ 100 * 5000 := Nat.mul_le_mul_right _ hl; omega
  have HLM := Lib.hid (impL_mem t 5000 hs)
  have HS := Lib.hid hs
  obtain ⟨w1, hw1⟩ : ∃ w1, w1 = w.alloc (.cells D.node 25) := ⟨_, rfl⟩
  have h01 : Below w.heap.size w w1 := by rw [hw1]; exact below_al w _
  have HX1 : Hid (w1.heap[w.heap.size]? = some (.cells D.node 25 (0, 0))) := by show _ = _; rw [hw1]; exact heap_alloc_new w _
  have HB1 := Lib.hid h01
  have HT1 := Lib.hid (hT.below h01)
  have HIM := Lib.hid (timplied_any A c t w1 HT1.out (by omega) (fun x hx => by have := hs x hx; omega))
  obtain ⟨M, hM⟩ : ∃ M, M = impL t := ⟨_, rfl⟩
  have HFL : Hid (filL D t = sortI (t ++ M.map D.at)) := by show _ = _; rw [hM]; rfl
  rw [← hM] at HLL HLM HIM
  generalize filL D t = FL at *
  generalize impB t = IB at *
  simp only [Itm.node] at hw1 HX1 ⊢
  have HW1 := Lib.hid hw1
  clear hT h01 hw1 hs hM
  go_enter Tryz.func8, Tryz.ntmps8
  go_upto_region 1 with fail
  rw [← HW1.out]
  go_wp2_with fail
  refine HIM.out.mono ?_; rintro e w2 ⟨V, rfl, hown, hlen, hb2⟩
  obtain ⟨AV, cV, rfl, hcells⟩ : ∃ AV cV, V = .slice AV M.length cV ∧ ∀ (k : Nat) (s : ByteArray), M[k]? = some s → ∃ gv, AV = some ⟨gv, 0, none⟩ ∧ gv < w2.heap.size ∧ w2.cell? ⟨gv, k, none⟩ = some (.string s) := by
    rcases hown.2 with ⟨he, h0⟩ | ⟨g, cap, cur, he, _⟩
    · refine ⟨none, 0, by rw [he, h0], fun k s hk => ?_⟩
      have := (List.getElem?_eq_some_iff.1 hk).1
      omega
    · refine ⟨some ⟨g, 0, none⟩, cap, he, fun k s hk => ⟨g, rfl, (hown.lt g (by rw [he]; rfl)).2, ?_⟩⟩
      subst he
      have hk1 := (List.getElem?_eq_some_iff.1 hk).1
      rw [hown.cellAt k (by rw [Nat.mul_one]; exact hk1), List.getElem?_map, hk]
      rfl
  have HCS := Lib.hid hcells
  have HB2 := Lib.hid (below_then HB1.out hb2)
  have HX2 := Lib.hid ((hb2.block _ (lt_of_block HX1.out)).trans HX1.out)
  have HCL := Lib.hid (cloneB_any A c t w2 (HT1.out.below hb2) (by omega))
  clear hb2 hown HIM HX1 HT1 HB1 HW1 hlen hcells
  go_wp2_with fail
  refine HCL.out.mono ?_; rintro e w3 ⟨A3, c3, rfl, hc3, hN3, hb3⟩
  have HB3 := Lib.hid hb3
  have hown3 : w3.ownsRow w2.heap.size 42 8 (.slice A3 t.length c3) t.length (cellsI t) := own_of hN3 hc3
  have HO3 := Lib.hid hown3
  have HMI : Hid (∀ (k : Nat) s, M[k]? = some s → M.take (k + 1) = M.take k ++ [s]) := fun k s hk => by
    have hk1 := (List.getElem?_eq_some_iff.1 hk).1
    rw [List.take_succ_eq_append_getElem hk1, (List.getElem?_eq_some_iff.1 hk).2]
  have HSW : Hid (w.heap.size ≤ w2.heap.size) := HB2.out.size
  clear hb3 hN3 hown3 hc3 HCL
  go_wp2_with fail
  go_loopw [8, 20] (fun v8 v20 wr => ∃ (k : Nat) (V : Value), k ≤ M.length ∧ V = v8 ∧ v20 = .int .i64 (k : Nat) ∧ Hid (wr.ownsRow w2.heap.size 42 8 V (t ++ (M.take k).map D.at).length (cellsI (t ++ (M.take k).map D.at))) ∧ Hid (Below w2.heap.size w2 wr)) (fun _ v _ => M.length - (intOf v).toNat)
  case atStart => exact ⟨0, _, Nat.zero_le _, rfl, rfl, by show World.ownsRow _ _ _ _ _ _ _; rw [List.take_zero, List.map_nil, List.append_nil]; exact HO3.out, HB3.out⟩
  case round =>
    clear HO3 HB3
    obtain ⟨k, V, hk, rfl, rfl, HO, HB⟩ := hrel
    by_cases hlt : k < M.length
    case neg =>
      obtain rfl : k = M.length := by omega
      have hd : decide ((M.length : Int) < (M.length : Int)) = false := decide_eq_false (by omega)
      have HTM : Hid (M.take M.length = M) := List.take_length
      rw [HTM.out] at HO
      obtain ⟨A5, c5, rfl, hI5⟩ := own_itmsF HO.out
      have HST := Lib.hid (tsortB_any A5 c5 (t ++ M.map D.at) wr hI5 (by rw [List.length_append, List.length_map]; have := HLL.out; omega) (fun x hx => by
        rcases List.mem_append.1 hx with hx | hx
        · have := HS.out x hx; omega
        · obtain ⟨p, hp, rfl⟩ := List.mem_map.1 hx
          have := HLM.out p hp
          show p.size ≤ _
          omega))
      have HLN : Hid (FL.length = (t ++ M.map D.at).length) := by show _ = _; rw [HFL.out, sortI_len]
      have HBW := Lib.hid (below_then HB2.out HB.out)
      rw [← HFL.out, ← HLN.out] at HST
      have HLN2 := Lib.hid HLN.out.symm
      rw [HLN2.out]
      clear hI5 HO HB HX2 HCS
      go_wp2_with fail
      refine HST.out.mono ?_; rintro e w6 ⟨A6, c6, rfl, hN6, hb6⟩
      have HN6 := Lib.hid hN6
      have HB6 := Lib.hid (below_then HBW.out hb6)
      have HSZ := Lib.hid HBW.out.size
      clear hN6 hb6 HST HBW
      go_wp2_with fail
      go_ret2
      refine ⟨A6, c6, rfl, ?_, HB6.out⟩
      rcases HN6.out with h | ⟨g, e, hg, hio⟩
      · exact .inl h
      · exact .inr ⟨g, e, Nat.le_trans HSZ.out hg, hio⟩
    have hd : decide ((k : Int) < (M.length : Int)) = true := decide_eq_true (by omega)
    obtain ⟨gv, rfl, hgv, hcv⟩ := HCS.out k M[k] (List.getElem?_eq_getElem hlt)
    have HTK := Lib.hid (HMI.out k M[k] (List.getElem?_eq_getElem hlt))
    have c0 : wr.cell? ⟨gv, k, none⟩ = some (.string M[k]) := (HB.out.cell hgv).trans hcv
    have HLQ : Hid ((t ++ (M.take k).map D.at).length ≤ 600000) := by show _ ≤ _; rw [List.length_append, List.length_map, List.length_take]; have := HLL.out; omega
    have HNX : Hid ((t ++ (M.take k).map D.at) ++ [D.at M[k]] = t ++ (M.take (k + 1)).map D.at) := by show _ = _; rw [HTK.out, List.map_append, List.append_assoc]; rfl
    have HXN := Lib.hid ((HB.out.block _ (lt_of_block HX2.out)).trans HX2.out)
    have HO4 := Lib.hid (HO.out.alloc (.cells (D.at M[k]).cells 42))
    have HB4 := Lib.hid (HB.out.alloc HB.out.size (.cells (D.at M[k]).cells 42))
    have HQ4 := Lib.hid (news_boxF wr (D.at M[k]))
    have HO1 := Lib.hid (one_boxF (D.at M[k]))
    have HZ4 : Hid (w2.heap.size ≤ (wr.alloc (.cells (D.at M[k]).cells 42)).heap.size) := Nat.le_trans HB.out.size (below_al wr _).size
    have hkb : k < 500000 := by have := HLL.out; omega
    generalize M[k] = p at *
    generalize t ++ (M.take k).map D.at = L at *
    simp only [Itm.cells, Itm.at] at HO4 HB4 HQ4 HZ4
    clear hcv HTK HO HB
    go_wp2_with (first
      | refine wpList_load_row rfl 25 (.tmp 3) rfl w.heap.size rfl 25 _ (0, 0) _ HXN.out Tryz.underlying25 rfl info_nodeT ?_
      | (at_builtin; refine wpList_append_own _ rfl _ _ 22 rfl w2.heap.size 42 i0 (.agg #[.string ⟨#[]⟩, .int .i64 0, .int .u32 0, .int .u32 0, .int .u32 0, .int .i64 0, .int .i64 0, .string ⟨#[]⟩]) 8 72 Tryz.underlying22 hi hz0 hz1 hz2 rfl (by decide) _ _ _ rfl HO4.out ⟨wr.heap.size, 0, none⟩ 1 1 (D.at p).cellsL rfl ?qc1 ?qc2 ?qc3 ?qc4 ?qc5 ?qc6 ?_))
    case qc1 => rfl
    case qc2 => exact HQ4.out
    case qc3 => exact HO1.out
    case qc4 => have := HLQ.out; unfold maxLen; omega
    case qc5 => have := HLQ.out; omega
    case qc6 => exact HZ4.out
    intro v7 w7 hown7 hgrow7 _
    have HB7 : Hid (Below w2.heap.size w2 w7) := HB4.out.grown hgrow7 HB4.out.size (fun q hq => (HO4.out.lt q hq).1)
    have HO7 : Hid (w7.ownsRow w2.heap.size 42 8 v7 (t ++ (M.take (k + 1)).map D.at).length (cellsI (t ++ (M.take (k + 1)).map D.at))) := by
      show World.ownsRow _ _ _ _ _ _ _
      rw [← HNX.out, ← cells_snocF, List.length_append]
      exact hown7
    clear hown7 hgrow7 HO4 HB4 HQ4
    go_wp2_with fail
    go_roundw
    case rel => exact ⟨k + 1, _, by omega, rfl, by go_num, HO7, HB7⟩
    case measure => simp [intOf]; omega
end Go.Proofs.YtmeapijckncoeaaGreatDoor
