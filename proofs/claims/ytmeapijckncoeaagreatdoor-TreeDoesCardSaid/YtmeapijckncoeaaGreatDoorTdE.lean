/-
  Trees: Right, of any items.
-/
import Derived.Test.YtmeapijckncoeaaGreatDoorFmC
import Derived.Test.YtmeapijckncoeaaGreatDoorPkAJ
import Derived.Deep.RegionHeld3
namespace Go.Proofs.YtmeapijckncoeaaGreatDoor
set_option maxRecDepth 100000
set_option linter.unusedSimpArgs false
set_option linter.unusedVariables false
open Go.RowKit Go.Joins Go.Deep Go.WideMaps
open Go.Lib hiding intOf
/-- The directories of items, the root's path not among them. -/
def dirT (l : List Itm) : List ByteArray := (l.filter fun x => x.k == 1).map fun x => x.s
theorem dir_snoc (l : List Itm) (k : Nat) (h : k < l.length) : dirT (l.take (k + 1)) = dirT (l.take k) ++ (if l[k].k = 1 then [l[k].s] else []) := by
  unfold dirT
  rw [List.take_succ_eq_append_getElem h, List.filter_append, List.map_append]
  congr 1
  by_cases e : l[k].k = 1
  · rw [if_pos e, List.filter_cons_of_pos (by rw [e]; rfl)]; rfl
  · rw [if_neg e, List.filter_cons_of_neg (by simpa using e)]; rfl
theorem dir_le (l : List Itm) (k : Nat) : (dirT (l.take k)).length ≤ k := by
  unfold dirT
  rw [List.length_map]
  refine Nat.le_trans (List.length_filter_le _ _) ?_
  rw [List.length_take]
  omega
/-- Is an item right there, by what stands ahead of it? -/
def rowT (l : List Itm) (k : Nat) : Bool := sodI (atI l k) && ordI l k && knB (⟨#[]⟩ :: dirT (l.take k)) (parB (atI l k).s)
def rgtT (l : List Itm) : Bool := (List.range l.length).all (rowT l)
set_option maxHeartbeats 64000000 in
theorem tright_any (A : Option Addr) (c : Nat) (l : List Itm) (w : World) (hT : Itms w A l) (hE : Env w) (hl : l.length ≤ 1000) (hs : ∀ x ∈ l, x.s.size ≤ 100000) :
    Calls Tryz.prog 13 #[.slice A l.length c] w fun e w' => e = .returned (.bool (rgtT l)) ∧ Below w.heap.size w w' := by
  have hmm := @run_makeMap Tryz.prog
  have hir := info_item
  have hzu := zero_unitF
  obtain ⟨V, hV⟩ : ∃ V, V = rgtT l := ⟨_, rfl⟩
  rw [← hV]
  have HV := Lib.hid hV
  have HM := Lib.hid (World.ownsMap_made (H := Unit) w Tryz.prog 9 unitElem)
  have HB3 := Lib.hid (below_al w (.map #[] 0))
  have HT := Lib.hid hT
  have HE := Lib.hid hE
  have HS := Lib.hid hs
  clear hT hE hs hV
  go_enter Tryz.func13, Tryz.ntmps13
  go_upto_region 2 with (first | (refine wpList_insert_own _ rfl _ _ _ 52 rfl 9 51 keyF Tryz.underlying52 unitElem w.heap.size 0 _ rfl HM.out (by unfold maxLen; omega) _ _ _ rfl rfl (keyOf_string_mk (s := ⟨#[]⟩) Tryz.underlying9 (by decide)) (.agg []) [] unitElem_mk ?_; intro w4 hown4 hgrow4))
  have HK4 : Hid (KnM w4 w.heap.size 1 (dirT (l.take 0))) := ⟨Nat.le_add_right _ _, hown4⟩
  have HB4 := Lib.hid (HB3.out.grown hgrow4 HB3.out.size (fun k hk => by injection hk with hk; subst hk; exact Nat.le_refl _))
  clear hown4 hgrow4 HM HB3
  go_wp2_with fail
  go_loopw [13] (fun v13 wr => ∃ (k n : Nat), k ≤ l.length ∧ v13 = .int .i64 (k : Nat) ∧ Hid ((List.range k).all (rowT l) = true) ∧ Hid (KnM wr w.heap.size n (dirT (l.take k))) ∧ Hid (Below w.heap.size w wr)) (fun v _ => l.length - (intOf v).toNat)
  case atStart => exact ⟨0, 1, Nat.zero_le _, rfl, rfl, HK4, HB4⟩
  case round =>
    clear HK4 HB4
    obtain ⟨k, n, hk, rfl, HRA, HK, HB⟩ := hrel
    by_cases hkn : k < l.length
    case neg =>
      obtain rfl : k = l.length := by omega
      have hd : decide ((l.length : Int) < (l.length : Int)) = false := decide_eq_false (by omega)
      have HNO : Hid (V = true) := by show V = _; rw [HV.out]; exact HRA.out
      clear HK
      go_wp2_with fail
      go_ret
      rw [HNO.out]
      exact ⟨rfl, HB.out⟩
    have hd : decide ((k : Int) < (l.length : Int)) = true := decide_eq_true (by omega)
    obtain ⟨b, off, rfl, hb, hcc⟩ := (HT.out.below HB.out) (by omega)
    obtain ⟨c0, c1, c2, c3, c4, c5, c6, c7⟩ := hcc k l[k] (List.getElem?_eq_getElem hkn)
    have HAT : Hid (atI l k = l[k]) := by show l[k]?.getD default = _; rw [List.getElem?_eq_getElem hkn]; rfl
    have HDS := Lib.hid (dir_snoc l k hkn)
    have HDL := Lib.hid (dir_le l k)
    have HXS := Lib.hid (HS.out l[k] (List.getElem_mem hkn))
    have HROW : Hid (rowT l k = (sodI l[k] && ordI l k && knB (⟨#[]⟩ :: dirT (l.take k)) (parB l[k].s))) := by show _ = _; unfold rowT; rw [HAT.out]
    have HSO := Lib.hid (fun w1 (hE1 : Env w1) => sound_any l[k] w1 HXS.out hE1)
    have HP := Lib.hid (fun w => parent_any l[k].s w (by have := HXS.out; omega))
    obtain ⟨W5, hW5⟩ : ∃ W5, W5 = wr.alloc (.cells l[k].cells 42) := ⟨_, rfl⟩
    have hb5 : Below wr.heap.size wr W5 := by rw [hW5]; exact below_al wr _
    have HX5 : Hid (W5.heap[wr.heap.size]? = some (.cells l[k].cells 42 (0, 0))) := by show _ = _; rw [hW5]; exact heap_alloc_new wr _
    have HPC : Hid (∀ j, k = j + 1 → W5.cell? ⟨b, off + j * 8, none⟩ = some (.string (atI l j).s)) := fun j hj => by
      have hjl : j < l.length := by omega
      have h1 := (hcc j l[j] (List.getElem?_eq_getElem hjl)).1
      have h2 : atI l j = l[j] := by show l[j]?.getD default = _; rw [List.getElem?_eq_getElem hjl]; rfl
      rw [h2]
      exact (hb5.cell hb).trans h1
    have HBL : Hid (b < W5.heap.size) := Nat.lt_of_lt_of_le hb hb5.size
    have HK5 := Lib.hid (HK.out.keep hb5)
    have HB5 := Lib.hid (below_then HB.out hb5)
    have HE5 := Lib.hid (HE.out.below HB5.out)
    have HORX : Hid (∀ j, k = j + 1 → ordI l k = decide (ordT (atI l j).s l[k].s < 0)) := fun j hj => by
      subst hj
      unfold ordI
      rw [HAT.out]
      rw [decide_eq_false (show ¬ (j + 1 = 0) by omega), Bool.false_or]
      rfl
    have HOR := Lib.hid (fun j (hj : k = j + 1) (w1 : World) => (order_any (atI l j).s l[k].s w1 (by
      have hjl : j < l.length := by omega
      have h2 : atI l j = l[j] := by show l[j]?.getD default = _; rw [List.getElem?_eq_getElem hjl]; rfl
      rw [h2]
      have := HS.out l[j] (List.getElem_mem hjl)
      omega)).mono (R' := fun e w' => e = .returned (.int .i64 (ordT (atI l j).s l[k].s)) ∧ Below w1.heap.size w1 w') (by
      rintro e w' ⟨rfl, d, rfl⟩
      exact ⟨rfl, below_drewN (Below.refl _ _) d⟩))
    generalize hkn0 : dirT (l.take k) = kn at *
    generalize l[k] = X at *
    simp only [Itm.cells] at hW5 HX5 HSO
    have HW5 := Lib.hid hW5
    have HL1 : Hid (k < 1000) := by show _ < _; omega
    clear hcc hb5 hW5 HK HB hkn0
    generalize hgi : wr.heap.size = gi at *
    go_upto_region 5 with fail
    rw [← HW5.out]
    clear HW5 c0 c1 c2 c3 c4 c5 c6 c7
    cases hso : sodI X with
    | false =>
      rw [hso] at HSO
      have HNO : Hid (V = false) := by show V = _; rw [HV.out]; exact rng_all _ _ _ HRA.out hkn (by rw [HROW.out, hso]; rfl)
      have hS0 : (fun ww => Below w.heap.size w ww ∧ Env ww ∧ ww.heap[gi]? = some (.cells #[.string X.s, .int .i64 X.k, .int .u32 X.m, .int .u32 X.u, .int .u32 X.g, .int .i64 X.t, .int .i64 X.a, .string X.d] 42 (0, 0)) ∧ (∀ i, k = i + 1 → ww.cell? ⟨b, off + i * 8, none⟩ = some (.string (atI l i).s)) ∧ b < ww.heap.size ∧ KnM ww w.heap.size n kn) W5.drew := ⟨HB5.out.drew, HE5.out.drew, HX5.out, HPC.out, HBL.out, HK5.out.keep (Below.refl _ _).drew⟩
      refine wp_region_held_drew (S := fun ww => Below w.heap.size w ww ∧ Env ww ∧ ww.heap[gi]? = some (.cells #[.string X.s, .int .i64 X.k, .int .u32 X.m, .int .u32 X.u, .int .u32 X.g, .int .i64 X.t, .int .i64 X.a, .string X.d] 42 (0, 0)) ∧ (∀ i, k = i + 1 → ww.cell? ⟨b, off + i * 8, none⟩ = some (.string (atI l i).s)) ∧ b < ww.heap.size ∧ KnM ww w.heap.size n kn) (by kernel_rfl) hS0 (fun hSA => ?_)
      clear hS0
      generalize W5.drew = q0 at *
      refine wpAnyH_take (i := 0) (v := .agg #[.string X.s, .int .i64 X.k, .int .u32 X.m, .int .u32 X.u, .int .u32 X.g, .int .i64 X.t, .int .i64 X.a, .string X.d]) rfl (by kernel_rfl) (by kernel_rfl) (by kernel_rfl) (fun _ _ _ h => h) (Or.inl ⟨by kernel_rfl, ?_⟩) (by assumption) ?_
      · intro ww hSw
        have hc0 : ww.cell? ⟨gi, 0, none⟩ = some (.string X.s) := by rw [Lib.cell_of_heap hSw.2.2.1]; rfl
        have hc1 : ww.cell? ⟨gi, 1, none⟩ = some (.int .i64 X.k) := by rw [Lib.cell_of_heap hSw.2.2.1]; rfl
        have hc2 : ww.cell? ⟨gi, 2, none⟩ = some (.int .u32 X.m) := by rw [Lib.cell_of_heap hSw.2.2.1]; rfl
        have hc3 : ww.cell? ⟨gi, 3, none⟩ = some (.int .u32 X.u) := by rw [Lib.cell_of_heap hSw.2.2.1]; rfl
        have hc4 : ww.cell? ⟨gi, 4, none⟩ = some (.int .u32 X.g) := by rw [Lib.cell_of_heap hSw.2.2.1]; rfl
        have hc5 : ww.cell? ⟨gi, 5, none⟩ = some (.int .i64 X.t) := by rw [Lib.cell_of_heap hSw.2.2.1]; rfl
        have hc6 : ww.cell? ⟨gi, 6, none⟩ = some (.int .i64 X.a) := by rw [Lib.cell_of_heap hSw.2.2.1]; rfl
        have hc7 : ww.cell? ⟨gi, 7, none⟩ = some (.string X.d) := by rw [Lib.cell_of_heap hSw.2.2.1]; rfl
        clear hSw
        go_simp
        all_goals (try omega)
        all_goals (try assumption)
        all_goals (try rfl)
      try simp only [Act.put, List.setIfInBounds_toArray, List.set_cons_zero, List.set_cons_succ, List.getElem_toArray, List.getElem_cons_succ, List.getElem_cons_zero]
      refine wpAnyH_ready (rs := [1]) (by kernel_rfl) (by simp) ?_
      refine AllReadyH.cons rfl (fun K hK => ?_) AllReadyH.nil
      go_simp
      refine (HSO.out _ hSA.2.1).mono ?_
      rintro e q1 ⟨rfl, hbq1⟩
      have hSq1 : (fun ww => Below w.heap.size w ww ∧ Env ww ∧ ww.heap[gi]? = some (.cells #[.string X.s, .int .i64 X.k, .int .u32 X.m, .int .u32 X.u, .int .u32 X.g, .int .i64 X.t, .int .i64 X.a, .string X.d] 42 (0, 0)) ∧ (∀ i, k = i + 1 → ww.cell? ⟨b, off + i * 8, none⟩ = some (.string (atI l i).s)) ∧ b < ww.heap.size ∧ KnM ww w.heap.size n kn) q1 := ⟨below_then hSA.1 hbq1, hSA.2.1.below hbq1, (hbq1.block _ (lt_of_block hSA.2.2.1)).trans hSA.2.2.1, fun j hj => (hbq1.cell hSA.2.2.2.2.1).trans (hSA.2.2.2.1 j hj), Nat.lt_of_lt_of_le hSA.2.2.2.2.1 hbq1.size, hSA.2.2.2.2.2.keep hbq1⟩
      refine hK.out _ _ hSq1 (fun hTq1 => ?_)
      clear hK K
      try simp only [Act.put, List.setIfInBounds_toArray, List.set_cons_zero, List.set_cons_succ, List.getElem_toArray, List.getElem_cons_succ, List.getElem_cons_zero]
      refine wpAnyH_take (i := 2) (v := .bool true) rfl (by kernel_rfl) (by kernel_rfl) (by kernel_rfl) (fun _ _ _ h => h) (Or.inl ⟨by kernel_rfl, ?_⟩) (by assumption) ?_
      · intro ww hSw
        clear hSw
        go_simp
        all_goals (try omega)
        all_goals (try assumption)
        all_goals (try rfl)
      try simp only [Act.put, List.setIfInBounds_toArray, List.set_cons_zero, List.set_cons_succ, List.getElem_toArray, List.getElem_cons_succ, List.getElem_cons_zero]
      refine wpAnyH_take (i := 3) (v := .bool true) rfl (by kernel_rfl) (by kernel_rfl) (by kernel_rfl) (fun _ _ _ h => h) (Or.inl ⟨by kernel_rfl, ?_⟩) (by assumption) ?_
      · intro ww hSw
        clear hSw
        go_simp
        all_goals (try omega)
        all_goals (try assumption)
        all_goals (try rfl)
      try simp only [Act.put, List.setIfInBounds_toArray, List.set_cons_zero, List.set_cons_succ, List.getElem_toArray, List.getElem_cons_succ, List.getElem_cons_zero]
      refine wpAnyH_take (i := 4) (v := undef) rfl (by kernel_rfl) (by kernel_rfl) (by kernel_rfl) (fun _ _ _ h => h) (Or.inr ⟨by kernel_rfl, rfl⟩) (by assumption) ?_
      try simp only [Act.put, List.setIfInBounds_toArray, List.set_cons_zero, List.set_cons_succ, List.getElem_toArray, List.getElem_cons_succ, List.getElem_cons_zero]
      refine wpAnyH_take (i := 5) (v := undef) rfl (by kernel_rfl) (by kernel_rfl) (by kernel_rfl) (fun _ _ _ h => h) (Or.inr ⟨by kernel_rfl, rfl⟩) (by assumption) ?_
      try simp only [Act.put, List.setIfInBounds_toArray, List.set_cons_zero, List.set_cons_succ, List.getElem_toArray, List.getElem_cons_succ, List.getElem_cons_zero]
      refine wpAnyH_take (i := 6) (v := undef) rfl (by kernel_rfl) (by kernel_rfl) (by kernel_rfl) (fun _ _ _ h => h) (Or.inr ⟨by kernel_rfl, rfl⟩) (by assumption) ?_
      try simp only [Act.put, List.setIfInBounds_toArray, List.set_cons_zero, List.set_cons_succ, List.getElem_toArray, List.getElem_cons_succ, List.getElem_cons_zero]
      refine wpAnyH_take (i := 7) (v := undef) rfl (by kernel_rfl) (by kernel_rfl) (by kernel_rfl) (fun _ _ _ h => h) (Or.inr ⟨by kernel_rfl, rfl⟩) (by assumption) ?_
      try simp only [Act.put, List.setIfInBounds_toArray, List.set_cons_zero, List.set_cons_succ, List.getElem_toArray, List.getElem_cons_succ, List.getElem_cons_zero]
      refine wpAnyH_take (i := 8) (v := undef) rfl (by kernel_rfl) (by kernel_rfl) (by kernel_rfl) (fun _ _ _ h => h) (Or.inr ⟨by kernel_rfl, rfl⟩) (by assumption) ?_
      try simp only [Act.put, List.setIfInBounds_toArray, List.set_cons_zero, List.set_cons_succ, List.getElem_toArray, List.getElem_cons_succ, List.getElem_cons_zero]
      refine wpAnyH_take (i := 9) (v := undef) rfl (by kernel_rfl) (by kernel_rfl) (by kernel_rfl) (fun _ _ _ h => h) (Or.inr ⟨by kernel_rfl, rfl⟩) (by assumption) ?_
      try simp only [Act.put, List.setIfInBounds_toArray, List.set_cons_zero, List.set_cons_succ, List.getElem_toArray, List.getElem_cons_succ, List.getElem_cons_zero]
      refine wpAnyH_take (i := 10) (v := undef) rfl (by kernel_rfl) (by kernel_rfl) (by kernel_rfl) (fun _ _ _ h => h) (Or.inr ⟨by kernel_rfl, rfl⟩) (by assumption) ?_
      try simp only [Act.put, List.setIfInBounds_toArray, List.set_cons_zero, List.set_cons_succ, List.getElem_toArray, List.getElem_cons_succ, List.getElem_cons_zero]
      refine wpAnyH_take (i := 11) (v := undef) rfl (by kernel_rfl) (by kernel_rfl) (by kernel_rfl) (fun _ _ _ h => h) (Or.inr ⟨by kernel_rfl, rfl⟩) (by assumption) ?_
      try simp only [Act.put, List.setIfInBounds_toArray, List.set_cons_zero, List.set_cons_succ, List.getElem_toArray, List.getElem_cons_succ, List.getElem_cons_zero]
      refine wpAnyH_take (i := 12) (v := undef) rfl (by kernel_rfl) (by kernel_rfl) (by kernel_rfl) (fun _ _ _ h => h) (Or.inr ⟨by kernel_rfl, rfl⟩) (by assumption) ?_
      try simp only [Act.put, List.setIfInBounds_toArray, List.set_cons_zero, List.set_cons_succ, List.getElem_toArray, List.getElem_cons_succ, List.getElem_cons_zero]
      refine wpAnyH_take (i := 13) (v := undef) rfl (by kernel_rfl) (by kernel_rfl) (by kernel_rfl) (fun _ _ _ h => h) (Or.inr ⟨by kernel_rfl, rfl⟩) (by assumption) ?_
      try simp only [Act.put, List.setIfInBounds_toArray, List.set_cons_zero, List.set_cons_succ, List.getElem_toArray, List.getElem_cons_succ, List.getElem_cons_zero]
      refine wpAnyH_take (i := 14) (v := undef) rfl (by kernel_rfl) (by kernel_rfl) (by kernel_rfl) (fun _ _ _ h => h) (Or.inr ⟨by kernel_rfl, rfl⟩) (by assumption) ?_
      try simp only [Act.put, List.setIfInBounds_toArray, List.set_cons_zero, List.set_cons_succ, List.getElem_toArray, List.getElem_cons_succ, List.getElem_cons_zero]
      refine wpAnyH_take (i := 15) (v := undef) rfl (by kernel_rfl) (by kernel_rfl) (by kernel_rfl) (fun _ _ _ h => h) (Or.inr ⟨by kernel_rfl, rfl⟩) (by assumption) ?_
      try simp only [Act.put, List.setIfInBounds_toArray, List.set_cons_zero, List.set_cons_succ, List.getElem_toArray, List.getElem_cons_succ, List.getElem_cons_zero]
      refine wpAnyH_take (i := 16) (v := undef) rfl (by kernel_rfl) (by kernel_rfl) (by kernel_rfl) (fun _ _ _ h => h) (Or.inr ⟨by kernel_rfl, rfl⟩) (by assumption) ?_
      try simp only [Act.put, List.setIfInBounds_toArray, List.set_cons_zero, List.set_cons_succ, List.getElem_toArray, List.getElem_cons_succ, List.getElem_cons_zero]
      refine wpAnyH_take (i := 17) (v := undef) rfl (by kernel_rfl) (by kernel_rfl) (by kernel_rfl) (fun _ _ _ h => h) (Or.inr ⟨by kernel_rfl, rfl⟩) (by assumption) ?_
      try simp only [Act.put, List.setIfInBounds_toArray, List.set_cons_zero, List.set_cons_succ, List.getElem_toArray, List.getElem_cons_succ, List.getElem_cons_zero]
      refine wpAnyH_take (i := 18) (v := .bool true) rfl (by kernel_rfl) (by kernel_rfl) (by kernel_rfl) (fun _ _ _ h => h) (Or.inl ⟨by kernel_rfl, ?_⟩) (by assumption) ?_
      · intro ww hSw
        clear hSw
        go_simp
        all_goals (try omega)
        all_goals (try assumption)
        all_goals (try rfl)
      try simp only [Act.put, List.setIfInBounds_toArray, List.set_cons_zero, List.set_cons_succ, List.getElem_toArray, List.getElem_cons_succ, List.getElem_cons_zero]
      have HBQ := Lib.hid hSq1.1
      have HXQ := Lib.hid hSq1.2.2.1
      have HMQ := Lib.hid hSq1.2.2.2.2.2
      refine wpAnyH_done (by kernel_rfl) ?_ _
      clear HRA HROW HSO HP HOR HORX HPC
      go_wp2_with fail
      go_ret
      rw [HNO.out]
      exact ⟨rfl, HBQ.out⟩
    | true =>
      rw [hso] at HSO
      rcases Nat.eq_zero_or_pos k with h0 | h0
      · subst h0
        have HOI : Hid (ordI l 0 = true) := rfl
        have hS0 : (fun ww => Below w.heap.size w ww ∧ Env ww ∧ ww.heap[gi]? = some (.cells #[.string X.s, .int .i64 X.k, .int .u32 X.m, .int .u32 X.u, .int .u32 X.g, .int .i64 X.t, .int .i64 X.a, .string X.d] 42 (0, 0)) ∧ (∀ i, 0 = i + 1 → ww.cell? ⟨b, off + i * 8, none⟩ = some (.string (atI l i).s)) ∧ b < ww.heap.size ∧ KnM ww w.heap.size n kn) W5.drew := ⟨HB5.out.drew, HE5.out.drew, HX5.out, HPC.out, HBL.out, HK5.out.keep (Below.refl _ _).drew⟩
        refine wp_region_held_drew (S := fun ww => Below w.heap.size w ww ∧ Env ww ∧ ww.heap[gi]? = some (.cells #[.string X.s, .int .i64 X.k, .int .u32 X.m, .int .u32 X.u, .int .u32 X.g, .int .i64 X.t, .int .i64 X.a, .string X.d] 42 (0, 0)) ∧ (∀ i, 0 = i + 1 → ww.cell? ⟨b, off + i * 8, none⟩ = some (.string (atI l i).s)) ∧ b < ww.heap.size ∧ KnM ww w.heap.size n kn) (by kernel_rfl) hS0 (fun hSA => ?_)
        clear hS0
        generalize W5.drew = q0 at *
        refine wpAnyH_take (i := 0) (v := .agg #[.string X.s, .int .i64 X.k, .int .u32 X.m, .int .u32 X.u, .int .u32 X.g, .int .i64 X.t, .int .i64 X.a, .string X.d]) rfl (by kernel_rfl) (by kernel_rfl) (by kernel_rfl) (fun _ _ _ h => h) (Or.inl ⟨by kernel_rfl, ?_⟩) (by assumption) ?_
        · intro ww hSw
          have hc0 : ww.cell? ⟨gi, 0, none⟩ = some (.string X.s) := by rw [Lib.cell_of_heap hSw.2.2.1]; rfl
          have hc1 : ww.cell? ⟨gi, 1, none⟩ = some (.int .i64 X.k) := by rw [Lib.cell_of_heap hSw.2.2.1]; rfl
          have hc2 : ww.cell? ⟨gi, 2, none⟩ = some (.int .u32 X.m) := by rw [Lib.cell_of_heap hSw.2.2.1]; rfl
          have hc3 : ww.cell? ⟨gi, 3, none⟩ = some (.int .u32 X.u) := by rw [Lib.cell_of_heap hSw.2.2.1]; rfl
          have hc4 : ww.cell? ⟨gi, 4, none⟩ = some (.int .u32 X.g) := by rw [Lib.cell_of_heap hSw.2.2.1]; rfl
          have hc5 : ww.cell? ⟨gi, 5, none⟩ = some (.int .i64 X.t) := by rw [Lib.cell_of_heap hSw.2.2.1]; rfl
          have hc6 : ww.cell? ⟨gi, 6, none⟩ = some (.int .i64 X.a) := by rw [Lib.cell_of_heap hSw.2.2.1]; rfl
          have hc7 : ww.cell? ⟨gi, 7, none⟩ = some (.string X.d) := by rw [Lib.cell_of_heap hSw.2.2.1]; rfl
          clear hSw
          go_simp
          all_goals (try omega)
          all_goals (try assumption)
          all_goals (try rfl)
        try simp only [Act.put, List.setIfInBounds_toArray, List.set_cons_zero, List.set_cons_succ, List.getElem_toArray, List.getElem_cons_succ, List.getElem_cons_zero]
        refine wpAnyH_ready (rs := [1]) (by kernel_rfl) (by simp) ?_
        refine AllReadyH.cons rfl (fun K hK => ?_) AllReadyH.nil
        go_simp
        refine (HSO.out _ hSA.2.1).mono ?_
        rintro e q1 ⟨rfl, hbq1⟩
        have hSq1 : (fun ww => Below w.heap.size w ww ∧ Env ww ∧ ww.heap[gi]? = some (.cells #[.string X.s, .int .i64 X.k, .int .u32 X.m, .int .u32 X.u, .int .u32 X.g, .int .i64 X.t, .int .i64 X.a, .string X.d] 42 (0, 0)) ∧ (∀ i, 0 = i + 1 → ww.cell? ⟨b, off + i * 8, none⟩ = some (.string (atI l i).s)) ∧ b < ww.heap.size ∧ KnM ww w.heap.size n kn) q1 := ⟨below_then hSA.1 hbq1, hSA.2.1.below hbq1, (hbq1.block _ (lt_of_block hSA.2.2.1)).trans hSA.2.2.1, fun j hj => (hbq1.cell hSA.2.2.2.2.1).trans (hSA.2.2.2.1 j hj), Nat.lt_of_lt_of_le hSA.2.2.2.2.1 hbq1.size, hSA.2.2.2.2.2.keep hbq1⟩
        refine hK.out _ _ hSq1 (fun hTq1 => ?_)
        clear hK K
        try simp only [Act.put, List.setIfInBounds_toArray, List.set_cons_zero, List.set_cons_succ, List.getElem_toArray, List.getElem_cons_succ, List.getElem_cons_zero]
        refine wpAnyH_take (i := 2) (v := .bool false) rfl (by kernel_rfl) (by kernel_rfl) (by kernel_rfl) (fun _ _ _ h => h) (Or.inl ⟨by kernel_rfl, ?_⟩) (by assumption) ?_
        · intro ww hSw
          clear hSw
          go_simp
          all_goals (try omega)
          all_goals (try assumption)
          all_goals (try rfl)
        try simp only [Act.put, List.setIfInBounds_toArray, List.set_cons_zero, List.set_cons_succ, List.getElem_toArray, List.getElem_cons_succ, List.getElem_cons_zero]
        refine wpAnyH_take (i := 3) (v := .bool false) rfl (by kernel_rfl) (by kernel_rfl) (by kernel_rfl) (fun _ _ _ h => h) (Or.inl ⟨by kernel_rfl, ?_⟩) (by assumption) ?_
        · intro ww hSw
          clear hSw
          go_simp
          all_goals (try omega)
          all_goals (try assumption)
          all_goals (try rfl)
        try simp only [Act.put, List.setIfInBounds_toArray, List.set_cons_zero, List.set_cons_succ, List.getElem_toArray, List.getElem_cons_succ, List.getElem_cons_zero]
        refine wpAnyH_take (i := 4) (v := .int .i64 (0 : Nat)) rfl (by kernel_rfl) (by kernel_rfl) (by kernel_rfl) (fun _ _ _ h => h) (Or.inl ⟨by kernel_rfl, ?_⟩) (by assumption) ?_
        · intro ww hSw
          clear hSw
          go_simp
          all_goals (try omega)
          all_goals (try assumption)
          all_goals (try rfl)
        try simp only [Act.put, List.setIfInBounds_toArray, List.set_cons_zero, List.set_cons_succ, List.getElem_toArray, List.getElem_cons_succ, List.getElem_cons_zero]
        refine wpAnyH_take (i := 5) (v := .bool false) rfl (by kernel_rfl) (by kernel_rfl) (by kernel_rfl) (fun _ _ _ h => h) (Or.inl ⟨by kernel_rfl, ?_⟩) (by assumption) ?_
        · intro ww hSw
          clear hSw
          go_simp
          all_goals (try omega)
          all_goals (try assumption)
          all_goals (try rfl)
        try simp only [Act.put, List.setIfInBounds_toArray, List.set_cons_zero, List.set_cons_succ, List.getElem_toArray, List.getElem_cons_succ, List.getElem_cons_zero]
        refine wpAnyH_take (i := 6) (v := .bool false) rfl (by kernel_rfl) (by kernel_rfl) (by kernel_rfl) (fun _ _ _ h => h) (Or.inl ⟨by kernel_rfl, ?_⟩) (by assumption) ?_
        · intro ww hSw
          clear hSw
          go_simp
          all_goals (try omega)
          all_goals (try assumption)
          all_goals (try rfl)
        try simp only [Act.put, List.setIfInBounds_toArray, List.set_cons_zero, List.set_cons_succ, List.getElem_toArray, List.getElem_cons_succ, List.getElem_cons_zero]
        refine wpAnyH_take (i := 7) (v := undef) rfl (by kernel_rfl) (by kernel_rfl) (by kernel_rfl) (fun _ _ _ h => h) (Or.inr ⟨by kernel_rfl, rfl⟩) (by assumption) ?_
        try simp only [Act.put, List.setIfInBounds_toArray, List.set_cons_zero, List.set_cons_succ, List.getElem_toArray, List.getElem_cons_succ, List.getElem_cons_zero]
        refine wpAnyH_take (i := 8) (v := undef) rfl (by kernel_rfl) (by kernel_rfl) (by kernel_rfl) (fun _ _ _ h => h) (Or.inr ⟨by kernel_rfl, rfl⟩) (by assumption) ?_
        try simp only [Act.put, List.setIfInBounds_toArray, List.set_cons_zero, List.set_cons_succ, List.getElem_toArray, List.getElem_cons_succ, List.getElem_cons_zero]
        refine wpAnyH_take (i := 9) (v := undef) rfl (by kernel_rfl) (by kernel_rfl) (by kernel_rfl) (fun _ _ _ h => h) (Or.inr ⟨by kernel_rfl, rfl⟩) (by assumption) ?_
        try simp only [Act.put, List.setIfInBounds_toArray, List.set_cons_zero, List.set_cons_succ, List.getElem_toArray, List.getElem_cons_succ, List.getElem_cons_zero]
        refine wpAnyH_take (i := 10) (v := undef) rfl (by kernel_rfl) (by kernel_rfl) (by kernel_rfl) (fun _ _ _ h => h) (Or.inr ⟨by kernel_rfl, rfl⟩) (by assumption) ?_
        try simp only [Act.put, List.setIfInBounds_toArray, List.set_cons_zero, List.set_cons_succ, List.getElem_toArray, List.getElem_cons_succ, List.getElem_cons_zero]
        refine wpAnyH_take (i := 11) (v := undef) rfl (by kernel_rfl) (by kernel_rfl) (by kernel_rfl) (fun _ _ _ h => h) (Or.inr ⟨by kernel_rfl, rfl⟩) (by assumption) ?_
        try simp only [Act.put, List.setIfInBounds_toArray, List.set_cons_zero, List.set_cons_succ, List.getElem_toArray, List.getElem_cons_succ, List.getElem_cons_zero]
        refine wpAnyH_take (i := 12) (v := undef) rfl (by kernel_rfl) (by kernel_rfl) (by kernel_rfl) (fun _ _ _ h => h) (Or.inr ⟨by kernel_rfl, rfl⟩) (by assumption) ?_
        try simp only [Act.put, List.setIfInBounds_toArray, List.set_cons_zero, List.set_cons_succ, List.getElem_toArray, List.getElem_cons_succ, List.getElem_cons_zero]
        refine wpAnyH_take (i := 13) (v := undef) rfl (by kernel_rfl) (by kernel_rfl) (by kernel_rfl) (fun _ _ _ h => h) (Or.inr ⟨by kernel_rfl, rfl⟩) (by assumption) ?_
        try simp only [Act.put, List.setIfInBounds_toArray, List.set_cons_zero, List.set_cons_succ, List.getElem_toArray, List.getElem_cons_succ, List.getElem_cons_zero]
        refine wpAnyH_take (i := 14) (v := undef) rfl (by kernel_rfl) (by kernel_rfl) (by kernel_rfl) (fun _ _ _ h => h) (Or.inr ⟨by kernel_rfl, rfl⟩) (by assumption) ?_
        try simp only [Act.put, List.setIfInBounds_toArray, List.set_cons_zero, List.set_cons_succ, List.getElem_toArray, List.getElem_cons_succ, List.getElem_cons_zero]
        refine wpAnyH_take (i := 15) (v := undef) rfl (by kernel_rfl) (by kernel_rfl) (by kernel_rfl) (fun _ _ _ h => h) (Or.inr ⟨by kernel_rfl, rfl⟩) (by assumption) ?_
        try simp only [Act.put, List.setIfInBounds_toArray, List.set_cons_zero, List.set_cons_succ, List.getElem_toArray, List.getElem_cons_succ, List.getElem_cons_zero]
        refine wpAnyH_take (i := 16) (v := undef) rfl (by kernel_rfl) (by kernel_rfl) (by kernel_rfl) (fun _ _ _ h => h) (Or.inr ⟨by kernel_rfl, rfl⟩) (by assumption) ?_
        try simp only [Act.put, List.setIfInBounds_toArray, List.set_cons_zero, List.set_cons_succ, List.getElem_toArray, List.getElem_cons_succ, List.getElem_cons_zero]
        refine wpAnyH_take (i := 17) (v := .bool false) rfl (by kernel_rfl) (by kernel_rfl) (by kernel_rfl) (fun _ _ _ h => h) (Or.inl ⟨by kernel_rfl, ?_⟩) (by assumption) ?_
        · intro ww hSw
          clear hSw
          go_simp
          all_goals (try omega)
          all_goals (try assumption)
          all_goals (try rfl)
        try simp only [Act.put, List.setIfInBounds_toArray, List.set_cons_zero, List.set_cons_succ, List.getElem_toArray, List.getElem_cons_succ, List.getElem_cons_zero]
        refine wpAnyH_take (i := 18) (v := .bool false) rfl (by kernel_rfl) (by kernel_rfl) (by kernel_rfl) (fun _ _ _ h => h) (Or.inl ⟨by kernel_rfl, ?_⟩) (by assumption) ?_
        · intro ww hSw
          clear hSw
          go_simp
          all_goals (try omega)
          all_goals (try assumption)
          all_goals (try rfl)
        try simp only [Act.put, List.setIfInBounds_toArray, List.set_cons_zero, List.set_cons_succ, List.getElem_toArray, List.getElem_cons_succ, List.getElem_cons_zero]
        have HBQ := Lib.hid hSq1.1
        have HXQ := Lib.hid hSq1.2.2.1
        have HMQ := Lib.hid hSq1.2.2.2.2.2
        refine wpAnyH_done (by kernel_rfl) ?_ _
        generalize q1 = Q1 at *
        obtain ⟨z0, _⟩ := item_box (X := X) HXQ.out
        go_wp2_with fail
        refine (HP.out _).mono ?_; rintro e wx ⟨rfl, hww⟩; rw [hww]; clear hww wx
        have HQK := Lib.hid (keyOf_string_mk (P := Tryz.prog) Tryz.underlying9 (s := parB X.s) (by have := par_le X.s; have := HXS.out; unfold maxLen; omega))
        have HQX := Lib.hid (keyOf_string_mk (P := Tryz.prog) Tryz.underlying9 (s := X.s) (by have := HXS.out; unfold maxLen; omega))
        have HH := Lib.hid (setF_has (⟨#[]⟩ :: kn) (parB X.s))
        have HN : Hid (n ≤ 1001) := by show _ ≤ _; have := HMQ.out.1; have := HDL.out; have := HL1.out; omega
        have HOW := Lib.hid HMQ.out.2
        obtain ⟨Q2, hQ2⟩ : ∃ Q2, Q2 = Q1.alloc (.cells #[] 51) := ⟨_, rfl⟩
        have h12 : Below Q1.heap.size Q1 Q2 := by rw [hQ2]; exact below_al Q1 _
        have HM6 := Lib.hid (HMQ.out.keep h12)
        have HB6 := Lib.hid (below_then HBQ.out h12)
        have HX6 := Lib.hid ((h12.block _ (lt_of_block HXQ.out)).trans HXQ.out)
        have HQ2 := Lib.hid hQ2
        clear h12 hQ2 HPC HSO HOR HORX
        generalize hG : knB (⟨#[]⟩ :: kn) (parB X.s) = G at *
        go_upto_region 8 with (at_lookup; refine wpList_lookup_own_unit _ rfl _ _ 52 rfl 9 51 keyF Tryz.underlying52 (zero_unitF _) w.heap.size n _ rfl HOW.out _ _ rfl HQK.out ?_; rw [HH.out])
        rw [← HQ2.out]
        clear HQ2 HMQ HBQ HXQ HOW z0 HH
        cases G with
        | false =>
          have HNO : Hid (V = false) := by show V = _; rw [HV.out]; exact rng_all _ _ _ HRA.out hkn (by rw [HROW.out]; simp)
          clear HRA HROW
          go_wp2_with fail
          go_ret
          rw [HNO.out]
          exact ⟨rfl, HB6.out⟩
        | true =>
          have HRA2 := Lib.hid (rng_more _ _ HRA.out (show _ = true by rw [HROW.out, HOI.out, hso]; rfl))
          obtain ⟨z0, z1, z2, z3, z4, z5, z6, z7⟩ := item_box (X := X) HX6.out
          clear HRA HROW
          by_cases hk1 : X.k = 1
          · have HDE : Hid (dirT (l.take (0 + 1)) = kn ++ [X.s]) := by show _ = _; rw [HDS.out, if_pos hk1]
            have hkb : (X.k == 1) = true := by rw [hk1]; rfl
            clear HDS
            rw [hk1] at z1
            go_wp2_with (at_mapUpdate; refine wpList_mapUpdate_own _ rfl _ _ _ 52 rfl 9 51 keyF Tryz.underlying52 _ w.heap.size n _ rfl HM6.out.2 (by have := HN.out; unfold maxLen; omega) _ _ _ rfl rfl HQX.out (.agg []) [] unitElem_mk ?_; intro w7 hown7 hgrow7)
            have HM7 : Hid (KnM w7 w.heap.size (n + 1) (dirT (l.take (0 + 1)))) := by
              show KnM _ _ _ _
              rw [HDE.out]
              refine ⟨by rw [List.length_append, List.length_singleton]; have := HM6.out.1; omega, ?_⟩
              rw [show (⟨#[]⟩ : ByteArray) :: (kn ++ [X.s]) = (⟨#[]⟩ :: kn) ++ [X.s] from rfl, setF_snoc]
              exact hown7
            have HB7 := Lib.hid (HB6.out.grown hgrow7 HB6.out.size (fun k hk => by injection hk with hk; subst hk; exact Nat.le_refl _))
            have hl1 := HL1.out
            clear hown7 hgrow7 HM6 HB6 HX6 z0 z1
            go_wp2_with fail
            go_roundw
            case rel => exact ⟨0 + 1, n + 1, by omega, by go_num, HRA2, HM7, HB7⟩
            case measure => simp [intOf]; omega
          · have HDE : Hid (dirT (l.take (0 + 1)) = kn) := by show _ = _; rw [HDS.out, if_neg hk1, List.append_nil]
            have hkb : (X.k == 1) = false := beq_eq_false_iff_ne.2 hk1
            have hl1 := HL1.out
            clear HDS
            go_wp2_with fail
            go_roundw
            case rel => exact ⟨0 + 1, n, by omega, by go_num, HRA2, by rw [HDE.out]; exact HM6, HB6⟩
            case measure => simp [intOf]; omega
      · obtain ⟨j, rfl⟩ : ∃ j, k = j + 1 := ⟨k - 1, by omega⟩
        have HORD := Lib.hid (HOR.out j rfl)
        have HOI := Lib.hid (HORX.out j rfl)
        have hj10 : j < 1000 := by have := HL1.out; omega
        have hjl : j < l.length := by omega
        generalize hov : ordT (atI l j).s X.s = ov at *
        by_cases hlt : ov < 0
        · have hge : decide (ov ≥ 0) = false := decide_eq_false (by omega)
          have hge2 : decide (0 ≤ ov) = false := decide_eq_false (by omega)
          rw [decide_eq_true hlt] at HOI
          have hS0 : (fun ww => Below w.heap.size w ww ∧ Env ww ∧ ww.heap[gi]? = some (.cells #[.string X.s, .int .i64 X.k, .int .u32 X.m, .int .u32 X.u, .int .u32 X.g, .int .i64 X.t, .int .i64 X.a, .string X.d] 42 (0, 0)) ∧ (∀ i, (j + 1) = i + 1 → ww.cell? ⟨b, off + i * 8, none⟩ = some (.string (atI l i).s)) ∧ b < ww.heap.size ∧ KnM ww w.heap.size n kn) W5.drew := ⟨HB5.out.drew, HE5.out.drew, HX5.out, HPC.out, HBL.out, HK5.out.keep (Below.refl _ _).drew⟩
          refine wp_region_held_drew (S := fun ww => Below w.heap.size w ww ∧ Env ww ∧ ww.heap[gi]? = some (.cells #[.string X.s, .int .i64 X.k, .int .u32 X.m, .int .u32 X.u, .int .u32 X.g, .int .i64 X.t, .int .i64 X.a, .string X.d] 42 (0, 0)) ∧ (∀ i, (j + 1) = i + 1 → ww.cell? ⟨b, off + i * 8, none⟩ = some (.string (atI l i).s)) ∧ b < ww.heap.size ∧ KnM ww w.heap.size n kn) (by kernel_rfl) hS0 (fun hSA => ?_)
          clear hS0
          generalize W5.drew = q0 at *
          refine wpAnyH_take (i := 0) (v := .agg #[.string X.s, .int .i64 X.k, .int .u32 X.m, .int .u32 X.u, .int .u32 X.g, .int .i64 X.t, .int .i64 X.a, .string X.d]) rfl (by kernel_rfl) (by kernel_rfl) (by kernel_rfl) (fun _ _ _ h => h) (Or.inl ⟨by kernel_rfl, ?_⟩) (by assumption) ?_
          · intro ww hSw
            have hc0 : ww.cell? ⟨gi, 0, none⟩ = some (.string X.s) := by rw [Lib.cell_of_heap hSw.2.2.1]; rfl
            have hc1 : ww.cell? ⟨gi, 1, none⟩ = some (.int .i64 X.k) := by rw [Lib.cell_of_heap hSw.2.2.1]; rfl
            have hc2 : ww.cell? ⟨gi, 2, none⟩ = some (.int .u32 X.m) := by rw [Lib.cell_of_heap hSw.2.2.1]; rfl
            have hc3 : ww.cell? ⟨gi, 3, none⟩ = some (.int .u32 X.u) := by rw [Lib.cell_of_heap hSw.2.2.1]; rfl
            have hc4 : ww.cell? ⟨gi, 4, none⟩ = some (.int .u32 X.g) := by rw [Lib.cell_of_heap hSw.2.2.1]; rfl
            have hc5 : ww.cell? ⟨gi, 5, none⟩ = some (.int .i64 X.t) := by rw [Lib.cell_of_heap hSw.2.2.1]; rfl
            have hc6 : ww.cell? ⟨gi, 6, none⟩ = some (.int .i64 X.a) := by rw [Lib.cell_of_heap hSw.2.2.1]; rfl
            have hc7 : ww.cell? ⟨gi, 7, none⟩ = some (.string X.d) := by rw [Lib.cell_of_heap hSw.2.2.1]; rfl
            clear hSw
            go_simp
            all_goals (try omega)
            all_goals (try assumption)
            all_goals (try rfl)
          try simp only [Act.put, List.setIfInBounds_toArray, List.set_cons_zero, List.set_cons_succ, List.getElem_toArray, List.getElem_cons_succ, List.getElem_cons_zero]
          refine wpAnyH_ready (rs := [1]) (by kernel_rfl) (by simp) ?_
          refine AllReadyH.cons rfl (fun K hK => ?_) AllReadyH.nil
          go_simp
          refine (HSO.out _ hSA.2.1).mono ?_
          rintro e q1 ⟨rfl, hbq1⟩
          have hSq1 : (fun ww => Below w.heap.size w ww ∧ Env ww ∧ ww.heap[gi]? = some (.cells #[.string X.s, .int .i64 X.k, .int .u32 X.m, .int .u32 X.u, .int .u32 X.g, .int .i64 X.t, .int .i64 X.a, .string X.d] 42 (0, 0)) ∧ (∀ i, (j + 1) = i + 1 → ww.cell? ⟨b, off + i * 8, none⟩ = some (.string (atI l i).s)) ∧ b < ww.heap.size ∧ KnM ww w.heap.size n kn) q1 := ⟨below_then hSA.1 hbq1, hSA.2.1.below hbq1, (hbq1.block _ (lt_of_block hSA.2.2.1)).trans hSA.2.2.1, fun j hj => (hbq1.cell hSA.2.2.2.2.1).trans (hSA.2.2.2.1 j hj), Nat.lt_of_lt_of_le hSA.2.2.2.2.1 hbq1.size, hSA.2.2.2.2.2.keep hbq1⟩
          refine hK.out _ _ hSq1 (fun hTq1 => ?_)
          clear hK K
          try simp only [Act.put, List.setIfInBounds_toArray, List.set_cons_zero, List.set_cons_succ, List.getElem_toArray, List.getElem_cons_succ, List.getElem_cons_zero]
          refine wpAnyH_take (i := 2) (v := .bool false) rfl (by kernel_rfl) (by kernel_rfl) (by kernel_rfl) (fun _ _ _ h => h) (Or.inl ⟨by kernel_rfl, ?_⟩) (by assumption) ?_
          · intro ww hSw
            clear hSw
            go_simp
            all_goals (try omega)
            all_goals (try assumption)
            all_goals (try rfl)
          try simp only [Act.put, List.setIfInBounds_toArray, List.set_cons_zero, List.set_cons_succ, List.getElem_toArray, List.getElem_cons_succ, List.getElem_cons_zero]
          refine wpAnyH_take (i := 3) (v := .bool false) rfl (by kernel_rfl) (by kernel_rfl) (by kernel_rfl) (fun _ _ _ h => h) (Or.inl ⟨by kernel_rfl, ?_⟩) (by assumption) ?_
          · intro ww hSw
            clear hSw
            go_simp
            all_goals (try omega)
            all_goals (try assumption)
            all_goals (try rfl)
          try simp only [Act.put, List.setIfInBounds_toArray, List.set_cons_zero, List.set_cons_succ, List.getElem_toArray, List.getElem_cons_succ, List.getElem_cons_zero]
          refine wpAnyH_take (i := 4) (v := .int .i64 ((j + 1 : Nat) : Int)) rfl (by kernel_rfl) (by kernel_rfl) (by kernel_rfl) (fun _ _ _ h => h) (Or.inl ⟨by kernel_rfl, ?_⟩) (by assumption) ?_
          · intro ww hSw
            clear hSw
            go_simp
            all_goals (try omega)
            all_goals (try assumption)
            all_goals (try rfl)
          try simp only [Act.put, List.setIfInBounds_toArray, List.set_cons_zero, List.set_cons_succ, List.getElem_toArray, List.getElem_cons_succ, List.getElem_cons_zero]
          refine wpAnyH_take (i := 5) (v := .bool true) rfl (by kernel_rfl) (by kernel_rfl) (by kernel_rfl) (fun _ _ _ h => h) (Or.inl ⟨by kernel_rfl, ?_⟩) (by assumption) ?_
          · intro ww hSw
            have hj1 : decide (((j + 1 : Nat) : Int) > 0) = true := decide_eq_true (by omega)
            have hj2 : decide ((0 : Int) < ((j + 1 : Nat) : Int)) = true := decide_eq_true (by omega)
            have hj3 : decide ((0 : Int) < (j : Int) + 1) = true := decide_eq_true (by omega)
            clear hSw
            go_simp
            all_goals (try omega)
            all_goals (try assumption)
            all_goals (try rfl)
          try simp only [Act.put, List.setIfInBounds_toArray, List.set_cons_zero, List.set_cons_succ, List.getElem_toArray, List.getElem_cons_succ, List.getElem_cons_zero]
          refine wpAnyH_take (i := 6) (v := .bool true) rfl (by kernel_rfl) (by kernel_rfl) (by kernel_rfl) (fun _ _ _ h => h) (Or.inl ⟨by kernel_rfl, ?_⟩) (by assumption) ?_
          · intro ww hSw
            clear hSw
            go_simp
            all_goals (try omega)
            all_goals (try assumption)
            all_goals (try rfl)
          try simp only [Act.put, List.setIfInBounds_toArray, List.set_cons_zero, List.set_cons_succ, List.getElem_toArray, List.getElem_cons_succ, List.getElem_cons_zero]
          refine wpAnyH_take (i := 7) (v := .slice (some ⟨b, off, none⟩) l.length c) rfl (by kernel_rfl) (by kernel_rfl) (by kernel_rfl) (fun _ _ _ h => h) (Or.inl ⟨by kernel_rfl, ?_⟩) (by assumption) ?_
          · intro ww hSw
            clear hSw
            go_simp
            all_goals (try omega)
            all_goals (try assumption)
            all_goals (try rfl)
          try simp only [Act.put, List.setIfInBounds_toArray, List.set_cons_zero, List.set_cons_succ, List.getElem_toArray, List.getElem_cons_succ, List.getElem_cons_zero]
          refine wpAnyH_take (i := 8) (v := .int .i64 ((j + 1 : Nat) : Int)) rfl (by kernel_rfl) (by kernel_rfl) (by kernel_rfl) (fun _ _ _ h => h) (Or.inl ⟨by kernel_rfl, ?_⟩) (by assumption) ?_
          · intro ww hSw
            clear hSw
            go_simp
            all_goals (try omega)
            all_goals (try assumption)
            all_goals (try rfl)
          try simp only [Act.put, List.setIfInBounds_toArray, List.set_cons_zero, List.set_cons_succ, List.getElem_toArray, List.getElem_cons_succ, List.getElem_cons_zero]
          refine wpAnyH_take (i := 9) (v := .int .i64 (j : Int)) rfl (by kernel_rfl) (by kernel_rfl) (by kernel_rfl) (fun _ _ _ h => h) (Or.inl ⟨by kernel_rfl, ?_⟩) (by assumption) ?_
          · intro ww hSw
            clear hSw
            go_simp
            all_goals (try (first | (rw [IntKind.wrap_i64]; omega) | (show wrap64 (j : Int) = (j : Int); exact wrap64_in _ (by omega)) | (simp [IntKind.wrap]; omega) | go_num))
            all_goals (try omega)
            all_goals (try assumption)
            all_goals (try rfl)
          try simp only [Act.put, List.setIfInBounds_toArray, List.set_cons_zero, List.set_cons_succ, List.getElem_toArray, List.getElem_cons_succ, List.getElem_cons_zero]
          refine wpAnyH_take (i := 10) (v := .pointer (some ⟨b, off + j * 8, none⟩)) rfl (by kernel_rfl) (by kernel_rfl) (by kernel_rfl) (fun _ _ _ h => h) (Or.inl ⟨by kernel_rfl, ?_⟩) (by assumption) ?_
          · intro ww hSw
            clear hSw
            go_simp
            all_goals (try omega)
            all_goals (try assumption)
            all_goals (try rfl)
          try simp only [Act.put, List.setIfInBounds_toArray, List.set_cons_zero, List.set_cons_succ, List.getElem_toArray, List.getElem_cons_succ, List.getElem_cons_zero]
          refine wpAnyH_take (i := 11) (v := .pointer (some ⟨b, off + j * 8, none⟩)) rfl (by kernel_rfl) (by kernel_rfl) (by kernel_rfl) (fun _ _ _ h => h) (Or.inl ⟨by kernel_rfl, ?_⟩) (by assumption) ?_
          · intro ww hSw
            clear hSw
            go_simp
            all_goals (try omega)
            all_goals (try assumption)
            all_goals (try rfl)
          try simp only [Act.put, List.setIfInBounds_toArray, List.set_cons_zero, List.set_cons_succ, List.getElem_toArray, List.getElem_cons_succ, List.getElem_cons_zero]
          refine wpAnyH_take (i := 12) (v := .string (atI l j).s) rfl (by kernel_rfl) (by kernel_rfl) (by kernel_rfl) (fun _ _ _ h => h) (Or.inl ⟨by kernel_rfl, ?_⟩) (by assumption) ?_
          · intro ww hSw
            have hcc := hSw.2.2.2.1 j rfl
            clear hSw
            go_simp
            all_goals (try omega)
            all_goals (try assumption)
            all_goals (try rfl)
          try simp only [Act.put, List.setIfInBounds_toArray, List.set_cons_zero, List.set_cons_succ, List.getElem_toArray, List.getElem_cons_succ, List.getElem_cons_zero]
          refine wpAnyH_take (i := 13) (v := .pointer (some ⟨gi, 0, none⟩)) rfl (by kernel_rfl) (by kernel_rfl) (by kernel_rfl) (fun _ _ _ h => h) (Or.inl ⟨by kernel_rfl, ?_⟩) (by assumption) ?_
          · intro ww hSw
            clear hSw
            go_simp
            all_goals (try omega)
            all_goals (try assumption)
            all_goals (try rfl)
          try simp only [Act.put, List.setIfInBounds_toArray, List.set_cons_zero, List.set_cons_succ, List.getElem_toArray, List.getElem_cons_succ, List.getElem_cons_zero]
          refine wpAnyH_take (i := 14) (v := .string X.s) rfl (by kernel_rfl) (by kernel_rfl) (by kernel_rfl) (fun _ _ _ h => h) (Or.inl ⟨by kernel_rfl, ?_⟩) (by assumption) ?_
          · intro ww hSw
            have hc0 : ww.cell? ⟨gi, 0, none⟩ = some (.string X.s) := by rw [Lib.cell_of_heap hSw.2.2.1]; rfl
            clear hSw
            go_simp
            all_goals (try omega)
            all_goals (try assumption)
            all_goals (try rfl)
          try simp only [Act.put, List.setIfInBounds_toArray, List.set_cons_zero, List.set_cons_succ, List.getElem_toArray, List.getElem_cons_succ, List.getElem_cons_zero]
          refine wpAnyH_ready (rs := [15]) (by kernel_rfl) (by simp) ?_
          refine AllReadyH.cons rfl (fun K hK => ?_) AllReadyH.nil
          go_simp
          refine (HORD.out _).mono ?_
          rintro e q2 ⟨rfl, hbq2⟩
          have hSq2 : (fun ww => Below w.heap.size w ww ∧ Env ww ∧ ww.heap[gi]? = some (.cells #[.string X.s, .int .i64 X.k, .int .u32 X.m, .int .u32 X.u, .int .u32 X.g, .int .i64 X.t, .int .i64 X.a, .string X.d] 42 (0, 0)) ∧ (∀ i, (j + 1) = i + 1 → ww.cell? ⟨b, off + i * 8, none⟩ = some (.string (atI l i).s)) ∧ b < ww.heap.size ∧ KnM ww w.heap.size n kn) q2 := ⟨below_then hSq1.1 hbq2, hSq1.2.1.below hbq2, (hbq2.block _ (lt_of_block hSq1.2.2.1)).trans hSq1.2.2.1, fun j hj => (hbq2.cell hSq1.2.2.2.2.1).trans (hSq1.2.2.2.1 j hj), Nat.lt_of_lt_of_le hSq1.2.2.2.2.1 hbq2.size, hSq1.2.2.2.2.2.keep hbq2⟩
          refine hK.out _ _ hSq2 (fun hTq2 => ?_)
          clear hK K
          try simp only [Act.put, List.setIfInBounds_toArray, List.set_cons_zero, List.set_cons_succ, List.getElem_toArray, List.getElem_cons_succ, List.getElem_cons_zero]
          refine wpAnyH_take (i := 16) (v := .bool false) rfl (by kernel_rfl) (by kernel_rfl) (by kernel_rfl) (fun _ _ _ h => h) (Or.inl ⟨by kernel_rfl, ?_⟩) (by assumption) ?_
          · intro ww hSw
            clear hSw
            go_simp
            all_goals (try omega)
            all_goals (try assumption)
            all_goals (try rfl)
          try simp only [Act.put, List.setIfInBounds_toArray, List.set_cons_zero, List.set_cons_succ, List.getElem_toArray, List.getElem_cons_succ, List.getElem_cons_zero]
          refine wpAnyH_take (i := 17) (v := .bool false) rfl (by kernel_rfl) (by kernel_rfl) (by kernel_rfl) (fun _ _ _ h => h) (Or.inl ⟨by kernel_rfl, ?_⟩) (by assumption) ?_
          · intro ww hSw
            clear hSw
            go_simp
            all_goals (try omega)
            all_goals (try assumption)
            all_goals (try rfl)
          try simp only [Act.put, List.setIfInBounds_toArray, List.set_cons_zero, List.set_cons_succ, List.getElem_toArray, List.getElem_cons_succ, List.getElem_cons_zero]
          refine wpAnyH_take (i := 18) (v := .bool false) rfl (by kernel_rfl) (by kernel_rfl) (by kernel_rfl) (fun _ _ _ h => h) (Or.inl ⟨by kernel_rfl, ?_⟩) (by assumption) ?_
          · intro ww hSw
            clear hSw
            go_simp
            all_goals (try omega)
            all_goals (try assumption)
            all_goals (try rfl)
          try simp only [Act.put, List.setIfInBounds_toArray, List.set_cons_zero, List.set_cons_succ, List.getElem_toArray, List.getElem_cons_succ, List.getElem_cons_zero]
          have HBQ := Lib.hid hSq2.1
          have HXQ := Lib.hid hSq2.2.2.1
          have HMQ := Lib.hid hSq2.2.2.2.2.2
          refine wpAnyH_done (by kernel_rfl) ?_ _
          generalize q2 = Q1 at *
          obtain ⟨z0, _⟩ := item_box (X := X) HXQ.out
          go_wp2_with fail
          refine (HP.out _).mono ?_; rintro e wx ⟨rfl, hww⟩; rw [hww]; clear hww wx
          have HQK := Lib.hid (keyOf_string_mk (P := Tryz.prog) Tryz.underlying9 (s := parB X.s) (by have := par_le X.s; have := HXS.out; unfold maxLen; omega))
          have HQX := Lib.hid (keyOf_string_mk (P := Tryz.prog) Tryz.underlying9 (s := X.s) (by have := HXS.out; unfold maxLen; omega))
          have HH := Lib.hid (setF_has (⟨#[]⟩ :: kn) (parB X.s))
          have HN : Hid (n ≤ 1001) := by show _ ≤ _; have := HMQ.out.1; have := HDL.out; have := HL1.out; omega
          have HOW := Lib.hid HMQ.out.2
          obtain ⟨Q2, hQ2⟩ : ∃ Q2, Q2 = Q1.alloc (.cells #[] 51) := ⟨_, rfl⟩
          have h12 : Below Q1.heap.size Q1 Q2 := by rw [hQ2]; exact below_al Q1 _
          have HM6 := Lib.hid (HMQ.out.keep h12)
          have HB6 := Lib.hid (below_then HBQ.out h12)
          have HX6 := Lib.hid ((h12.block _ (lt_of_block HXQ.out)).trans HXQ.out)
          have HQ2 := Lib.hid hQ2
          clear h12 hQ2 HPC HSO HOR HORX
          generalize hG : knB (⟨#[]⟩ :: kn) (parB X.s) = G at *
          go_upto_region 8 with (at_lookup; refine wpList_lookup_own_unit _ rfl _ _ 52 rfl 9 51 keyF Tryz.underlying52 (zero_unitF _) w.heap.size n _ rfl HOW.out _ _ rfl HQK.out ?_; rw [HH.out])
          rw [← HQ2.out]
          clear HQ2 HMQ HBQ HXQ HOW z0 HH
          cases G with
          | false =>
            have HNO : Hid (V = false) := by show V = _; rw [HV.out]; exact rng_all _ _ _ HRA.out hkn (by rw [HROW.out]; simp)
            clear HRA HROW
            go_wp2_with fail
            go_ret
            rw [HNO.out]
            exact ⟨rfl, HB6.out⟩
          | true =>
            have HRA2 := Lib.hid (rng_more _ _ HRA.out (show _ = true by rw [HROW.out, HOI.out, hso]; rfl))
            obtain ⟨z0, z1, z2, z3, z4, z5, z6, z7⟩ := item_box (X := X) HX6.out
            clear HRA HROW
            by_cases hk1 : X.k = 1
            · have HDE : Hid (dirT (l.take ((j + 1) + 1)) = kn ++ [X.s]) := by show _ = _; rw [HDS.out, if_pos hk1]
              have hkb : (X.k == 1) = true := by rw [hk1]; rfl
              clear HDS
              rw [hk1] at z1
              go_wp2_with (at_mapUpdate; refine wpList_mapUpdate_own _ rfl _ _ _ 52 rfl 9 51 keyF Tryz.underlying52 _ w.heap.size n _ rfl HM6.out.2 (by have := HN.out; unfold maxLen; omega) _ _ _ rfl rfl HQX.out (.agg []) [] unitElem_mk ?_; intro w7 hown7 hgrow7)
              have HM7 : Hid (KnM w7 w.heap.size (n + 1) (dirT (l.take ((j + 1) + 1)))) := by
                show KnM _ _ _ _
                rw [HDE.out]
                refine ⟨by rw [List.length_append, List.length_singleton]; have := HM6.out.1; omega, ?_⟩
                rw [show (⟨#[]⟩ : ByteArray) :: (kn ++ [X.s]) = (⟨#[]⟩ :: kn) ++ [X.s] from rfl, setF_snoc]
                exact hown7
              have HB7 := Lib.hid (HB6.out.grown hgrow7 HB6.out.size (fun k hk => by injection hk with hk; subst hk; exact Nat.le_refl _))
              have hl1 := HL1.out
              clear hown7 hgrow7 HM6 HB6 HX6 z0 z1
              go_wp2_with fail
              go_roundw
              case rel => exact ⟨(j + 1) + 1, n + 1, by omega, by go_num, HRA2, HM7, HB7⟩
              case measure => simp [intOf]; omega
            · have HDE : Hid (dirT (l.take ((j + 1) + 1)) = kn) := by show _ = _; rw [HDS.out, if_neg hk1, List.append_nil]
              have hkb : (X.k == 1) = false := beq_eq_false_iff_ne.2 hk1
              have hl1 := HL1.out
              clear HDS
              go_wp2_with fail
              go_roundw
              case rel => exact ⟨(j + 1) + 1, n, by omega, by go_num, HRA2, by rw [HDE.out]; exact HM6, HB6⟩
              case measure => simp [intOf]; omega
        · have hge : decide (ov ≥ 0) = true := decide_eq_true (by omega)
          have hge2 : decide (0 ≤ ov) = true := decide_eq_true (by omega)
          rw [decide_eq_false hlt] at HOI
          have HNO : Hid (V = false) := by show V = _; rw [HV.out]; exact rng_all _ _ _ HRA.out hkn (by rw [HROW.out, HOI.out, Bool.and_false]; rfl)
          have hS0 : (fun ww => Below w.heap.size w ww ∧ Env ww ∧ ww.heap[gi]? = some (.cells #[.string X.s, .int .i64 X.k, .int .u32 X.m, .int .u32 X.u, .int .u32 X.g, .int .i64 X.t, .int .i64 X.a, .string X.d] 42 (0, 0)) ∧ (∀ i, (j + 1) = i + 1 → ww.cell? ⟨b, off + i * 8, none⟩ = some (.string (atI l i).s)) ∧ b < ww.heap.size ∧ KnM ww w.heap.size n kn) W5.drew := ⟨HB5.out.drew, HE5.out.drew, HX5.out, HPC.out, HBL.out, HK5.out.keep (Below.refl _ _).drew⟩
          refine wp_region_held_drew (S := fun ww => Below w.heap.size w ww ∧ Env ww ∧ ww.heap[gi]? = some (.cells #[.string X.s, .int .i64 X.k, .int .u32 X.m, .int .u32 X.u, .int .u32 X.g, .int .i64 X.t, .int .i64 X.a, .string X.d] 42 (0, 0)) ∧ (∀ i, (j + 1) = i + 1 → ww.cell? ⟨b, off + i * 8, none⟩ = some (.string (atI l i).s)) ∧ b < ww.heap.size ∧ KnM ww w.heap.size n kn) (by kernel_rfl) hS0 (fun hSA => ?_)
          clear hS0
          generalize W5.drew = q0 at *
          refine wpAnyH_take (i := 0) (v := .agg #[.string X.s, .int .i64 X.k, .int .u32 X.m, .int .u32 X.u, .int .u32 X.g, .int .i64 X.t, .int .i64 X.a, .string X.d]) rfl (by kernel_rfl) (by kernel_rfl) (by kernel_rfl) (fun _ _ _ h => h) (Or.inl ⟨by kernel_rfl, ?_⟩) (by assumption) ?_
          · intro ww hSw
            have hc0 : ww.cell? ⟨gi, 0, none⟩ = some (.string X.s) := by rw [Lib.cell_of_heap hSw.2.2.1]; rfl
            have hc1 : ww.cell? ⟨gi, 1, none⟩ = some (.int .i64 X.k) := by rw [Lib.cell_of_heap hSw.2.2.1]; rfl
            have hc2 : ww.cell? ⟨gi, 2, none⟩ = some (.int .u32 X.m) := by rw [Lib.cell_of_heap hSw.2.2.1]; rfl
            have hc3 : ww.cell? ⟨gi, 3, none⟩ = some (.int .u32 X.u) := by rw [Lib.cell_of_heap hSw.2.2.1]; rfl
            have hc4 : ww.cell? ⟨gi, 4, none⟩ = some (.int .u32 X.g) := by rw [Lib.cell_of_heap hSw.2.2.1]; rfl
            have hc5 : ww.cell? ⟨gi, 5, none⟩ = some (.int .i64 X.t) := by rw [Lib.cell_of_heap hSw.2.2.1]; rfl
            have hc6 : ww.cell? ⟨gi, 6, none⟩ = some (.int .i64 X.a) := by rw [Lib.cell_of_heap hSw.2.2.1]; rfl
            have hc7 : ww.cell? ⟨gi, 7, none⟩ = some (.string X.d) := by rw [Lib.cell_of_heap hSw.2.2.1]; rfl
            clear hSw
            go_simp
            all_goals (try omega)
            all_goals (try assumption)
            all_goals (try rfl)
          try simp only [Act.put, List.setIfInBounds_toArray, List.set_cons_zero, List.set_cons_succ, List.getElem_toArray, List.getElem_cons_succ, List.getElem_cons_zero]
          refine wpAnyH_ready (rs := [1]) (by kernel_rfl) (by simp) ?_
          refine AllReadyH.cons rfl (fun K hK => ?_) AllReadyH.nil
          go_simp
          refine (HSO.out _ hSA.2.1).mono ?_
          rintro e q1 ⟨rfl, hbq1⟩
          have hSq1 : (fun ww => Below w.heap.size w ww ∧ Env ww ∧ ww.heap[gi]? = some (.cells #[.string X.s, .int .i64 X.k, .int .u32 X.m, .int .u32 X.u, .int .u32 X.g, .int .i64 X.t, .int .i64 X.a, .string X.d] 42 (0, 0)) ∧ (∀ i, (j + 1) = i + 1 → ww.cell? ⟨b, off + i * 8, none⟩ = some (.string (atI l i).s)) ∧ b < ww.heap.size ∧ KnM ww w.heap.size n kn) q1 := ⟨below_then hSA.1 hbq1, hSA.2.1.below hbq1, (hbq1.block _ (lt_of_block hSA.2.2.1)).trans hSA.2.2.1, fun j hj => (hbq1.cell hSA.2.2.2.2.1).trans (hSA.2.2.2.1 j hj), Nat.lt_of_lt_of_le hSA.2.2.2.2.1 hbq1.size, hSA.2.2.2.2.2.keep hbq1⟩
          refine hK.out _ _ hSq1 (fun hTq1 => ?_)
          clear hK K
          try simp only [Act.put, List.setIfInBounds_toArray, List.set_cons_zero, List.set_cons_succ, List.getElem_toArray, List.getElem_cons_succ, List.getElem_cons_zero]
          refine wpAnyH_take (i := 2) (v := .bool false) rfl (by kernel_rfl) (by kernel_rfl) (by kernel_rfl) (fun _ _ _ h => h) (Or.inl ⟨by kernel_rfl, ?_⟩) (by assumption) ?_
          · intro ww hSw
            clear hSw
            go_simp
            all_goals (try omega)
            all_goals (try assumption)
            all_goals (try rfl)
          try simp only [Act.put, List.setIfInBounds_toArray, List.set_cons_zero, List.set_cons_succ, List.getElem_toArray, List.getElem_cons_succ, List.getElem_cons_zero]
          refine wpAnyH_take (i := 3) (v := .bool false) rfl (by kernel_rfl) (by kernel_rfl) (by kernel_rfl) (fun _ _ _ h => h) (Or.inl ⟨by kernel_rfl, ?_⟩) (by assumption) ?_
          · intro ww hSw
            clear hSw
            go_simp
            all_goals (try omega)
            all_goals (try assumption)
            all_goals (try rfl)
          try simp only [Act.put, List.setIfInBounds_toArray, List.set_cons_zero, List.set_cons_succ, List.getElem_toArray, List.getElem_cons_succ, List.getElem_cons_zero]
          refine wpAnyH_take (i := 4) (v := .int .i64 ((j + 1 : Nat) : Int)) rfl (by kernel_rfl) (by kernel_rfl) (by kernel_rfl) (fun _ _ _ h => h) (Or.inl ⟨by kernel_rfl, ?_⟩) (by assumption) ?_
          · intro ww hSw
            clear hSw
            go_simp
            all_goals (try omega)
            all_goals (try assumption)
            all_goals (try rfl)
          try simp only [Act.put, List.setIfInBounds_toArray, List.set_cons_zero, List.set_cons_succ, List.getElem_toArray, List.getElem_cons_succ, List.getElem_cons_zero]
          refine wpAnyH_take (i := 5) (v := .bool true) rfl (by kernel_rfl) (by kernel_rfl) (by kernel_rfl) (fun _ _ _ h => h) (Or.inl ⟨by kernel_rfl, ?_⟩) (by assumption) ?_
          · intro ww hSw
            have hj1 : decide (((j + 1 : Nat) : Int) > 0) = true := decide_eq_true (by omega)
            have hj2 : decide ((0 : Int) < ((j + 1 : Nat) : Int)) = true := decide_eq_true (by omega)
            have hj3 : decide ((0 : Int) < (j : Int) + 1) = true := decide_eq_true (by omega)
            clear hSw
            go_simp
            all_goals (try omega)
            all_goals (try assumption)
            all_goals (try rfl)
          try simp only [Act.put, List.setIfInBounds_toArray, List.set_cons_zero, List.set_cons_succ, List.getElem_toArray, List.getElem_cons_succ, List.getElem_cons_zero]
          refine wpAnyH_take (i := 6) (v := .bool true) rfl (by kernel_rfl) (by kernel_rfl) (by kernel_rfl) (fun _ _ _ h => h) (Or.inl ⟨by kernel_rfl, ?_⟩) (by assumption) ?_
          · intro ww hSw
            clear hSw
            go_simp
            all_goals (try omega)
            all_goals (try assumption)
            all_goals (try rfl)
          try simp only [Act.put, List.setIfInBounds_toArray, List.set_cons_zero, List.set_cons_succ, List.getElem_toArray, List.getElem_cons_succ, List.getElem_cons_zero]
          refine wpAnyH_take (i := 7) (v := .slice (some ⟨b, off, none⟩) l.length c) rfl (by kernel_rfl) (by kernel_rfl) (by kernel_rfl) (fun _ _ _ h => h) (Or.inl ⟨by kernel_rfl, ?_⟩) (by assumption) ?_
          · intro ww hSw
            clear hSw
            go_simp
            all_goals (try omega)
            all_goals (try assumption)
            all_goals (try rfl)
          try simp only [Act.put, List.setIfInBounds_toArray, List.set_cons_zero, List.set_cons_succ, List.getElem_toArray, List.getElem_cons_succ, List.getElem_cons_zero]
          refine wpAnyH_take (i := 8) (v := .int .i64 ((j + 1 : Nat) : Int)) rfl (by kernel_rfl) (by kernel_rfl) (by kernel_rfl) (fun _ _ _ h => h) (Or.inl ⟨by kernel_rfl, ?_⟩) (by assumption) ?_
          · intro ww hSw
            clear hSw
            go_simp
            all_goals (try omega)
            all_goals (try assumption)
            all_goals (try rfl)
          try simp only [Act.put, List.setIfInBounds_toArray, List.set_cons_zero, List.set_cons_succ, List.getElem_toArray, List.getElem_cons_succ, List.getElem_cons_zero]
          refine wpAnyH_take (i := 9) (v := .int .i64 (j : Int)) rfl (by kernel_rfl) (by kernel_rfl) (by kernel_rfl) (fun _ _ _ h => h) (Or.inl ⟨by kernel_rfl, ?_⟩) (by assumption) ?_
          · intro ww hSw
            clear hSw
            go_simp
            all_goals (try (first | (rw [IntKind.wrap_i64]; omega) | (show wrap64 (j : Int) = (j : Int); exact wrap64_in _ (by omega)) | (simp [IntKind.wrap]; omega) | go_num))
            all_goals (try omega)
            all_goals (try assumption)
            all_goals (try rfl)
          try simp only [Act.put, List.setIfInBounds_toArray, List.set_cons_zero, List.set_cons_succ, List.getElem_toArray, List.getElem_cons_succ, List.getElem_cons_zero]
          refine wpAnyH_take (i := 10) (v := .pointer (some ⟨b, off + j * 8, none⟩)) rfl (by kernel_rfl) (by kernel_rfl) (by kernel_rfl) (fun _ _ _ h => h) (Or.inl ⟨by kernel_rfl, ?_⟩) (by assumption) ?_
          · intro ww hSw
            clear hSw
            go_simp
            all_goals (try omega)
            all_goals (try assumption)
            all_goals (try rfl)
          try simp only [Act.put, List.setIfInBounds_toArray, List.set_cons_zero, List.set_cons_succ, List.getElem_toArray, List.getElem_cons_succ, List.getElem_cons_zero]
          refine wpAnyH_take (i := 11) (v := .pointer (some ⟨b, off + j * 8, none⟩)) rfl (by kernel_rfl) (by kernel_rfl) (by kernel_rfl) (fun _ _ _ h => h) (Or.inl ⟨by kernel_rfl, ?_⟩) (by assumption) ?_
          · intro ww hSw
            clear hSw
            go_simp
            all_goals (try omega)
            all_goals (try assumption)
            all_goals (try rfl)
          try simp only [Act.put, List.setIfInBounds_toArray, List.set_cons_zero, List.set_cons_succ, List.getElem_toArray, List.getElem_cons_succ, List.getElem_cons_zero]
          refine wpAnyH_take (i := 12) (v := .string (atI l j).s) rfl (by kernel_rfl) (by kernel_rfl) (by kernel_rfl) (fun _ _ _ h => h) (Or.inl ⟨by kernel_rfl, ?_⟩) (by assumption) ?_
          · intro ww hSw
            have hcc := hSw.2.2.2.1 j rfl
            clear hSw
            go_simp
            all_goals (try omega)
            all_goals (try assumption)
            all_goals (try rfl)
          try simp only [Act.put, List.setIfInBounds_toArray, List.set_cons_zero, List.set_cons_succ, List.getElem_toArray, List.getElem_cons_succ, List.getElem_cons_zero]
          refine wpAnyH_take (i := 13) (v := .pointer (some ⟨gi, 0, none⟩)) rfl (by kernel_rfl) (by kernel_rfl) (by kernel_rfl) (fun _ _ _ h => h) (Or.inl ⟨by kernel_rfl, ?_⟩) (by assumption) ?_
          · intro ww hSw
            clear hSw
            go_simp
            all_goals (try omega)
            all_goals (try assumption)
            all_goals (try rfl)
          try simp only [Act.put, List.setIfInBounds_toArray, List.set_cons_zero, List.set_cons_succ, List.getElem_toArray, List.getElem_cons_succ, List.getElem_cons_zero]
          refine wpAnyH_take (i := 14) (v := .string X.s) rfl (by kernel_rfl) (by kernel_rfl) (by kernel_rfl) (fun _ _ _ h => h) (Or.inl ⟨by kernel_rfl, ?_⟩) (by assumption) ?_
          · intro ww hSw
            have hc0 : ww.cell? ⟨gi, 0, none⟩ = some (.string X.s) := by rw [Lib.cell_of_heap hSw.2.2.1]; rfl
            clear hSw
            go_simp
            all_goals (try omega)
            all_goals (try assumption)
            all_goals (try rfl)
          try simp only [Act.put, List.setIfInBounds_toArray, List.set_cons_zero, List.set_cons_succ, List.getElem_toArray, List.getElem_cons_succ, List.getElem_cons_zero]
          refine wpAnyH_ready (rs := [15]) (by kernel_rfl) (by simp) ?_
          refine AllReadyH.cons rfl (fun K hK => ?_) AllReadyH.nil
          go_simp
          refine (HORD.out _).mono ?_
          rintro e q2 ⟨rfl, hbq2⟩
          have hSq2 : (fun ww => Below w.heap.size w ww ∧ Env ww ∧ ww.heap[gi]? = some (.cells #[.string X.s, .int .i64 X.k, .int .u32 X.m, .int .u32 X.u, .int .u32 X.g, .int .i64 X.t, .int .i64 X.a, .string X.d] 42 (0, 0)) ∧ (∀ i, (j + 1) = i + 1 → ww.cell? ⟨b, off + i * 8, none⟩ = some (.string (atI l i).s)) ∧ b < ww.heap.size ∧ KnM ww w.heap.size n kn) q2 := ⟨below_then hSq1.1 hbq2, hSq1.2.1.below hbq2, (hbq2.block _ (lt_of_block hSq1.2.2.1)).trans hSq1.2.2.1, fun j hj => (hbq2.cell hSq1.2.2.2.2.1).trans (hSq1.2.2.2.1 j hj), Nat.lt_of_lt_of_le hSq1.2.2.2.2.1 hbq2.size, hSq1.2.2.2.2.2.keep hbq2⟩
          refine hK.out _ _ hSq2 (fun hTq2 => ?_)
          clear hK K
          try simp only [Act.put, List.setIfInBounds_toArray, List.set_cons_zero, List.set_cons_succ, List.getElem_toArray, List.getElem_cons_succ, List.getElem_cons_zero]
          refine wpAnyH_take (i := 16) (v := .bool true) rfl (by kernel_rfl) (by kernel_rfl) (by kernel_rfl) (fun _ _ _ h => h) (Or.inl ⟨by kernel_rfl, ?_⟩) (by assumption) ?_
          · intro ww hSw
            clear hSw
            go_simp
            all_goals (try omega)
            all_goals (try assumption)
            all_goals (try rfl)
          try simp only [Act.put, List.setIfInBounds_toArray, List.set_cons_zero, List.set_cons_succ, List.getElem_toArray, List.getElem_cons_succ, List.getElem_cons_zero]
          refine wpAnyH_take (i := 17) (v := .bool true) rfl (by kernel_rfl) (by kernel_rfl) (by kernel_rfl) (fun _ _ _ h => h) (Or.inl ⟨by kernel_rfl, ?_⟩) (by assumption) ?_
          · intro ww hSw
            clear hSw
            go_simp
            all_goals (try omega)
            all_goals (try assumption)
            all_goals (try rfl)
          try simp only [Act.put, List.setIfInBounds_toArray, List.set_cons_zero, List.set_cons_succ, List.getElem_toArray, List.getElem_cons_succ, List.getElem_cons_zero]
          refine wpAnyH_take (i := 18) (v := .bool true) rfl (by kernel_rfl) (by kernel_rfl) (by kernel_rfl) (fun _ _ _ h => h) (Or.inl ⟨by kernel_rfl, ?_⟩) (by assumption) ?_
          · intro ww hSw
            clear hSw
            go_simp
            all_goals (try omega)
            all_goals (try assumption)
            all_goals (try rfl)
          try simp only [Act.put, List.setIfInBounds_toArray, List.set_cons_zero, List.set_cons_succ, List.getElem_toArray, List.getElem_cons_succ, List.getElem_cons_zero]
          have HBQ := Lib.hid hSq2.1
          have HXQ := Lib.hid hSq2.2.2.1
          have HMQ := Lib.hid hSq2.2.2.2.2.2
          refine wpAnyH_done (by kernel_rfl) ?_ _
          clear HRA HROW HSO HP HOR HORX HPC
          go_wp2_with fail
          go_ret
          rw [HNO.out]
          exact ⟨rfl, HBQ.out⟩
end Go.Proofs.YtmeapijckncoeaaGreatDoor
