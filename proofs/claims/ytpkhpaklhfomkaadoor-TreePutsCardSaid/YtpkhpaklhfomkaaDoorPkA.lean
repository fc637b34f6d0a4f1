/-
  Trees: what is put is found; what was dropped isn't there; of a right tree what is dropped leaves a right one.
  Trees, awake: a map's literal; sound.
  Trees, awake: index of one item.
  Trees, awake: implied, of one item.
-/
import Derived.Test.YtpkhpaklhfomkaaDoorTpI
import Derived.Test.YtpkhpaklhfomkaaDoorTpF
import Derived.Test.YtpkhpaklhfomkaaDoorNamG
import Derived.Maps.Own
import Derived.Maps.OwnSet
import Derived.StringKeys

namespace Go.Proofs.YtpkhpaklhfomkaaDoor
set_option maxRecDepth 100000
set_option linter.unusedSimpArgs false
set_option linter.unusedVariables false
open Go.RowKit Go.Joins Go.Deep
open Go.Lib hiding intOf
theorem toList_inj' {a b : ByteArray} (h : a.toList = b.toList) : a = b := by
  rw [Lib.toList_data, Lib.toList_data] at h
  exact ByteArray.ext (Array.toList_inj.1 h)
theorem find_put (l : List Itm) (y : Itm) : (putL l y).find? (fun X => X.s.toList == y.s.toList) = some y := by
  unfold putL insI
  rw [List.find?_append]
  have h0 : ∀ m : List Itm, (∀ x ∈ m, x ∈ putR l y.s) → m.find? (fun X => X.s.toList == y.s.toList) = none := fun m hm => List.find?_eq_none.2 fun x hx => by
    have := (List.mem_filter.1 (hm x hx)).2
    simpa using this
  rw [h0 _ fun x hx => List.mem_of_mem_take hx, Option.none_or, List.find?_cons]
  simp
theorem find_drop (l : List Itm) (p : ByteArray) : (drpL p l).find? (fun X => X.s.toList == p.toList) = none := List.find?_eq_none.2 fun x hx h => by
  have h1 := (List.mem_filter.1 hx).2
  have h2 := toList_inj' (eq_of_beq h)
  rw [h2, und_self] at h1
  cases h1
/-- What is under a path's parent is under what that is under. -/
theorem und_par (s p : ByteArray) (hne : (parB s).toList.isEmpty = false) (h : undB (parB s) p = true) : undB s p = true := by
  rcases last_cases s with ⟨h0, _⟩ | ⟨k, hk, h47, hpar, hnum, _⟩
  · rw [Lib.toList_data] at hne
    have : (parB s).data.toList = [] := List.eq_nil_of_length_eq_zero h0
    rw [this] at hne
    cases hne
  · have hs : ∃ t, s.data.toList = (parB s).data.toList ++ 47 :: t := by
      refine ⟨(baseB s).data.toList, ?_⟩
      have inj : ∀ a b : List UInt8, a.map UInt8.toNat = b.map UInt8.toNat → a = b := fun a b h => (List.map_inj_right (fun x y h => UInt8.toNat_inj.1 h)).1 h
      refine inj _ _ ?_
      rw [List.map_append, List.map_cons]
      exact hnum
    obtain ⟨t, hs⟩ := hs
    unfold undB at h ⊢
    rw [hs]
    generalize (parB s).data.toList = a at *
    generalize p.data.toList = r at *
    rw [Bool.and_eq_true] at h
    obtain ⟨h1, h2⟩ := h
    obtain ⟨u, rfl⟩ := List.isPrefixOf_iff_prefix.1 (show r.isPrefixOf a = true from h1)
    have hp1 : Lib.hasPrefix (r ++ u) r = true := h1
    have hp2 : Lib.hasPrefix (r ++ u ++ 47 :: t) r = true := by unfold Lib.hasPrefix; exact List.isPrefixOf_iff_prefix.2 ⟨u ++ 47 :: t, by rw [List.append_assoc]⟩
    unfold Lib.trimPrefix at h2 ⊢
    rw [if_pos hp1] at h2
    rw [if_pos hp2, hp2]
    rw [List.append_assoc, List.drop_left']
    rw [List.drop_left'] at h2
    cases u with
    | nil => simp [Lib.hasPrefix]
    | cons x u =>
      simp [Lib.hasPrefix] at h2 ⊢
      rcases h2 with h2 | h2
      · exact .inl h2
      · exact .inr h2
    all_goals rfl
/-- A right tree's rows. -/
theorem rgt_row {l : List Itm} (h : rgtI l = true) (k : Nat) (hk : k < l.length) : sndL l[k] = true ∧ (∀ j, k = j + 1 → ordT (atI l j).s l[k].s < 0) ∧ kndL l (parB l[k].s) = 1 := by
  have h1 := List.all_eq_true.1 h k (List.mem_range.2 hk)
  have e : atI l k = l[k] := by show l[k]?.getD default = _; rw [List.getElem?_eq_getElem hk]; rfl
  unfold rowI at h1
  rw [e, Bool.and_eq_true, Bool.and_eq_true] at h1
  obtain ⟨⟨h1, h2⟩, h3⟩ := h1
  refine ⟨h1, fun j hj => ?_, eq_of_beq h3⟩
  subst hj
  unfold ordI at h2
  rw [e, decide_eq_false (by omega : ¬ (j + 1 = 0)), Bool.false_or] at h2
  exact of_decide_eq_true h2
theorem ordT_trans {a b c : ByteArray} (h1 : ordT a b < 0) (h2 : ordT b c < 0) : ordT a c < 0 := by
  unfold ordT at *
  have t1 := ordL_trans (nums a) (nums b) (nums c) (by omega) (by omega)
  rcases Int.lt_or_eq_of_le t1 with h | h
  · exact h
  · have h3 := (ordL_zero (nums a) (nums c)).1 h
    rw [h3] at h1
    have := ordL_neg (nums b) (nums c)
    omega
theorem rgt_pw {l : List Itm} (h : rgtI l = true) : l.Pairwise (fun a b => ordT a.s b.s < 0) := by
  refine List.pairwise_iff_getElem.2 fun i j hi hj hij => ?_
  obtain ⟨d, rfl⟩ : ∃ d, j = i + 1 + d := ⟨j - i - 1, by omega⟩
  clear hij
  induction d with
  | zero =>
    have := (rgt_row h (i + 1) hj).2.1 i rfl
    have e : atI l i = l[i] := by show l[i]?.getD default = _; rw [List.getElem?_eq_getElem hi]; rfl
    rw [e] at this
    exact this
  | succ d ih =>
    have hj2 : i + 1 + d < l.length := by omega
    have h1 := ih hj2
    have h2 := (rgt_row h (i + 1 + (d + 1)) hj).2.1 (i + 1 + d) (by omega)
    have e : atI l (i + 1 + d) = l[i + 1 + d] := by show l[i + 1 + d]?.getD default = _; rw [List.getElem?_eq_getElem hj2]; rfl
    rw [e] at h2
    exact ordT_trans h1 h2
theorem rgt_of {l : List Itm} (h1 : ∀ x ∈ l, sndL x = true ∧ kndL l (parB x.s) = 1) (h2 : l.Pairwise (fun a b => ordT a.s b.s < 0)) : rgtI l = true := by
  refine List.all_eq_true.2 fun k hk => ?_
  have hk := List.mem_range.1 hk
  have e : atI l k = l[k] := by show l[k]?.getD default = _; rw [List.getElem?_eq_getElem hk]; rfl
  obtain ⟨a, b⟩ := h1 l[k] (List.getElem_mem hk)
  unfold rowI
  rw [e, a, b]
  have : ordI l k = true := by
    unfold ordI
    cases k with
    | zero => rfl
    | succ j =>
      have e2 : atI l j = l[j] := by show l[j]?.getD default = _; rw [List.getElem?_eq_getElem (by omega)]; rfl
      rw [e, Nat.add_sub_cancel, e2]
      have := List.pairwise_iff_getElem.1 h2 j (j + 1) (by omega) hk (by omega)
      rw [decide_eq_true this]
      simp
  rw [this]
  rfl
theorem rgt_drop {l : List Itm} (p : ByteArray) (h : rgtI l = true) : rgtI (drpL p l) = true := by
  refine rgt_of (fun x hx => ?_) ((rgt_pw h).sublist List.filter_sublist)
  obtain ⟨hxl, hxu⟩ := List.mem_filter.1 hx
  obtain ⟨k, hk, rfl⟩ := List.getElem_of_mem hxl
  obtain ⟨h1, _, h3⟩ := rgt_row h k hk
  refine ⟨h1, ?_⟩
  have hxu : undB l[k].s p = false := by simpa using hxu
  unfold kndL at h3 ⊢
  by_cases h0 : (parB l[k].s).toList.isEmpty = true
  · rw [if_pos h0]
  · rw [if_neg h0] at h3 ⊢
    have hpu : undB (parB l[k].s) p = false := by
      rcases Bool.eq_false_or_eq_true (undB (parB l[k].s) p) with e | e
      · rw [und_par _ _ (Bool.eq_false_iff.2 h0) e] at hxu
        cases hxu
      · exact e
    have hf : (drpL p l).find? (fun X => X.s.toList == (parB l[k].s).toList) = l.find? (fun X => X.s.toList == (parB l[k].s).toList) := by
      unfold drpL
      rw [List.find?_filter]
      congr 1
      funext X
      by_cases e : (X.s.toList == (parB l[k].s).toList) = true
      · have e2 := toList_inj' (eq_of_beq e)
        rw [e, e2, hpu]
        rfl
      · rw [Bool.eq_false_iff.2 e]
        simp
    rw [hf]
    exact h3
theorem dat_drop {l : List Itm} (p : ByteArray) (h : l.any datL = false) : (drpL p l).any datL = false := by
  rw [List.any_eq_false] at h ⊢
  exact fun x hx => h x (List.mem_filter.1 hx).1
end Go.Proofs.YtpkhpaklhfomkaaDoor

namespace Go.Proofs.YtpkhpaklhfomkaaDoor
set_option maxRecDepth 100000
set_option linter.unusedSimpArgs false
set_option linter.unusedVariables false
open Go.RowKit Go.Joins Go.Deep Go.WideMaps
open Go.Lib hiding intOf
theorem wpList_insert_own {H : Type} {P : Program} (w : World) {ops : Array Oper} {rest : List Oper} {o : Oper} {a : Act} {Q : Exit → Act → World → Prop}
    (hg : o.guard = none) (m x v : Operand) (t : TypeId) (hop : o.op = Op.insert t m x v)
    (k e : TypeId) (K : Maps.Keyed P k) (ht : P.underlying t = some (.map k e)) (R : Value → Option (DataW H × List MemPlace)) (b n : Nat) (D : DataW H)
    (hm : a.eval m = .map (some b)) (hown : w.ownsMap P k R b n D) (hn : n < maxLen) (key val : Value) (kl : Lit) (hx : a.eval x = key) (hv : a.eval v = val) (hkey : keyOf P k key = some kl)
    (d : DataW H) (ps : List MemPlace) (hval : R val = some (d, ps))
    (hK : ∀ w', w'.ownsMap P k R b (n + 1) (D.put kl d) → w.grownBy w' (some b) → wpList P ops Q rest (a.put o.dst undef) w') :
    wpList P ops Q (o :: rest) a w := by
  refine wpList_plain hg fun K' hK' => ?_
  obtain ⟨w', hrun, r1, r2⟩ := hown.update K ht hn hkey hval
  unfold Oper.wp
  simp [execOp, hop, hm, hx, hv, hrun, Result.andThen]
  exact hK' _ _ (hK w' r1 r2)
/-- Is an item sound? -/
def sodI (X : Itm) : Bool := (((chkV X.s).2.2 == 0) && !(chkV X.s).2.1) && ((X.k == 2) || (X.k == 3) || ((X.k == 1) && X.d.toList.isEmpty))
set_option maxHeartbeats 8000000 in
theorem sound_any (X : Itm) (w : World) (hs : X.s.size ≤ 100000) (hE : Env w) : Calls Tryd.prog 27 #[.agg X.cells] w fun e w' => e = .returned (.bool (sodI X)) ∧ Below w.heap.size w w' := by
  have hir := info_item
  have hb1 := below_al w (.cells X.cells 38)
  have hx1 := heap_alloc_new w (.cells X.cells 38)
  have HC := Lib.hid (check_any X.s (w.alloc (.cells X.cells 38)) (by omega) (hE.alloc _))
  have HB := Lib.hid hb1
  obtain ⟨V, hV⟩ : ∃ V, V = sodI X := ⟨_, rfl⟩
  rw [← hV]
  unfold sodI at hV
  obtain ⟨x0, x1, x2, x3, x4, x5, x6, x7⟩ := X
  simp only [Itm.cells] at hx1 HB HC ⊢
  dsimp only at hV
  generalize (chkV x0).1 = V1 at *
  generalize (chkV x0).2.1 = V2 at *
  generalize (chkV x0).2.2 = V3 at *
  have HV := Lib.hid hV
  have HX := Lib.hid hx1
  clear hb1 hx1 hE hs hV
  go_enter Tryd.func27, Tryd.ntmps27
  go_upto_region 1 with fail
  generalize hgg : w.heap.size = gx at *
  generalize w.alloc (.cells #[.string x0, .int .i64 x1, .int .u32 x2, .int .u32 x3, .int .u32 x4, .int .i64 x5, .int .i64 x6, .string x7] 38) = w2 at *
  have z0 := (cell_of_row _ _ 0 _ _ _ HX.out).trans (show _ = some (Value.string x0) from rfl)
  go_wp2_with fail
  refine HC.out.mono ?_; rintro e w3 ⟨rfl, hb3⟩
  have HB3 : Hid (Below gx w w3) := HB.out.trans (hb3.mono HB.out.size |> fun h => by subst hgg; exact h)
  have hx3 := (hb3.block _ (lt_of_block HX.out)).trans HX.out
  have y1 := (cell_of_row _ _ 1 _ _ _ hx3).trans (show _ = some (Value.int .i64 x1) from rfl)
  have y7 := (cell_of_row _ _ 7 _ _ _ hx3).trans (show _ = some (Value.string x7) from rfl)
  clear hb3 hx3 HC HX HB z0
  by_cases h3 : V3 = 0
  case neg =>
    have HF : Hid (V = false) := by show V = _; rw [HV.out, beq_eq_false_iff_ne.2 h3]; rfl
    clear HV
    go_wp2_with fail
    go_ret
    exact ⟨by rw [HF.out]; rfl, by subst hgg; exact HB3.out⟩
  subst h3
  cases V2 with
  | true =>
    have HF : Hid (V = false) := by show V = _; rw [HV.out]; rfl
    clear HV
    go_wp2_with fail
    go_ret
    exact ⟨by rw [HF.out]; rfl, by subst hgg; exact HB3.out⟩
  | false =>
    have HF : Hid (V = ((x1 == 2) || (x1 == 3) || ((x1 == 1) && x7.toList.isEmpty))) := by show V = _; rw [HV.out]; rfl
    clear HV
    by_cases h2 : x1 = 2
    · subst h2
      go_wp2_with fail
      go_ret
      exact ⟨by rw [HF.out]; rfl, by subst hgg; exact HB3.out⟩
    by_cases h33 : x1 = 3
    · subst h33
      go_wp2_with fail
      go_ret
      exact ⟨by rw [HF.out]; rfl, by subst hgg; exact HB3.out⟩
    by_cases h1 : x1 = 1
    · subst h1
      go_wp2_with fail
      go_ret
      exact ⟨by rw [HF.out]; rfl, by subst hgg; exact HB3.out⟩
    · go_wp2_with fail
      go_ret
      exact ⟨by rw [HF.out, beq_eq_false_iff_ne.2 h2, beq_eq_false_iff_ne.2 h33, beq_eq_false_iff_ne.2 h1]; rfl, by subst hgg; exact HB3.out⟩
end Go.Proofs.YtpkhpaklhfomkaaDoor

namespace Go.Proofs.YtpkhpaklhfomkaaDoor
set_option maxRecDepth 100000
set_option linter.unusedSimpArgs false
set_option linter.unusedVariables false
open Go.RowKit Go.Joins Go.Deep Go.WideMaps
open Go.Lib hiding intOf
theorem keyS : Maps.Keyed Tryd.prog 9 := Maps.string_keyed Tryd.underlying9
theorem zero_unitP (w : World) : (zeroValue 51).run Tryd.prog w = .ok (.agg #[]) w := by kernel_rfl
theorem zero_nodeP (w : World) : (zeroValue 25).run Tryd.prog w = .ok (.agg #[.int .i64 0, .int .u32 0, .int .u32 0, .int .u32 0, .int .i64 0, .int .i64 0, .string ⟨#[]⟩]) w := by kernel_rfl
/-- The example's item. -/
def itF : Itm := ⟨⟨#[97, 47, 98]⟩, 2, 0, 0, 0, 0, 0, ⟨#[]⟩⟩
/-- The example's directory. -/
def itD : Itm := ⟨⟨#[97]⟩, 1, 0, 0, 0, 0, 0, ⟨#[]⟩⟩
theorem keyAB : keyOf Tryd.prog 9 (.string ⟨#[97, 47, 98]⟩) = some (.string [97, 47, 98]) := keyOf_string_mk Tryd.underlying9 (by decide)
theorem keyA : keyOf Tryd.prog 9 (.string ⟨#[97]⟩) = some (.string [97]) := keyOf_string_mk Tryd.underlying9 (by decide)
theorem keyE : keyOf Tryd.prog 9 (.string ⟨#[]⟩) = some (.string []) := keyOf_string_mk Tryd.underlying9 (by decide)
/-- The zero node. -/
def nod0 : Value := .agg #[.int .i64 0, .int .u32 0, .int .u32 0, .int .u32 0, .int .i64 0, .int .i64 0, .string ⟨#[]⟩]
open Classical in
/-- A node as a map's datum: the zero one, or another. -/
noncomputable def nodeElem (v : Value) : Option (DataW Unit × List MemPlace) := if v = nod0 then some (.agg [], []) else some (.lit (.int .i64 1), [])
theorem nodeElem_zero {v : Value} {ps : List MemPlace} (h : nodeElem v = some (.agg [], ps)) : v = nod0 := by
  unfold nodeElem at h
  split at h
  · assumption
  · cases h
theorem nodeElem_nod0 : nodeElem nod0 = some (.agg [], []) := by unfold nodeElem; rw [if_pos rfl]
theorem nodeElem_some (v : Value) : ∃ d, nodeElem v = some (d, []) := by
  unfold nodeElem
  split
  · exact ⟨_, rfl⟩
  · exact ⟨_, rfl⟩
theorem one_cells {w : World} {A : Option Addr} {X : Itm} (h : Itms w A [X]) : ∃ b off, A = some ⟨b, off, none⟩ ∧ b < w.heap.size ∧ w.cell? ⟨b, off, none⟩ = some (.string X.s) ∧ w.cell? ⟨b, off + 1, none⟩ = some (.int .i64 X.k) ∧ w.cell? ⟨b, off + 2, none⟩ = some (.int .u32 X.m) ∧ w.cell? ⟨b, off + 3, none⟩ = some (.int .u32 X.u) ∧ w.cell? ⟨b, off + 4, none⟩ = some (.int .u32 X.g) ∧ w.cell? ⟨b, off + 5, none⟩ = some (.int .i64 X.t) ∧ w.cell? ⟨b, off + 6, none⟩ = some (.int .i64 X.a) ∧ w.cell? ⟨b, off + 7, none⟩ = some (.string X.d) := by
  obtain ⟨b, off, e, hb, hc⟩ := h (Nat.succ_pos _)
  have := hc 0 X rfl
  rw [Nat.zero_mul, Nat.add_zero] at this
  exact ⟨b, off, e, hb, this⟩
set_option maxHeartbeats 8000000 in
theorem index_one (A : Option Addr) (c : Nat) (w : World) (hT : Itms w A [itF]) : Calls Tryd.prog 42 #[.slice A 1 c] w fun e w' => ∃ gm D, e = .returned (.map (some gm)) ∧ w.heap.size ≤ gm ∧ w'.ownsMap Tryd.prog 9 nodeElem gm 1 D ∧ Maps.has D (.string [97]) = false ∧ Below w.heap.size w w' := by
  have hmm := @run_makeMap Tryd.prog
  have hir := info_item
  have hinod := info_nodeT
  have HM := Lib.hid (World.ownsMap_made (H := Unit) w Tryd.prog 9 nodeElem)
  have HB := Lib.hid (below_al w (.map #[] 0))
  have HT := Lib.hid (hT.below (below_al w (.map #[] 0)))
  clear hT
  go_enter Tryd.func42, Tryd.ntmps42
  go_upto_region 3 with fail
  have HGM : Hid (w.heap.size ≤ w.heap.size) := Nat.le_refl _
  generalize w.alloc (.map #[] 0) = w1 at *
  obtain ⟨b, off, rfl, hb, c0, c1, c2, c3, c4, c5, c6, c7⟩ := one_cells HT.out
  dsimp only [itF] at c0 c1 c2 c3 c4 c5 c6 c7
  have hx0 := heap_alloc_new w1 (.cells itF.cells 38)
  have HM2 := Lib.hid (HM.out.alloc (.cells itF.cells 38))
  have HB2 := Lib.hid (HB.out.alloc HB.out.size (.cells itF.cells 38))
  simp only [Itm.cells, itF] at hx0 HM2 HB2
  have y0 := (cell_of_row _ _ 0 _ _ _ hx0).trans (show _ = some (.string ⟨#[97, 47, 98]⟩) from rfl)
  have HX0 := Lib.hid hx0
  clear HM HB HT hx0
  go_wp2_with fail
  refine wp_loop_rounds 2 ?_
  rw [rounds_succ]
  go_upto_region 5 with fail
  generalize hgi : w1.heap.size = gi at *
  obtain ⟨w2, hw2⟩ : ∃ w2, w2 = w1.alloc (.cells #[.string ⟨#[97, 47, 98]⟩, .int .i64 2, .int .u32 0, .int .u32 0, .int .u32 0, .int .i64 0, .int .i64 0, .string ⟨#[]⟩] 38) := ⟨_, rfl⟩
  rw [← hw2] at HM2 HB2 HX0 y0 ⊢
  clear hw2
  have hha : Maps.has (DataW.map [] : DataW Unit) (.string [97, 47, 98]) = false := rfl
  have hat : DataW.atKey (DataW.map [] : DataW Unit) (.string [97, 47, 98]) (.agg []) = .agg [] := rfl
  obtain ⟨w3, hw3⟩ : ∃ w3, w3 = w2.alloc (.cells #[.int .i64 0, .int .u32 0, .int .u32 0, .int .u32 0, .int .i64 0, .int .i64 0, .string ⟨#[]⟩] 25) := ⟨_, rfl⟩
  have h23 : Below w2.heap.size w2 w3 := by rw [hw3]; exact below_al w2 _
  have HM3 : Hid (w3.ownsMap Tryd.prog 9 nodeElem w.heap.size 0 (DataW.map [])) := by show World.ownsMap _ _ _ _ _ _ _; rw [hw3]; exact HM2.out.alloc _
  have HB3 := Lib.hid (below_then HB2.out h23)
  have HX3 := Lib.hid ((h23.block _ (lt_of_block HX0.out)).trans HX0.out)
  have HW3 := Lib.hid hw3
  clear h23 hw3 HX0 HB2
  have hsome := nodeElem_some (.agg #[.int .i64 2, .int .u32 0, .int .u32 0, .int .u32 0, .int .i64 0, .int .i64 0, .string ⟨#[]⟩])
  obtain ⟨dn, hdn⟩ := hsome
  go_upto_region 6 with (first | (at_lookup; refine wpList_lookup_own_ok _ rfl _ _ 65 rfl 9 25 keyS Tryd.underlying65 nodeElem (zero_nodeP _) (.agg []) [] nodeElem_nod0 w.heap.size 0 _ rfl HM2.out _ _ rfl keyAB ?_; intro v ps hv; obtain rfl := nodeElem_zero (hat ▸ hv); rw [hha]; unfold nod0))
  rw [← HW3.out]
  have z0 := (cell_of_row _ _ 0 _ _ _ HX3.out).trans (show _ = some (.string ⟨#[97, 47, 98]⟩) from rfl)
  have z1 := (cell_of_row _ _ 1 _ _ _ HX3.out).trans (show _ = some (.int .i64 2) from rfl)
  have z2 := (cell_of_row _ _ 2 _ _ _ HX3.out).trans (show _ = some (.int .u32 0) from rfl)
  have z3 := (cell_of_row _ _ 3 _ _ _ HX3.out).trans (show _ = some (.int .u32 0) from rfl)
  have z4 := (cell_of_row _ _ 4 _ _ _ HX3.out).trans (show _ = some (.int .u32 0) from rfl)
  have z5 := (cell_of_row _ _ 5 _ _ _ HX3.out).trans (show _ = some (.int .i64 0) from rfl)
  have z6 := (cell_of_row _ _ 6 _ _ _ HX3.out).trans (show _ = some (.int .i64 0) from rfl)
  have z7 := (cell_of_row _ _ 7 _ _ _ HX3.out).trans (show _ = some (.string ⟨#[]⟩) from rfl)
  clear HW3 HM2 y0
  have hhb : Maps.has ((DataW.map [] : DataW Unit).put (.string [97, 47, 98]) dn) (.string [97]) = false := rfl
  go_wp2_with (at_mapUpdate; refine wpList_mapUpdate_own _ rfl _ _ _ 65 rfl 9 25 keyS Tryd.underlying65 nodeElem w.heap.size 0 _ rfl HM3.out (by unfold maxLen; omega) _ _ _ rfl rfl keyAB dn [] hdn ?_; intro w9 hown9 hgrow9)
  rw [rounds_succ]
  have HB9 : Hid (Below w.heap.size w w9) := HB3.out.grown hgrow9 HB3.out.size (fun k hk => by injection hk with hk; subst hk; exact Nat.le_refl _)
  have HO9 := Lib.hid hown9
  clear hown9 hgrow9
  go_wp2_with fail
  go_ret
  exact ⟨w.heap.size, _, rfl, Nat.le_refl _, HO9.out, hhb, HB9.out⟩
end Go.Proofs.YtpkhpaklhfomkaaDoor

namespace Go.Proofs.YtpkhpaklhfomkaaDoor
set_option maxRecDepth 100000
set_option linter.unusedSimpArgs false
set_option linter.unusedVariables false
open Go.RowKit Go.Joins Go.Deep Go.WideMaps
open Go.Lib hiding intOf
theorem par_ab : parB ⟨#[97, 47, 98]⟩ = ⟨#[97]⟩ := by
  have h : parN ⟨#[97, 47, 98]⟩ = 1 := by
    unfold parN spl Lib.lastIndexByte
    rfl
  unfold parB
  rw [h]
  rfl
theorem par_a : parB ⟨#[97]⟩ = ⟨#[]⟩ := by
  have h : parN ⟨#[97]⟩ = 0 := by
    unfold parN spl Lib.lastIndexByte
    rfl
  unfold parB
  rw [h]
  rfl
theorem atKey_no {DD : DataW Unit} {k : Lit} (z : DataW Unit) (h : Maps.has DD k = false) : DD.atKey k z = z := by
  unfold DataW.atKey
  split
  · rename_i es
    have h2 : es.find? (fun p => p.1.sameKey k) = none := List.find?_eq_none.2 fun x hx => by
      have := List.any_eq_false.1 (show es.any (fun p => p.1.sameKey k) = false from h) x hx
      exact this
    rw [h2]
  · rfl
set_option maxHeartbeats 16000000 in
theorem implied_one (A : Option Addr) (c : Nat) (w : World) (hT : Itms w A [itF]) : Calls Tryd.prog 26 #[.slice A 1 c] w fun e w' => ∃ v, e = .returned (.tuple #[v, .bool true]) ∧ w'.ownsRow w.heap.size 9 1 v 1 [.string ⟨#[97]⟩] ∧ Below w.heap.size w w' := by
  have hmm := @run_makeMap Tryd.prog
  have hir := info_item
  have hinod := info_nodeT
  have hzu := zero_unitP
  have HT := Lib.hid hT
  have HIX := Lib.hid (index_one A c w hT)
  have HP1 := Lib.hid (fun w => parent_any ⟨#[97, 47, 98]⟩ w (by decide))
  have HP2 := Lib.hid (fun w => parent_any ⟨#[97]⟩ w (by decide))
  rw [par_ab] at HP1
  rw [par_a] at HP2
  clear hT
  go_enter Tryd.func26, Tryd.ntmps26
  go_wp2_with fail
  refine HIX.out.mono ?_; rintro e w2 ⟨gn, D, rfl, hgn, hown, hhas, hb2⟩
  have HM := Lib.hid (World.ownsMap_made (H := Unit) w2 Tryd.prog 9 unitElem)
  have HN2 := Lib.hid hown
  have HHAS := Lib.hid hhas
  have HGN : Hid (gn < w2.heap.size) := hown.lt
  have h23 : Below w2.heap.size w2 (w2.alloc (.map #[] 0)) := below_al w2 _
  have HB3 := Lib.hid (below_then hb2 h23)
  have HN3 := Lib.hid (HN2.out.alloc (.map #[] 0))
  have HGK : Hid (w.heap.size ≤ w2.heap.size) := hb2.size
  clear hown hhas hb2 h23 HIX HN2
  generalize hgk : w2.heap.size = gk at *
  go_upto_region 3 with (first | (refine wpList_insert_own _ rfl _ _ _ 52 rfl 9 51 keyS Tryd.underlying52 unitElem gk 0 _ rfl HM.out (by unfold maxLen; omega) _ _ _ rfl rfl keyE (.agg []) [] unitElem_mk ?_; intro w4 hown4 hgrow4))
  have HM4 := Lib.hid hown4
  have HB4 := Lib.hid (HB3.out.grown hgrow4 HB3.out.size (fun k hk => by injection hk with hk; subst hk; exact HGK.out))
  have HN4 := Lib.hid (HN3.out.kept hgrow4 (by intro h; injection h with h; have := HGN.out; omega))
  clear hown4 hgrow4 HM HB3 HN3 hgk
  go_wp2_with fail
  refine wp_loop_rounds 2 ?_
  rw [rounds_succ]
  obtain ⟨b, off, rfl, hb, c0, c1, c2, c3, c4, c5, c6, c7⟩ := one_cells (HT.out.below HB4.out)
  dsimp only [itF] at c0 c1 c2 c3 c4 c5 c6 c7
  obtain ⟨w5, hw5⟩ : ∃ w5, w5 = w4.alloc (.cells #[.string ⟨#[97, 47, 98]⟩, .int .i64 2, .int .u32 0, .int .u32 0, .int .u32 0, .int .i64 0, .int .i64 0, .string ⟨#[]⟩] 38) := ⟨_, rfl⟩
  have h45 : Below w4.heap.size w4 w5 := by rw [hw5]; exact below_al w4 _
  have HM5 : Hid (w5.ownsMap Tryd.prog 9 (unitElem (H := Unit)) gk 1 ((DataW.map [] : DataW Unit).put (.string []) (.agg []))) := by have h := HM4.out.alloc (.cells #[.string ⟨#[97, 47, 98]⟩, .int .i64 2, .int .u32 0, .int .u32 0, .int .u32 0, .int .i64 0, .int .i64 0, .string ⟨#[]⟩] 38); rw [← hw5] at h; exact h
  have HN5 : Hid (w5.ownsMap Tryd.prog 9 nodeElem gn 1 D) := by have h := HN4.out.alloc (.cells #[.string ⟨#[97, 47, 98]⟩, .int .i64 2, .int .u32 0, .int .u32 0, .int .u32 0, .int .i64 0, .int .i64 0, .string ⟨#[]⟩] 38); rw [← hw5] at h; exact h
  have HB5 := Lib.hid (below_then HB4.out h45)
  have y0 : w5.cell? ⟨w4.heap.size, 0, none⟩ = some (.string ⟨#[97, 47, 98]⟩) := by rw [hw5]; exact (cell_of_row _ _ 0 _ _ _ (heap_alloc_new w4 _)).trans rfl
  have HW5 := Lib.hid hw5
  clear h45 hw5 HM4 HN4 HB4 HT
  go_upto_region 7 with fail
  rw [← HW5.out]
  go_wp2_with fail
  refine (HP1.out w5).mono ?_; rintro e wx ⟨rfl, hww⟩; rw [hww]; clear hww
  have hha : Maps.has ((DataW.map [] : DataW Unit).put (.string []) (.agg [])) (.string [97]) = false := rfl
  have hhe : Maps.has (((DataW.map [] : DataW Unit).put (.string []) (.agg [])).put (.string [97]) (.agg [])) (.string []) = true := rfl
  have hat : D.atKey (.string [97]) (.agg []) = .agg [] := atKey_no _ HHAS.out
  have HHN := HHAS.out
  obtain ⟨i0, hi, hz0, hz1, hz2⟩ : ∃ i0, Tryd.prog.info? 9 = some i0 ∧ i0.zero = some (.string ⟨#[]⟩) ∧ i0.size = 1 ∧ i0.bytes = 16 := by
    have h : (Tryd.prog.info? 9).map (fun i => (i.zero, i.size, i.bytes)) = some (some (.string ⟨#[]⟩), 1, 16) := by kernel_rfl
    cases hq : Tryd.prog.info? 9 with
    | none => rw [hq] at h; cases h
    | some i =>
      rw [hq] at h
      simp only [Option.map_some, Option.some.injEq, Prod.mk.injEq] at h
      exact ⟨i, rfl, h.1, h.2.1, h.2.2⟩
  go_wp2_with fail
  refine wp_loop_rounds 3 ?_
  rw [rounds_succ]
  obtain ⟨w6, hw6⟩ : ∃ w6, w6 = w5.alloc (.cells #[] 51) := ⟨_, rfl⟩
  have h56 : Below w5.heap.size w5 w6 := by rw [hw6]; exact below_al w5 _
  have HM6 := Lib.hid (HM5.out.alloc (.cells #[] 51))
  have HN6 := Lib.hid (HN5.out.alloc (.cells #[] 51))
  have HB6 := Lib.hid (below_then HB5.out h56)
  rw [← hw6] at HM6 HN6
  have HW6 := Lib.hid hw6
  clear h56 hw6 HW5 y0
  go_upto_region 10 with (at_lookup; refine wpList_lookup_own_unit _ rfl _ _ 52 rfl 9 51 keyS Tryd.underlying52 (zero_unitP _) gk 1 _ rfl HM5.out _ _ rfl keyA ?_; rw [hha])
  rw [← HW6.out]
  clear HM5 HN5 HB5 HW6
  go_upto_region 12 with (at_mapUpdate; refine wpList_mapUpdate_own _ rfl _ _ _ 52 rfl 9 51 keyS Tryd.underlying52 _ gk 1 _ rfl HM6.out (by unfold maxLen; omega) _ _ _ rfl rfl keyA (.agg []) [] unitElem_mk ?_; intro w7 hown7 hgrow7)
  have HM7 := Lib.hid hown7
  have HB7 := Lib.hid (HB6.out.grown hgrow7 HB6.out.size (fun k hk => by injection hk with hk; subst hk; exact HGK.out))
  have HN7 := Lib.hid (HN6.out.kept hgrow7 (by intro h; injection h with h; have := HGN.out; omega))
  clear hown7 hgrow7 HM6 HN6 HB6
  obtain ⟨w8, hw8⟩ : ∃ w8, w8 = w7.alloc (.cells #[.int .i64 0, .int .u32 0, .int .u32 0, .int .u32 0, .int .i64 0, .int .i64 0, .string ⟨#[]⟩] 25) := ⟨_, rfl⟩
  have h78 : Below w7.heap.size w7 w8 := by rw [hw8]; exact below_al w7 _
  have HM8 := Lib.hid (HM7.out.alloc (.cells #[.int .i64 0, .int .u32 0, .int .u32 0, .int .u32 0, .int .i64 0, .int .i64 0, .string ⟨#[]⟩] 25))
  rw [← hw8] at HM8
  have HB8 := Lib.hid (below_then HB7.out h78)
  have HW8 := Lib.hid hw8
  clear h78 hw8
  go_upto_region 13 with (at_lookup; refine wpList_lookup_own_ok _ rfl _ _ 65 rfl 9 25 keyS Tryd.underlying65 nodeElem (zero_nodeP _) (.agg []) [] nodeElem_nod0 gn 1 _ rfl HN7.out _ _ rfl keyA ?_; intro v ps hv; obtain rfl := nodeElem_zero (hat ▸ hv); rw [HHN]; unfold nod0)
  rw [← HW8.out]
  clear HM7 HN7 HB7 HW8 hat HHN hha
  obtain ⟨w9, hw9⟩ : ∃ w9, w9 = w8.alloc (.cells #[.string ⟨#[97]⟩] 9) := ⟨_, rfl⟩
  have h89 : Below w8.heap.size w8 w9 := by rw [hw9]; exact below_al w8 _
  have HM9 := Lib.hid (HM8.out.alloc (.cells #[.string ⟨#[97]⟩] 9))
  have hq2 : ∀ j u, [Value.string ⟨#[97]⟩][j]? = some u → (w8.alloc (.cells #[.string ⟨#[97]⟩] 9)).cell? ((⟨w8.heap.size, 0, none⟩ : Addr).add j) = some u := fun j u hj => by
    rw [Addr.add_lit, Nat.zero_add, cell_of_row _ _ j _ _ _ (heap_alloc_new w8 _)]
    simpa using hj
  have HB9 := Lib.hid (below_then HB8.out h89)
  have hsz9 : w.heap.size ≤ (w8.alloc (.cells #[.string ⟨#[97]⟩] 9)).heap.size := by rw [← hw9]; exact HB9.out.size
  have HQ2 := Lib.hid hq2
  have HSZ9 := Lib.hid hsz9
  rw [hw9] at HB9
  clear h89 hw9 HM8 HB8 hq2 hsz9 w9
  go_upto_region 8 with (at_builtin; refine wpList_append_own _ rfl _ _ 48 rfl w.heap.size 9 i0 (.string ⟨#[]⟩) 1 16 Tryd.underlying48 hi hz0 hz1 hz2 rfl (by decide) _ _ _ rfl (World.ownsRow_nil _ _ _ _) ⟨w8.heap.size, 0, none⟩ 1 1 [.string ⟨#[97]⟩] rfl ?qc1 ?qc2 ?qc3 ?qc4 ?qc5 ?qc6 ?_)
  case qc1 => rfl
  case qc2 => exact HQ2.out
  case qc3 => intro u hu; simp at hu; subst hu; rfl
  case qc4 => decide
  case qc5 => decide
  case qc6 => exact HSZ9.out
  intro v10 w10 hown10 hgrow10 _
  have HOW := Lib.hid hown10
  have HM10 := Lib.hid (HM9.out.kept hgrow10 (by simp [Value.ownBlock]))
  have HB10 := Lib.hid (HB9.out.grown hgrow10 HSZ9.out (fun k hk => by simp [Value.ownBlock] at hk))
  clear hown10 hgrow10 HM9 HB9 HQ2 HSZ9
  have HOW11 := Lib.hid (HOW.out.alloc (.cells #[] 51))
  have HB11 := Lib.hid (below_then HB10.out (below_al w10 (.cells #[] 51)))
  clear HOW HB10
  go_wp2_with fail
  refine (HP2.out w10).mono ?_; rintro e wx ⟨rfl, hww⟩; rw [hww]; clear hww
  go_wp2_with fail
  rw [rounds_succ]
  go_wp2_with (at_lookup; refine wpList_lookup_own_unit _ rfl _ _ 52 rfl 9 51 keyS Tryd.underlying52 (zero_unitP _) gk 2 _ rfl HM10.out _ _ rfl keyE ?_; rw [hhe])
  rw [rounds_succ]
  go_wp2_with fail
  go_ret2
  exact ⟨v10, rfl, HOW11.out, HB11.out⟩
end Go.Proofs.YtpkhpaklhfomkaaDoor
