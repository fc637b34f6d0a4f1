/-
  Trees: what is put is found; what was dropped isn't there; of a right tree what is dropped leaves a right one.
-/
import Derived.Test.YtpkhpaklhfomkaaGreatDoorTpI
import Derived.Test.YtpkhpaklhfomkaaGreatDoorTpF
namespace Go.Proofs.YtpkhpaklhfomkaaGreatDoor
set_option maxRecDepth 100000
set_option linter.unusedSimpArgs false
set_option linter.unusedVariables false
open Go.RowKit Go.Joins Go.Deep
open Go.Lib hiding intOf
theorem toList_inj' {a b : ByteArray} (h : a.toList = b.toList) : a = b := by
  rw [Lib.toList_data, Lib.toList_data] at h
  exact ByteArray.ext (Array.toList_inj.1 h)
theorem find_put (l : List Itm) (y : Itm) : (putL l y).find? (fun X => X.s.toList == y.s.toList) = some y := by
  unfold putL insI
  rw [List.find?_append]
  have h0 : ∀ m : List Itm, (∀ x ∈ m, x ∈ putR l y.s) → m.find? (fun X => X.s.toList == y.s.toList) = none := fun m hm => List.find?_eq_none.2 fun x hx => by
    have := (List.mem_filter.1 (hm x hx)).2
    simpa using this
  rw [h0 _ fun x hx => List.mem_of_mem_take hx, Option.none_or, List.find?_cons]
  simp
theorem find_drop (l : List Itm) (p : ByteArray) : (drpL p l).find? (fun X => X.s.toList == p.toList) = none := List.find?_eq_none.2 fun x hx h => by
  have h1 := (List.mem_filter.1 hx).2
  have h2 := toList_inj' (eq_of_beq h)
  rw [h2, und_self] at h1
  cases h1
/-- What is under a path's parent is under what that is under. -/
theorem und_par (s p : ByteArray) (hne : (parB s).toList.isEmpty = false) (h : undB (parB s) p = true) : undB s p = true := by
  rcases last_cases s with ⟨h0, _⟩ | ⟨k, hk, h47, hpar, hnum, _⟩
  · rw [Lib.toList_data] at hne
    have : (parB s).data.toList = [] := List.eq_nil_of_length_eq_zero h0
    rw [this] at hne
    cases hne
  · have hs : ∃ t, s.data.toList = (parB s).data.toList ++ 47 :: t := by
      refine ⟨(baseB s).data.toList, ?_⟩
      have inj : ∀ a b : List UInt8, a.map UInt8.toNat = b.map UInt8.toNat → a = b := fun a b h => (List.map_inj_right (fun x y h => UInt8.toNat_inj.1 h)).1 h
      refine inj _ _ ?_
      rw [List.map_append, List.map_cons]
      exact hnum
    obtain ⟨t, hs⟩ := hs
    unfold undB at h ⊢
    rw [hs]
    generalize (parB s).data.toList = a at *
    generalize p.data.toList = r at *
    rw [Bool.and_eq_true] at h
    obtain ⟨h1, h2⟩ := h
    obtain ⟨u, rfl⟩ := List.isPrefixOf_iff_prefix.1 (show r.isPrefixOf a = true from h1)
    have hp1 : Lib.hasPrefix (r ++ u) r = true := h1
    have hp2 : Lib.hasPrefix (r ++ u ++ 47 :: t) r = true := by unfold Lib.hasPrefix; exact List.isPrefixOf_iff_prefix.2 ⟨u ++ 47 :: t, by rw [List.append_assoc]⟩
    unfold Lib.trimPrefix at h2 ⊢
    rw [if_pos hp1] at h2
    rw [if_pos hp2, hp2]
    rw [List.append_assoc, List.drop_left']
    rw [List.drop_left'] at h2
    cases u with
    | nil => simp [Lib.hasPrefix]
    | cons x u =>
      simp [Lib.hasPrefix] at h2 ⊢
      rcases h2 with h2 | h2
      · exact .inl h2
      · exact .inr h2
    all_goals rfl
/-- A right tree's rows. -/
theorem rgt_row {l : List Itm} (h : rgtI l = true) (k : Nat) (hk : k < l.length) : sndL l[k] = true ∧ (∀ j, k = j + 1 → ordT (atI l j).s l[k].s < 0) ∧ kndL l (parB l[k].s) = 1 := by
  have h1 := List.all_eq_true.1 h k (List.mem_range.2 hk)
  have e : atI l k = l[k] := by show l[k]?.getD default = _; rw [List.getElem?_eq_getElem hk]; rfl
  unfold rowI at h1
  rw [e, Bool.and_eq_true, Bool.and_eq_true] at h1
  obtain ⟨⟨h1, h2⟩, h3⟩ := h1
  refine ⟨h1, fun j hj => ?_, eq_of_beq h3⟩
  subst hj
  unfold ordI at h2
  rw [e, decide_eq_false (by omega : ¬ (j + 1 = 0)), Bool.false_or] at h2
  exact of_decide_eq_true h2
theorem ordT_trans {a b c : ByteArray} (h1 : ordT a b < 0) (h2 : ordT b c < 0) : ordT a c < 0 := by
  unfold ordT at *
  have t1 := ordL_trans (nums a) (nums b) (nums c) (by omega) (by omega)
  rcases Int.lt_or_eq_of_le t1 with h | h
  · exact h
  · have h3 := (ordL_zero (nums a) (nums c)).1 h
    rw [h3] at h1
    have := ordL_neg (nums b) (nums c)
    omega
theorem rgt_pw {l : List Itm} (h : rgtI l = true) : l.Pairwise (fun a b => ordT a.s b.s < 0) := by
  refine List.pairwise_iff_getElem.2 fun i j hi hj hij => ?_
  obtain ⟨d, rfl⟩ : ∃ d, j = i + 1 + d := ⟨j - i - 1, by omega⟩
  clear hij
  induction d with
  | zero =>
    have := (rgt_row h (i + 1) hj).2.1 i rfl
    have e : atI l i = l[i] := by show l[i]?.getD default = _; rw [List.getElem?_eq_getElem hi]; rfl
    rw [e] at this
    exact this
  | succ d ih =>
    have hj2 : i + 1 + d < l.length := by omega
    have h1 := ih hj2
    have h2 := (rgt_row h (i + 1 + (d + 1)) hj).2.1 (i + 1 + d) (by omega)
    have e : atI l (i + 1 + d) = l[i + 1 + d] := by show l[i + 1 + d]?.getD default = _; rw [List.getElem?_eq_getElem hj2]; rfl
    rw [e] at h2
    exact ordT_trans h1 h2
theorem rgt_of {l : List Itm} (h1 : ∀ x ∈ l, sndL x = true ∧ kndL l (parB x.s) = 1) (h2 : l.Pairwise (fun a b => ordT a.s b.s < 0)) : rgtI l = true := by
  refine List.all_eq_true.2 fun k hk => ?_
  have hk := List.mem_range.1 hk
  have e : atI l k = l[k] := by show l[k]?.getD default = _; rw [List.getElem?_eq_getElem hk]; rfl
  obtain ⟨a, b⟩ := h1 l[k] (List.getElem_mem hk)
  unfold rowI
  rw [e, a, b]
  have : ordI l k = true := by
    unfold ordI
    cases k with
    | zero => rfl
    | succ j =>
      have e2 : atI l j = l[j] := by show l[j]?.getD default = _; rw [List.getElem?_eq_getElem (by omega)]; rfl
      rw [e, Nat.add_sub_cancel, e2]
      have := List.pairwise_iff_getElem.1 h2 j (j + 1) (by omega) hk (by omega)
      rw [decide_eq_true this]
      simp
  rw [this]
  rfl
theorem rgt_drop {l : List Itm} (p : ByteArray) (h : rgtI l = true) : rgtI (drpL p l) = true := by
  refine rgt_of (fun x hx => ?_) ((rgt_pw h).sublist List.filter_sublist)
  obtain ⟨hxl, hxu⟩ := List.mem_filter.1 hx
  obtain ⟨k, hk, rfl⟩ := List.getElem_of_mem hxl
  obtain ⟨h1, _, h3⟩ := rgt_row h k hk
  refine ⟨h1, ?_⟩
  have hxu : undB l[k].s p = false := by simpa using hxu
  unfold kndL at h3 ⊢
  by_cases h0 : (parB l[k].s).toList.isEmpty = true
  · rw [if_pos h0]
  · rw [if_neg h0] at h3 ⊢
    have hpu : undB (parB l[k].s) p = false := by
      rcases Bool.eq_false_or_eq_true (undB (parB l[k].s) p) with e | e
      · rw [und_par _ _ (Bool.eq_false_iff.2 h0) e] at hxu
        cases hxu
      · exact e
    have hf : (drpL p l).find? (fun X => X.s.toList == (parB l[k].s).toList) = l.find? (fun X => X.s.toList == (parB l[k].s).toList) := by
      unfold drpL
      rw [List.find?_filter]
      congr 1
      funext X
      by_cases e : (X.s.toList == (parB l[k].s).toList) = true
      · have e2 := toList_inj' (eq_of_beq e)
        rw [e, e2, hpu]
        rfl
      · rw [Bool.eq_false_iff.2 e]
        simp
    rw [hf]
    exact h3
theorem dat_drop {l : List Itm} (p : ByteArray) (h : l.any datL = false) : (drpL p l).any datL = false := by
  rw [List.any_eq_false] at h ⊢
  exact fun x hx => h x (List.mem_filter.1 hx).1
end Go.Proofs.YtpkhpaklhfomkaaGreatDoor
