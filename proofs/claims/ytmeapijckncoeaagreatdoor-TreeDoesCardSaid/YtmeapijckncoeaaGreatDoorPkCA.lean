/-
  Trees: Right by what stands ahead is the document's Right (mathematics).
  Items: the law's Few; Same of the same items.
-/
import Derived.Test.YtmeapijckncoeaaGreatDoorTdE
import Derived.Test.YtmeapijckncoeaaGreatDoorPkBH
import Derived.Test.YtmeapijckncoeaaGreatDoorPkAA
import Derived.BigQuiet

namespace Go.Proofs.YtmeapijckncoeaaGreatDoor
set_option maxRecDepth 100000
set_option linter.unusedSimpArgs false
set_option linter.unusedVariables false
open Go.RowKit Go.Joins Go.Deep Go.WideMaps
open Go.Lib hiding intOf
theorem chk_same {s : ByteArray} (h1 : (chkV s).2.2 = 0) (h2 : (chkV s).2.1 = false) : (chkV s).1 = s := by
  unfold chkV at *
  by_cases a : readN s ≠ 0
  · rw [if_pos a] at h1; exact absurd h1 a
  · rw [if_neg a] at h1 h2 ⊢
    by_cases b : harmN (pathB s) ≠ 0
    · rw [if_pos b] at h1; exact absurd h1 b
    · rw [if_neg b] at h2 ⊢
      show pathB s = s
      have h3 : hasSuffix s.data.toList [47] = false := h2
      unfold pathB trimSuffix
      rw [if_neg (by rw [h3]; decide)]
theorem sod_eq (X : Itm) : sodI X = (sndL X && !datL X) := by
  unfold sodI sndL datL
  by_cases h1 : (chkV X.s).2.2 = 0
  · cases h2 : (chkV X.s).2.1 with
    | true => simp
    | false =>
      rw [chk_same h1 h2, h1]
      have hd : X.d.toList.isEmpty = !(decide (0 < X.d.size)) := by
        rw [Lib.toList_data]
        by_cases hz : X.d.data.toList = []
        · rw [hz, decide_eq_false (by show ¬ 0 < X.d.data.size; rw [← Array.length_toList, hz]; decide)]; rfl
        · rw [decide_eq_true (by show 0 < X.d.data.size; rw [← Array.length_toList]; exact List.length_pos_iff.2 hz)]
          cases h : X.d.data.toList with
          | nil => exact absurd h hz
          | cons _ _ => rfl
      rw [hd]
      generalize decide (0 < X.d.size) = Z
      by_cases k1 : X.k = 1
      · rw [k1]; cases Z <;> simp
      by_cases k2 : X.k = 2
      · rw [k2]; simp
      by_cases k3 : X.k = 3
      · rw [k3]; simp
      have e1 : (X.k == 1) = false := beq_eq_false_iff_ne.2 k1
      have e2 : (X.k == 2) = false := beq_eq_false_iff_ne.2 k2
      have e3 : (X.k == 3) = false := beq_eq_false_iff_ne.2 k3
      rw [e1, e2, e3]
      have : (!(decide (X.k < 1)) && !(decide (3 < X.k))) = false := by
        rcases Int.lt_or_le X.k 1 with h | h
        · rw [decide_eq_true h]; rfl
        · rw [decide_eq_true (show 3 < X.k by omega), Bool.not_true, Bool.and_false]
      simp only [Bool.and_assoc]
      simp [this]
  · have e : ((chkV X.s).2.2 == 0) = false := beq_eq_false_iff_ne.2 h1
    rw [e]; simp
theorem ord_pw {l : List Itm} (h : ∀ k, k < l.length → ordI l k = true) : l.Pairwise (fun a b => ordT a.s b.s < 0) := by
  have hr : ∀ (i : Nat) (hi : i + 1 < l.length), ordT (l[i]'(by omega)).s l[i + 1].s < 0 := fun i hi => by
    have h2 := h (i + 1) hi
    have e : atI l (i + 1) = l[i + 1] := by show l[i + 1]?.getD default = _; rw [List.getElem?_eq_getElem hi]; rfl
    have e2 : atI l i = l[i]'(by omega) := by show l[i]?.getD default = _; rw [List.getElem?_eq_getElem (by omega)]; rfl
    unfold ordI at h2
    rw [e, decide_eq_false (by omega : ¬ (i + 1 = 0)), Bool.false_or, Nat.add_sub_cancel, e2] at h2
    exact of_decide_eq_true h2
  refine List.pairwise_iff_getElem.2 fun i j hi hj hij => ?_
  obtain ⟨d, rfl⟩ : ∃ d, j = i + 1 + d := ⟨j - i - 1, by omega⟩
  clear hij
  induction d with
  | zero => exact hr i hj
  | succ d ih =>
    have hj2 : i + 1 + d < l.length := by omega
    exact ordT_trans (ih hj2) (hr (i + 1 + d) hj)
theorem par_ord (s : ByteArray) : ordT (parB s) s ≤ 0 := by
  rcases last_cases s with ⟨h0, _⟩ | ⟨k, hk, h47, hpar, hnum, _⟩
  · have : parB s = ⟨#[]⟩ := ByteArray.ext (Array.eq_empty_of_size_eq_zero h0)
    rw [this]
    have := ordL_prefix (nums ⟨#[]⟩) (nums s)
    exact this
  · unfold ordT
    rw [hnum]
    exact ordL_prefix _ _
theorem kn_knd {l : List Itm} (hs : l.Pairwise (fun a b => ordT a.s b.s < 0)) (k : Nat) (hk : k < l.length) : knB (⟨#[]⟩ :: dirT (l.take k)) (parB l[k].s) = (kndL l (parB l[k].s) == 1) := by
  unfold kndL
  by_cases he : (parB l[k].s).toList.isEmpty = true
  · rw [if_pos he]
    unfold knB
    rw [List.any_cons]
    have : ((⟨#[]⟩ : ByteArray).toList == (parB l[k].s).toList) = true := by
      have h1 : (parB l[k].s).toList = [] := List.isEmpty_iff.1 he
      rw [h1, Lib.toList_data]; rfl
    rw [this]; rfl
  · rw [if_neg he, Bool.eq_iff_iff, knB_iff, beq_iff_eq]
    have hne : parB l[k].s ≠ ⟨#[]⟩ := fun h => he (by rw [h, Lib.toList_data]; rfl)
    have hsz : l[k].s.size ≠ 0 := fun h => hne (by
      have h2 := par_le l[k].s
      exact ByteArray.ext (Array.eq_empty_of_size_eq_zero (by show (parB l[k].s).size = 0; omega)))
    constructor
    · intro h
      rcases List.mem_cons.1 h with h | h
      · exact absurd h hne
      · unfold dirT at h
        obtain ⟨x, hx, e⟩ := List.mem_map.1 h
        obtain ⟨hx1, hx2⟩ := List.mem_filter.1 hx
        have hf := fnd_self hs (List.mem_of_mem_take hx1)
        unfold fndQ at hf
        rw [e] at hf
        rw [hf]
        exact eq_of_beq hx2
    · intro h
      cases hf : l.find? (fun X => X.s.toList == (parB l[k].s).toList) with
      | none => rw [hf] at h; exact absurd h (by decide)
      | some x =>
        rw [hf] at h
        have hx := List.mem_of_find?_eq_some hf
        have hxp : (x.s.toList == (parB l[k].s).toList) = true := List.find?_some (p := fun X : Itm => X.s.toList == (parB l[k].s).toList) hf
        have hxe : x.s = parB l[k].s := toList_inj' (eq_of_beq hxp)
        obtain ⟨i, hi, rfl⟩ := List.getElem_of_mem hx
        have hik : i < k := by
          rcases Nat.lt_trichotomy i k with q | q | q
          · exact q
          · subst q
            have := par_size _ hsz
            rw [← hxe] at this
            omega
          · have h1 := List.pairwise_iff_getElem.1 hs k i hk hi q
            rw [hxe] at h1
            have h2 := par_ord l[k].s
            rw [ordT_neg] at h2
            omega
        refine List.mem_cons_of_mem _ ?_
        unfold dirT
        refine List.mem_map.2 ⟨l[i], List.mem_filter.2 ⟨?_, ?_⟩, hxe⟩
        · exact List.mem_take_iff_getElem.2 ⟨i, by omega, rfl⟩
        · exact beq_iff_eq.2 h
theorem rgtT_eq (l : List Itm) : rgtT l = (!(l.any datL) && rgtI l) := by
  have hat : ∀ k (hk : k < l.length), atI l k = l[k] := fun k hk => by show l[k]?.getD default = _; rw [List.getElem?_eq_getElem hk]; rfl
  rw [Bool.eq_iff_iff]
  constructor
  · intro h
    have hr : ∀ k (hk : k < l.length), sodI l[k] = true ∧ ordI l k = true ∧ knB (⟨#[]⟩ :: dirT (l.take k)) (parB l[k].s) = true := fun k hk => by
      have h1 := List.all_eq_true.1 h k (List.mem_range.2 hk)
      unfold rowT at h1
      rw [hat k hk, Bool.and_eq_true, Bool.and_eq_true] at h1
      exact ⟨h1.1.1, h1.1.2, h1.2⟩
    have hpw := ord_pw fun k hk => (hr k hk).2.1
    have hx : ∀ x ∈ l, sndL x = true ∧ datL x = false ∧ kndL l (parB x.s) = 1 := fun x hx => by
      obtain ⟨k, hk, rfl⟩ := List.getElem_of_mem hx
      obtain ⟨a, _, b⟩ := hr k hk
      rw [sod_eq, Bool.and_eq_true] at a
      rw [kn_knd hpw k hk] at b
      exact ⟨a.1, by simpa using a.2, eq_of_beq b⟩
    rw [rgt_of (fun x h => ⟨(hx x h).1, (hx x h).2.2⟩) hpw, List.any_eq_false.2 (fun x h => by rw [(hx x h).2.1]; decide)]
    rfl
  · intro h
    rw [Bool.and_eq_true] at h
    obtain ⟨h1, h2⟩ := h
    have hpw := rgt_pw h2
    have h1 : l.any datL = false := by simpa using h1
    refine List.all_eq_true.2 fun k hk => ?_
    have hk := List.mem_range.1 hk
    have hrow := List.all_eq_true.1 h2 k (List.mem_range.2 hk)
    unfold rowI at hrow
    unfold rowT
    rw [hat k hk] at hrow ⊢
    rw [Bool.and_eq_true, Bool.and_eq_true] at hrow
    rw [kn_knd hpw k hk, hrow.2, hrow.1.2, sod_eq, hrow.1.1]
    have := List.any_eq_false.1 h1 l[k] (List.getElem_mem hk)
    rw [Bool.eq_false_iff.2 this]
    rfl
end Go.Proofs.YtmeapijckncoeaaGreatDoor

namespace Go.Proofs.YtmeapijckncoeaaGreatDoor
set_option maxRecDepth 100000
set_option linter.unusedSimpArgs false
set_option linter.unusedVariables false
open Go.RowKit Go.Joins Go.Deep
def FewP (l : List Itm) : Prop := ∀ x ∈ l, l.length ≤ 60 ∧ x.s.size ≤ 1000 ∧ x.d.size ≤ 5000
instance (l : List Itm) : Decidable (FewP l) := by unfold FewP; infer_instance
set_option maxHeartbeats 8000000 in
theorem fewI_any (A : Option Addr) (cap : Nat) (l : List Itm) (w : World) (hR : Itms w A l) (hl : l.length ≤ 9223372036854775807) :
    Calls Tryz.prog 5 #[.slice A l.length cap] w fun e w' => e = .returned (.bool (decide (FewP l))) ∧ Below w.heap.size w w' := by
  have hir := info_item
  have HR := Lib.hid hR
  obtain ⟨V, hV⟩ : ∃ V, V = decide (FewP l) := ⟨_, rfl⟩
  rw [← hV]
  have HV := Lib.hid hV
  clear hR hV
  go_enter Tryz.func5, Tryz.ntmps5
  go_wp2_with fail
  go_loopw [4, 7] (fun _ v7 wr => ∃ k : Nat, k ≤ l.length ∧ v7 = .int .i64 (k : Nat) ∧ Hid (∀ x ∈ l.take k, l.length ≤ 60 ∧ x.s.size ≤ 1000 ∧ x.d.size ≤ 5000) ∧ Hid (Below w.heap.size w wr)) (fun _ v _ => l.length - (intOf v).toNat)
  case atStart => exact ⟨0, Nat.zero_le _, rfl, (fun s hs => by cases hs), Below.refl _ _⟩
  case round =>
    obtain ⟨k, hk, rfl, HS, HB⟩ := hrel
    by_cases hlt : k < l.length
    · have hd : decide ((k : Int) < (l.length : Int)) = true := decide_eq_true (by omega)
      obtain ⟨b, off, rfl, hb, hcc⟩ := (HR.out.below HB.out) (by omega)
      obtain ⟨c0, c1, c2, c3, c4, c5, c6, c7⟩ := hcc k l[k] (List.getElem?_eq_getElem hlt)
      have HMEM : Hid (l[k] ∈ l) := List.getElem_mem hlt
      have HTK : Hid (l.take (k + 1) = l.take k ++ [l[k]]) := List.take_succ_eq_append_getElem hlt
      have hx0 := heap_alloc_new wr (.cells l[k].cells 42)
      have HB1 := Lib.hid (HB.out.alloc HB.out.size (.cells l[k].cells 42))
      simp only [Itm.cells] at hx0 HB1
      generalize l[k] = x at *
      obtain ⟨x0, x1, x2, x3, x4, x5, x6, x7⟩ := x
      dsimp only at c0 c1 c2 c3 c4 c5 c6 c7 HB1 hx0
      have d0 := (cell_of_row _ _ 0 _ _ _ hx0).trans (show _ = some (.string x0) from rfl)
      have d7 := (cell_of_row _ _ 7 _ _ _ hx0).trans (show _ = some (.string x7) from rfl)
      clear hcc hx0
      by_cases h60 : 60 < l.length
      · have e1 : decide ((60 : Int) < (l.length : Int)) = true := decide_eq_true (by omega)
        have HF : Hid (V = false) := by
          show V = false
          rw [HV.out]
          exact decide_eq_false (fun h => by have := (h _ HMEM.out).1; omega)
        clear HR HS HTK HMEM HV
        go_wp2_with fail
        go_ret
        exact ⟨by rw [HF.out]; rfl, HB1.out⟩
      have e1 : decide ((60 : Int) < (l.length : Int)) = false := decide_eq_false (by omega)
      by_cases h1000 : 1000 < x0.size
      · have e2 : decide ((1000 : Int) < (x0.size : Int)) = true := decide_eq_true (by omega)
        have HF : Hid (V = false) := by
          show V = false
          rw [HV.out]
          exact decide_eq_false (fun h => by have : x0.size ≤ 1000 := (h _ HMEM.out).2.1; omega)
        clear HR HS HTK HMEM HV
        go_wp2_with fail
        go_ret
        exact ⟨by rw [HF.out]; rfl, HB1.out⟩
      have e2 : decide ((1000 : Int) < (x0.size : Int)) = false := decide_eq_false (by omega)
      by_cases h5000 : 5000 < x7.size
      · have e3 : decide ((5000 : Int) < (x7.size : Int)) = true := decide_eq_true (by omega)
        have HF : Hid (V = false) := by
          show V = false
          rw [HV.out]
          exact decide_eq_false (fun h => by have : x7.size ≤ 5000 := (h _ HMEM.out).2.2; omega)
        clear HR HS HTK HMEM HV
        go_wp2_with fail
        go_ret
        exact ⟨by rw [HF.out]; rfl, HB1.out⟩
      have e3 : decide ((5000 : Int) < (x7.size : Int)) = false := decide_eq_false (by omega)
      have HS2 : Hid (∀ y ∈ l.take (k + 1), l.length ≤ 60 ∧ y.s.size ≤ 1000 ∧ y.d.size ≤ 5000) := fun y hy => by
        rw [HTK.out, List.mem_append] at hy
        rcases hy with hy | hy
        · exact HS.out y hy
        · obtain rfl : y = _ := by simpa using hy
          exact ⟨by omega, by show x0.size ≤ 1000; omega, by show x7.size ≤ 5000; omega⟩
      have hk62 : (k : Int) + 1 < 9223372036854775807 := by omega
      clear HR HTK HMEM HV HS
      go_wp2_with fail
      go_roundw
      case rel => exact ⟨k + 1, by omega, by go_num, HS2, HB1⟩
      case measure => simp [intOf]; omega
    · obtain rfl : k = l.length := by omega
      have hd : decide ((l.length : Int) < (l.length : Int)) = false := decide_eq_false (by omega)
      have HF : Hid (V = true) := by
        show V = true
        rw [HV.out]
        refine decide_eq_true (fun x hx => ?_)
        exact HS.out x (by rw [List.take_length]; exact hx)
      go_wp2_with fail
      go_ret
      exact ⟨by rw [HF.out]; rfl, HB.out⟩
set_option maxHeartbeats 8000000 in
theorem sameI_any (A B : Option Addr) (cA cB : Nat) (l : List Itm) (w : World) (hA : Itms w A l) (hB : Itms w B l) (hl : l.length ≤ 1000000) :
    Calls Tryz.prog 12 #[.slice A l.length cA, .slice B l.length cB] w fun e w' => e = .returned (.bool true) ∧ ∃ d, w' = w.drewN d := by
  have hit := info_item
  have HA := Lib.hid hA
  have HB := Lib.hid hB
  clear hA hB
  go_enter Tryz.func12, Tryz.ntmps12
  go_wp2_with fail
  go_loopw [13] (fun i wr => ∃ (k d : Nat), k ≤ l.length ∧ i = .int .i64 (k : Nat) ∧ wr = w.drewN d) (fun i _ => l.length - (intOf i).toNat)
  case atStart => exact ⟨0, 0, Nat.zero_le _, rfl, rfl⟩
  case round =>
    obtain ⟨k, d, hk, rfl, rfl⟩ := hrel
    by_cases hkn : k < l.length
    · obtain ⟨b, off, rfl, hbl, hc⟩ := HA.out (by omega)
      obtain ⟨b2, off2, rfl, hbl2, hc2⟩ := HB.out (by omega)
      obtain ⟨c0, c1, c2, c3, c4, c5, c6, c7⟩ := hc k l[k] (List.getElem?_eq_getElem hkn)
      obtain ⟨e0, e1, e2, e3, e4, e5, e6, e7⟩ := hc2 k l[k] (List.getElem?_eq_getElem hkn)
      clear hc hc2
      generalize l[k] = x at *
      obtain ⟨x0, x1, x2, x3, x4, x5, x6, x7⟩ := x
      dsimp only at c0 c1 c2 c3 c4 c5 c6 c7 e0 e1 e2 e3 e4 e5 e6 e7
      have heq := eqv_node x1 x2 x3 x4 x5 x6 x7
      have hki : (k : Int) < (l.length : Int) := by omega
      go_wp2_with fail
      go_quiet (fail)
      go_wp2_with fail
      go_roundw
      case rel => exact ⟨k + 1, d + nq, by omega, by go_num, by first | rfl | rw [World.drewN_drewN]⟩
      case measure => simp [intOf]; omega
    · obtain rfl : k = l.length := by omega
      go_wp2_with fail
      go_ret
      exact ⟨rfl, d, rfl⟩
end Go.Proofs.YtmeapijckncoeaaGreatDoor
