/-
  Trees: slices.Insert of one item: what is in memory.
-/
import Derived.Test.YtpkhpaklhfomkaaGreatDoorTpB
import Derived.Shelf.Spec.SlicesInsertGrow
namespace Go.Proofs.YtpkhpaklhfomkaaGreatDoor
set_option maxRecDepth 100000
set_option linter.unusedSimpArgs false
set_option linter.unusedVariables false
open Go.RowKit Go.Joins Go.Deep
open Go.Lib hiding intOf
theorem run_copy_items (w : World) (ty : TypeId) (b o dLen dCap : Nat) (a : Addr) (sLen sCap : Nat) (cs : List Value)
    (hn : cs.length = Nat.min sLen dLen * 8)
    (hsrc : ∀ j v, cs[j]? = some v → w.cell? (a.add j) = some v) (hc : ∀ j, j < cs.length → (w.cell? ⟨b, o + j, none⟩).isSome = true) (hf : ∀ j, j < cs.length → w.frozen? ⟨b, o + j, none⟩ = false) (h1 : ∀ v ∈ cs, v.oneCell' = true) :
    (Builtin.copy_ #[22, 22] ty #[.slice (some ⟨b, o, none⟩) dLen dCap, .slice (some a) sLen sCap]).run Tryz.prog w = .ok (goInt (Nat.min sLen dLen)) (w.setCells b o cs) := by
  have hl := run_loadCells_list (P := Tryz.prog) w a cs hsrc
  have hst := run_storeCells_cells (P := Tryz.prog) b o cs 0 w (by simpa using hc) (by simpa using hf) h1
  have hs := info_item
  cases hq : Tryz.prog.info? 33 with
  | none => simp [hq] at hs
  | some i =>
    have hi : i.size = 8 := by simpa [hq] using hs
    simp [Builtin.copy_, run_underlying Tryz.underlying22, Builtin.lenOf, Builtin.firstCells, sizeOf, typeInfo, hq, hi, ← hn, hl, hst]
theorem BK.there {w : World} {g c : Nat} (h : BK w g c) (o n : Nat) (ho : o + n ≤ c * 8) : w.there g o n := fun j hj => by
  obtain ⟨cur, h1, h2, _⟩ := h
  refine ⟨?_, frozen_of_row w g _ cur _ h1⟩
  rw [cell_of_row w g _ cur _ (0, 0) h1, Array.getElem?_eq_getElem (by omega)]
  rfl
theorem range_of_io {w : World} {g : Nat} {l : List Itm} (h : IO w g l) : w.rangeAt g 0 (cellsI l) := fun j v hj => by
  have hjl : j < l.length * 8 := by rw [← cellsI_len]; exact (List.getElem?_eq_some_iff.1 hj).1
  have hk : j / 8 < l.length := by omega
  have hr := (h.2 (j / 8) l[j / 8] (List.getElem?_eq_getElem hk)).1
  have hm : j % 8 < (l[j / 8]).cellsL.length := Nat.mod_lt _ (by decide)
  have hg := cellsI_get l (j / 8) l[j / 8] (List.getElem?_eq_getElem hk) (j % 8) _ (List.getElem?_eq_getElem hm)
  rw [show j / 8 * 8 + j % 8 = j by omega, hj] at hg
  injection hg with hg
  subst hg
  have h := hr (j % 8) _ (List.getElem?_eq_getElem hm)
  rw [show j / 8 * 8 + j % 8 = 0 + j by omega] at h
  exact h
theorem io_of_range {w : World} {g : Nat} {l : List Itm} (hlt : g < w.heap.size) (h : w.rangeAt g 0 (cellsI l)) (ht : w.there g 0 (l.length * 8)) : IO w g l :=
  ⟨hlt, fun k x hx => by
    have hk : k < l.length := (List.getElem?_eq_some_iff.1 hx).1
    refine ⟨fun j v hv => ?_, fun j hj => ?_⟩
    · have := h (k * 8 + j) v (cellsI_get l k x hx j v hv)
      rwa [Nat.zero_add] at this
    · have := ht (k * 8 + j) (by omega)
      rwa [Nat.zero_add] at this⟩
theorem range_app {w : World} {g o : Nat} {a b : List Value} (h1 : w.rangeAt g o a) (h2 : w.rangeAt g (o + a.length) b) : w.rangeAt g o (a ++ b) := fun j v hj => by
  by_cases hlt : j < a.length
  · rw [List.getElem?_append_left hlt] at hj
    exact h1 j v hj
  · rw [List.getElem?_append_right (by omega)] at hj
    have := h2 _ v hj
    rwa [show o + a.length + (j - a.length) = o + j by omega] at this
theorem cellsI_take : ∀ (l : List Itm) (i : Nat), i ≤ l.length → cellsI (l.take i) = (cellsI l).take (i * 8)
  | l, i, h => by
    have e : cellsI l = cellsI (l.take i) ++ cellsI (l.drop i) := by rw [← cellsI_app, List.take_append_drop]
    rw [e, List.take_left' (by rw [cellsI_len, List.length_take, Nat.min_eq_left h])]
theorem cellsI_drop : ∀ (l : List Itm) (i : Nat), i ≤ l.length → cellsI (l.drop i) = (cellsI l).drop (i * 8)
  | l, i, h => by
    have e : cellsI l = cellsI (l.take i) ++ cellsI (l.drop i) := by rw [← cellsI_app, List.take_append_drop]
    rw [e, List.drop_left' (by rw [cellsI_len, List.length_take, Nat.min_eq_left h])]
/-- With an item put in. -/
def insI (l : List Itm) (i : Nat) (y : Itm) : List Itm := l.take i ++ y :: l.drop i
theorem insI_len (l : List Itm) (i : Nat) (y : Itm) (h : i ≤ l.length) : (insI l i y).length = l.length + 1 := by
  unfold insI
  rw [List.length_append, List.length_cons, List.length_take, List.length_drop, Nat.min_eq_left h]
  omega
theorem insI_cells (l : List Itm) (i : Nat) (y : Itm) (h : i ≤ l.length) : cellsI (insI l i y) = (cellsI l).take (i * 8) ++ (y.cellsL ++ (cellsI l).drop (i * 8)) := by
  unfold insI
  rw [cellsI_app, cellsI, cellsI_take l i h, cellsI_drop l i h]
theorem put_in {w : World} {g c : Nat} (l : List Itm) (i : Nat) (y : Itm) (h : i ≤ l.length) (hbk : BK w g c) (hc : l.length + 1 ≤ c)
    (h1 : w.rangeAt g 0 ((cellsI l).take (i * 8))) (h2 : w.rangeAt g (i * 8) y.cellsL) (h3 : w.rangeAt g ((i + 1) * 8) ((cellsI l).drop (i * 8))) : IC w g c (insI l i y) := by
  have hlt : g < w.heap.size := by obtain ⟨cur, h1, _⟩ := hbk; exact lt_of_block h1
  refine ⟨io_of_range hlt ?_ (hbk.there _ _ (by rw [insI_len l i y h]; omega)), hbk⟩
  rw [insI_cells l i y h]
  have e : ((cellsI l).take (i * 8)).length = i * 8 := by rw [List.length_take, cellsI_len]; omega
  have e8 : y.cellsL.length = 8 := rfl
  refine range_app h1 (range_app ?_ ?_)
  · rw [e, Nat.zero_add]; exact h2
  · rw [e, e8, Nat.zero_add, show i * 8 + 8 = (i + 1) * 8 by omega]; exact h3
theorem own_of {w : World} {B c : Nat} {A : Option Addr} {l : List Itm} (h : NewB w B c A l) (hc : l.length ≤ c) : w.ownsRow B 33 8 (.slice A l.length c) l.length (cellsI l) := by
  rcases h with ⟨rfl, rfl, rfl⟩ | ⟨g, rfl, hg, hio, hbk⟩
  · exact World.ownsRow_nil w B 33 8
  · have hr := range_of_io hio
    obtain ⟨cur, h1, h2, h3⟩ := hbk
    refine ⟨cellsI_len l, .inr ⟨g, c, cur, rfl, hg, h1, hc, h3, h2, ?_⟩⟩
    refine List.ext_getElem? fun j => ?_
    by_cases hj : j < l.length * 8
    · rw [List.getElem?_take, if_pos hj]
      have hjl : j < (cellsI l).length := by rw [cellsI_len]; exact hj
      have h := hr j _ (List.getElem?_eq_getElem hjl)
      rw [Nat.zero_add, cell_of_row w g j cur _ (0, 0) h1] at h
      rw [List.getElem?_eq_getElem hjl, ← h]
      simp
    · rw [List.getElem?_eq_none (by rw [List.length_take]; omega), List.getElem?_eq_none (by rw [cellsI_len]; omega)]
theorem nb_of_own {w : World} {B : Nat} {l : List Itm} (v : Value) (hn : 0 < l.length) (h : w.ownsRow B 33 8 v l.length (cellsI l)) : ∃ A' c', v = .slice A' l.length c' ∧ NewB w B c' A' l := by
  rcases h.2 with ⟨_, h0⟩ | ⟨g, c', cur, rfl, hg, _⟩
  · omega
  · exact ⟨_, c', rfl, .inr ⟨g, rfl, hg, ic_of_own h⟩⟩
end Go.Proofs.YtpkhpaklhfomkaaGreatDoor
