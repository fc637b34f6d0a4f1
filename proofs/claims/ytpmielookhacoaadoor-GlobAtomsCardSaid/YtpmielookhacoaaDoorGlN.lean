/-
  Glob, the document's side: rows of bools; atoms.
-/
import Derived.Test.YtpmielookhacoaaDoorGlL
import Derived.Deep.OwnRows
namespace Go.Proofs.YtpmielookhacoaaDoor
set_option maxRecDepth 100000
open Go.RowKit Go.Joins Go.Deep

theorem Ins.setI {w : World} {A : Option Addr} {l : List Nat} (h : Ins w A l) {g : Nat} {cs : Array Value} {f : Nat × Nat} (hg : w.heap[g]? = some (.cells cs 4 f)) (hcs : ∀ i : Nat, ∀ z : Int, cs[i]? ≠ some (.int .i64 z)) (i : Nat) (v : Value) : Ins (w.setCell ⟨g, i, none⟩ v) A l := fun h0 => by
  obtain ⟨b, off, e, hlt, hc⟩ := h h0
  have hne : b ≠ g := fun e2 => by
    subst e2
    have h1 := hc 0 h0
    rw [cell_of_row _ _ _ _ _ _ hg] at h1
    exact hcs _ _ h1
  exact ⟨b, off, e, by simpa [World.setCell] using hlt, fun j hj => (World.cell?_of_block (a := ⟨b, off + j, none⟩) (heap_setCell_other w ⟨g, i, none⟩ b v hne)).trans (hc j hj)⟩
def rowBo (F : Nat → Bool) (n : Nat) : Array Value := ((List.range n).map fun i => Value.bool (F i)).toArray
theorem rowBo_get (F : Nat → Bool) (n i : Nat) (h : i < n) : (rowBo F n)[i]? = some (.bool (F i)) := by simp [rowBo, h]
theorem rowBo_size (F : Nat → Bool) (n : Nat) : (rowBo F n).size = n := by simp [rowBo]
theorem rowBo_no (F : Nat → Bool) (n i : Nat) (z : Int) : (rowBo F n)[i]? ≠ some (.int .i64 z) := by
  by_cases h : i < n
  · rw [rowBo_get F n i h]; intro e; cases e
  · rw [Array.getElem?_eq_none (by rw [rowBo_size]; omega)]; intro e; cases e
theorem rowBo_ext {F G : Nat → Bool} {n : Nat} (h : ∀ i, i < n → F i = G i) : rowBo F n = rowBo G n := by
  unfold rowBo
  congr 1
  exact List.map_congr_left fun i hi => by rw [h i (List.mem_range.1 hi)]
theorem rowBo_set (F : Nat → Bool) (n i : Nat) (v : Bool) : (rowBo F n).setIfInBounds i (.bool v) = rowBo (fun p => if p = i then v else F p) n := by
  apply Array.ext_getElem?
  intro j
  rw [Array.getElem?_setIfInBounds]
  by_cases hj : j < n
  · rw [rowBo_get (fun p => if p = i then v else F p) n j hj, rowBo_size]
    by_cases e : i = j
    · rw [if_pos e, if_pos (by omega), if_pos e.symm]
    · rw [if_neg e, rowBo_get F n j hj, if_neg (fun h => e h.symm)]
  · have e1 : ∀ G, (rowBo G n)[j]? = none := fun G => Array.getElem?_eq_none (by rw [rowBo_size]; omega)
    rw [e1, e1]
    split
    · rw [rowBo_size, if_neg (by omega)]
    · rfl
theorem rowBo_made (n : Nat) : madeCells #[Value.bool false] n = rowBo (fun _ => false) n := by
  apply Array.ext'
  rw [toList_madeCells_one]
  unfold rowBo
  rw [List.toList_toArray, List.map_const', List.length_range]
theorem info_bool : (Tryd.prog.info? 4).map (fun i => (i.zero, i.size, i.bytes)) = some (some (.bool false), 1, 1) := by kernel_rfl
theorem make_bools (n : Nat) (hn : n ≤ 1000000) (w : World) : (Instr.makeSlice 41 (.int .i64 (n : Nat)) (.int .i64 (n : Nat))).run Tryd.prog w = .ok (.slice (some ⟨w.heap.size, 0, none⟩) n n) (w.alloc (.cells (rowBo (fun _ => false) n) 4)) := by
  rw [← rowBo_made]
  exact run_make_row' (P := Tryd.prog) 41 4 (.bool false) 1 Tryd.underlying41 info_bool rfl .i64 .i64 n (by omega) (by omega) w
/-- A slice of the document's atoms. -/
def RAts (w : World) (A : Option Addr) (ats : List Atm) : Prop := 0 < ats.length → ∃ b off, A = some ⟨b, off, none⟩ ∧ b < w.heap.size ∧ ∀ (i : Nat) (x : Atm), ats[i]? = some x → w.cell? ⟨b, off + i * 4, none⟩ = some (.int .i64 x.k) ∧ w.cell? ⟨b, off + i * 4 + 1, none⟩ = some (.int .i64 x.r) ∧ w.cell? ⟨b, off + i * 4 + 2, none⟩ = some (.bool x.n) ∧ ∃ Ai ci, w.cell? ⟨b, off + i * 4 + 3, none⟩ = some (.slice Ai x.rs.length ci) ∧ Rgs w .i64 Ai x.rs
theorem RAts.below {w w' : World} {A : Option Addr} {ats : List Atm} (h : RAts w A ats) (hb : Below w.heap.size w w') : RAts w' A ats := fun h0 => by
  obtain ⟨b, off, e, hlt, hc⟩ := h h0
  refine ⟨b, off, e, Nat.lt_of_lt_of_le hlt hb.size, fun i x hx => ?_⟩
  obtain ⟨c0, c1, c2, Ai, ci, c3, hr⟩ := hc i x hx
  exact ⟨(hb.cell (p := ⟨b, off + i * 4, none⟩) hlt).trans c0, (hb.cell (p := ⟨b, off + i * 4 + 1, none⟩) hlt).trans c1, (hb.cell (p := ⟨b, off + i * 4 + 2, none⟩) hlt).trans c2, Ai, ci, (hb.cell (p := ⟨b, off + i * 4 + 3, none⟩) hlt).trans c3, hr.below (Nat.le_refl _) hb⟩
theorem info_ratom : (Tryd.prog.info? 44).map (·.size) = some 4 := by kernel_rfl
/-- What the inner loop keeps: the row ahead, the row that is filled, the atom's copy. -/
structure InSt (w wr : World) (N g g2 ga : Nat) (F H : Nat → Bool) (x : Atm) (Ai : Option Addr) (ci : Nat) : Prop where
  c : wr.heap[g]? = some (.cells (rowBo F (N + 1)) 4 (0, 0))
  d : wr.heap[g2]? = some (.cells (rowBo H (N + 1)) 4 (0, 0))
  a : wr.heap[ga]? = some (.cells #[.int .i64 x.k, .int .i64 x.r, .bool x.n, .slice Ai x.rs.length ci] 44 (0, 0))
  r : Rgs wr .i64 Ai x.rs
  b : Below w.heap.size w wr
theorem InSt.next {w wr wx : World} {N g g2 ga : Nat} {F H : Nat → Bool} {x : Atm} {Ai : Option Addr} {ci : Nat} (h : InSt w wr N g g2 ga F H x Ai ci) (hb : Below wr.heap.size wr wx) : InSt w wx N g g2 ga F H x Ai ci :=
  ⟨(hb.block _ (lt_of_block h.c)).trans h.c, (hb.block _ (lt_of_block h.d)).trans h.d, (hb.block _ (lt_of_block h.a)).trans h.a, h.r.below (Nat.le_refl _) hb, below_then h.b hb⟩
theorem below_set {w wr : World} (h : Below w.heap.size w wr) {g : Nat} (hg : w.heap.size ≤ g) (i : Nat) (v : Value) : Below w.heap.size w (wr.setCell ⟨g, i, none⟩ v) := h.setCell (p := ⟨g, i, none⟩) hg v
theorem InSt.set {w wr : World} {N g g2 ga : Nat} {F H : Nat → Bool} {x : Atm} {Ai : Option Addr} {ci : Nat} (h : InSt w wr N g g2 ga F H x Ai ci) (h1 : g ≠ g2) (h2 : w.heap.size ≤ g2) (hr : 0 < x.rs.length → ∀ b off, Ai = some ⟨b, off, none⟩ → b < w.heap.size) (i : Nat) (v : Bool) : InSt w (wr.setCell ⟨g2, i, none⟩ (.bool v)) N g g2 ga F (fun p => if p = i then v else H p) x Ai ci := by
  have e := heap_setCell_same wr g2 i _ _ (.bool v) h.d
  rw [rowBo_set] at e
  have hga : ga ≠ g2 := fun e => by
    have h3 := h.a
    rw [e, h.d] at h3
    injection h3 with h3
    injection h3 with _ h3 _
    exact absurd h3 (by decide)
  refine ⟨(heap_setCell_other wr ⟨g2, i, none⟩ g (.bool v) h1).trans h.c, e, (heap_setCell_other wr ⟨g2, i, none⟩ ga (.bool v) hga).trans h.a, fun h0 => ?_, below_set h.b h2 i _⟩
  obtain ⟨b, off, e2, hlt, hc⟩ := h.r h0
  have hb := hr h0 b off e2
  refine ⟨b, off, e2, by simpa [World.setCell] using hlt, fun j hj => ?_⟩
  have key : ∀ q, (wr.setCell ⟨g2, i, none⟩ (.bool v)).cell? ⟨b, q, none⟩ = wr.cell? ⟨b, q, none⟩ := fun q => World.cell?_of_block (a := ⟨b, q, none⟩) (heap_setCell_other wr ⟨g2, i, none⟩ b (.bool v) (by show b ≠ g2; omega))
  exact ⟨(key _).trans (hc j hj).1, (key _).trans (hc j hj).2⟩
end Go.Proofs.YtpmielookhacoaaDoor
