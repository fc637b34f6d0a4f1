/-
  Items: their cells; items where they lie; items in a block of their own.
-/
import Derived.Test.YtpkhpaklhfomkaaGreatDoorKit
import Derived.Below
import Derived.WalkKit
import Derived.Lib.SmallJoins
import Derived.Lib.Hide
import Derived.Laws.IdiomStrings
import Derived.Deep.AppendLies
import Derived.Deep.MidRow
import Derived.Deep.DeepMust
import Derived.Deep.Upon
import Derived.Maps.AppendAt
import Derived.Laws.StructEq
namespace Go.Proofs.YtpkhpaklhfomkaaGreatDoor
set_option maxRecDepth 100000
set_option linter.unusedSimpArgs false
set_option linter.unusedVariables false
open Go.RowKit Go.Joins Go.Deep
/-- An item. -/
structure Itm where
  s : ByteArray
  k : Int
  m : Int
  u : Int
  g : Int
  t : Int
  a : Int
  d : ByteArray
instance : Inhabited Itm := ⟨⟨⟨#[]⟩, 0, 0, 0, 0, 0, 0, ⟨#[]⟩⟩⟩
/-- Its cells. -/
def Itm.cells (x : Itm) : Array Value := #[.string x.s, .int .i64 x.k, .int .u32 x.m, .int .u32 x.u, .int .u32 x.g, .int .i64 x.t, .int .i64 x.a, .string x.d]
def Itm.cellsL (x : Itm) : List Value := [.string x.s, .int .i64 x.k, .int .u32 x.m, .int .u32 x.u, .int .u32 x.g, .int .i64 x.t, .int .i64 x.a, .string x.d]
theorem itm_cells (x : Itm) : x.cellsL.toArray = x.cells := rfl
theorem itm_list (x : Itm) : x.cells.toList = x.cellsL := rfl
theorem itm_one (x : Itm) : x.cells.all (·.oneCell') = true := by simp [Itm.cells, Value.oneCell']
/-- Items in memory. -/
def Itms (w : World) (A : Option Addr) (l : List Itm) : Prop := 0 < l.length → ∃ b off, A = some ⟨b, off, none⟩ ∧ b < w.heap.size ∧ ∀ (k : Nat) x, l[k]? = some x →
  w.cell? ⟨b, off + k * 8, none⟩ = some (.string x.s) ∧ w.cell? ⟨b, off + k * 8 + 1, none⟩ = some (.int .i64 x.k) ∧ w.cell? ⟨b, off + k * 8 + 2, none⟩ = some (.int .u32 x.m) ∧ w.cell? ⟨b, off + k * 8 + 3, none⟩ = some (.int .u32 x.u) ∧
  w.cell? ⟨b, off + k * 8 + 4, none⟩ = some (.int .u32 x.g) ∧ w.cell? ⟨b, off + k * 8 + 5, none⟩ = some (.int .i64 x.t) ∧ w.cell? ⟨b, off + k * 8 + 6, none⟩ = some (.int .i64 x.a) ∧ w.cell? ⟨b, off + k * 8 + 7, none⟩ = some (.string x.d)
theorem Itms.below {w w' : World} {A : Option Addr} {l : List Itm} (h : Itms w A l) (hb : Below w.heap.size w w') : Itms w' A l := fun h0 => by
  obtain ⟨b, off, e, hlt, hc⟩ := h h0
  refine ⟨b, off, e, Nat.lt_of_lt_of_le hlt hb.size, fun k x hx => ?_⟩
  obtain ⟨c0, c1, c2, c3, c4, c5, c6, c7⟩ := hc k x hx
  exact ⟨(hb.cell hlt).trans c0, (hb.cell hlt).trans c1, (hb.cell hlt).trans c2, (hb.cell hlt).trans c3, (hb.cell hlt).trans c4, (hb.cell hlt).trans c5, (hb.cell hlt).trans c6, (hb.cell hlt).trans c7⟩
theorem Itms.nil (w : World) (A : Option Addr) : Itms w A [] := fun h => absurd h (by decide)
theorem Itms.none {w : World} {l : List Itm} (h : Itms w none l) : l = [] := by
  cases l with
  | nil => rfl
  | cons x l => obtain ⟨b, off, e, _⟩ := h (by simp); cases e
theorem Itms.range {w : World} {b off : Nat} {l : List Itm} (h : Itms w (some ⟨b, off, Option.none⟩) l) (k : Nat) (x : Itm) (hx : l[k]? = some x) : w.rangeAt b (off + k * 8) x.cellsL := by
  obtain ⟨b', off', e, _, hc⟩ := h (by have := (List.getElem?_eq_some_iff.1 hx).1; omega)
  injection e with e
  injection e with e1 e2 _
  subst e1 e2
  obtain ⟨c0, c1, c2, c3, c4, c5, c6, c7⟩ := hc k x hx
  intro j v hv
  have hj : j < 8 := (List.getElem?_eq_some_iff.1 hv).1
  have h8 : j = 0 ∨ j = 1 ∨ j = 2 ∨ j = 3 ∨ j = 4 ∨ j = 5 ∨ j = 6 ∨ j = 7 := by omega
  rcases h8 with rfl | rfl | rfl | rfl | rfl | rfl | rfl | rfl <;> (injection hv with hv; subst hv; assumption)
/-- The cells of a row of items. -/
def cellsI : List Itm → List Value
  | [] => []
  | x :: l => x.cellsL ++ cellsI l
theorem cellsI_app (l m : List Itm) : cellsI (l ++ m) = cellsI l ++ cellsI m := by
  induction l with
  | nil => rfl
  | cons x l ih => simp only [List.cons_append, cellsI, ih, List.append_assoc]
theorem cellsI_len (l : List Itm) : (cellsI l).length = l.length * 8 := by
  induction l with
  | nil => rfl
  | cons x l ih => rw [cellsI, List.length_append, ih, List.length_cons]; show 8 + _ = _; omega
theorem cellsI_one (l : List Itm) : ∀ u ∈ cellsI l, u.oneCell' = true := by
  induction l with
  | nil => intro u h; cases h
  | cons x l ih =>
    intro u h
    rw [cellsI] at h
    rcases List.mem_append.1 h with h | h
    · simp only [Itm.cellsL, List.mem_cons, List.not_mem_nil, or_false] at h
      rcases h with rfl | rfl | rfl | rfl | rfl | rfl | rfl | rfl <;> rfl
    · exact ih u h
theorem cellsI_get : ∀ (l : List Itm) (i : Nat) (x : Itm), l[i]? = some x → ∀ j v, x.cellsL[j]? = some v → (cellsI l)[i * 8 + j]? = some v
  | y :: l, 0, x, h, j, v, hv => by
    injection h with h
    subst h
    rw [cellsI, Nat.zero_mul, Nat.zero_add, List.getElem?_append_left (show j < y.cellsL.length from (List.getElem?_eq_some_iff.1 hv).1)]
    exact hv
  | y :: l, i + 1, x, h, j, v, hv => by
    rw [cellsI, List.getElem?_append_right (show y.cellsL.length ≤ (i + 1) * 8 + j by show 8 ≤ _; omega), show (i + 1) * 8 + j - y.cellsL.length = i * 8 + j by show (i + 1) * 8 + j - 8 = _; omega]
    exact cellsI_get l i x (by simpa using h) j v hv
  | [], i, x, h, _, _, _ => by cases h
theorem info_item : (Tryz.prog.info? 33).map (·.size) = some 8 := by kernel_rfl
theorem parts_item : (Tryz.prog.info? 33).map (fun i => (i.zero, i.size, i.bytes)) = some (some (.agg #[.string ⟨#[]⟩, .int .i64 0, .int .u32 0, .int .u32 0, .int .u32 0, .int .i64 0, .int .i64 0, .string ⟨#[]⟩]), 8, 72) := by kernel_rfl
/-- Items in a block of their own: they are there, and may be written. -/
def IO (w : World) (g : Nat) (l : List Itm) : Prop := g < w.heap.size ∧ ∀ (k : Nat) x, l[k]? = some x → w.rangeAt g (k * 8) x.cellsL ∧ w.there g (k * 8) 8
theorem IO.itms {w : World} {g : Nat} {l : List Itm} (h : IO w g l) : Itms w (some ⟨g, 0, none⟩) l := fun h0 => by
  refine ⟨g, 0, rfl, h.1, fun k x hx => ?_⟩
  have hr := (h.2 k x hx).1
  rw [Nat.zero_add]
  exact ⟨hr 0 _ rfl, hr 1 _ rfl, hr 2 _ rfl, hr 3 _ rfl, hr 4 _ rfl, hr 5 _ rfl, hr 6 _ rfl, hr 7 _ rfl⟩
theorem IO.below {w w' : World} {g : Nat} {l : List Itm} (h : IO w g l) (hb : Below w.heap.size w w') : IO w' g l :=
  ⟨Nat.lt_of_lt_of_le h.1 hb.size, fun k x hx => ⟨fun j v hv => (World.cell?_of_block (hb.block g h.1)).trans ((h.2 k x hx).1 j v hv), fun j hj => by
    have := (h.2 k x hx).2 j hj
    exact ⟨by rw [World.cell?_of_block (hb.block g h.1)]; exact this.1, by rw [World.frozen?_of_block (hb.block g h.1)]; exact this.2⟩⟩⟩
theorem size_setCells (b : Nat) : ∀ (vs : List Value) (o : Nat) (w : World), (w.setCells b o vs).heap.size = w.heap.size
  | [], _, _ => rfl
  | v :: r, o, w => by rw [World.setCells, size_setCells b r]; simp [World.setCell]
theorem IO.store {w : World} {g : Nat} {l : List Itm} (h : IO w g l) (k : Nat) (y : Itm) (hk : k < l.length) : IO (w.setCells g (k * 8) y.cellsL) g (l.set k y) := by
  refine ⟨by rw [size_setCells]; exact h.1, fun j x hx => ?_⟩
  by_cases e : k = j
  · subst e
    rw [List.getElem?_set_self hk] at hx
    injection hx with hx
    subst hx
    have ht := (h.2 k l[k] (List.getElem?_eq_getElem hk)).2
    exact ⟨World.rangeAt_setCells_same _ _ _ _ ht, World.there_setCells ht _ _ _⟩
  · rw [List.getElem?_set_ne e] at hx
    have hj := h.2 j x hx
    have e1 : y.cellsL.length = 8 := rfl
    have e2 : x.cellsL.length = 8 := rfl
    exact ⟨World.rangeAt_setCells_apart hj.1 _ _ _ (by rw [e1, e2]; omega), World.there_setCells hj.2 _ _ _⟩
theorem IO.take {w : World} {g : Nat} {l : List Itm} (h : IO w g l) (n : Nat) : IO w g (l.take n) := ⟨h.1, fun k x hx => h.2 k x (by
  rw [List.getElem?_take] at hx
  split at hx
  · exact hx
  · cases hx)⟩
theorem IO.drewN {w : World} {g : Nat} {l : List Itm} (h : IO w g l) (n : Nat) : IO (w.drewN n) g l := h
theorem below_setCells' {w : World} {b : Nat} {B : Nat} (hb : B ≤ b) : ∀ (vs : List Value) (o : Nat) (w1 : World), Below B w w1 → Below B w (w1.setCells b o vs)
  | [], _, _, h => h
  | v :: r, o, w1, h => by rw [World.setCells]; exact below_setCells' hb r (o + 1) _ (h.setCell (p := ⟨b, o, none⟩) hb v)
theorem io_of_own {w : World} {B g cap : Nat} {T : TypeId} {l : List Itm} (h : w.ownsRow B T 8 (.slice (some ⟨g, 0, none⟩) l.length cap) l.length (cellsI l)) : IO w g l := by
  have hlt := (h.lt g rfl).2
  refine ⟨hlt, fun k x hx => ?_⟩
  have hk : k < l.length := (List.getElem?_eq_some_iff.1 hx).1
  have hr : w.rangeAt g (k * 8) x.cellsL := fun j v hv => by
    have hj : j < 8 := (List.getElem?_eq_some_iff.1 hv).1
    rw [h.cellAt (k * 8 + j) (by omega)]
    exact cellsI_get l k x hx j v hv
  exact ⟨hr, fun j hj => ⟨hr.isSome j hj, h.frozenAt _⟩⟩
theorem eqv_node (k m u g t a : Int) (d : ByteArray) (w : World) : (Op.equalIn 9999 31 (.agg #[.int .i64 k, .int .u32 m, .int .u32 u, .int .u32 g, .int .i64 t, .int .i64 a, .string d]) (.agg #[.int .i64 k, .int .u32 m, .int .u32 u, .int .u32 g, .int .i64 t, .int .i64 a, .string d])).run Tryz.prog w = .ok true w := by
  rw [run_equalIn_struct w 9998 31 _ _ (by kernel_rfl) (by kernel_rfl)]
  simp [go_sem, Program.fieldsOf, Tryz.underlying31]
end Go.Proofs.YtpkhpaklhfomkaaGreatDoor
