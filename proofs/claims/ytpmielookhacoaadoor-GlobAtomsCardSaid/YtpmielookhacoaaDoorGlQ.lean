/-
  Glob, the document's side: Compile.
-/
import Derived.Test.YtpmielookhacoaaDoorGlP
import Derived.Maps.AppendAt
import Derived.Laws.OwnMore
import Derived.Deep.DeepMust
namespace Go.Proofs.YtpmielookhacoaaDoor
set_option maxRecDepth 100000
set_option linter.unusedSimpArgs false
open Go.RowKit Go.Joins Go.Deep

def cellsB : List (Atm × Value) → List Value
  | [] => []
  | q :: l => .int .i64 q.1.k :: .int .i64 q.1.r :: .bool q.1.n :: q.2 :: cellsB l
theorem cellsB_app (l m : List (Atm × Value)) : cellsB (l ++ m) = cellsB l ++ cellsB m := by
  induction l with
  | nil => rfl
  | cons x l ih => simp only [List.cons_append, cellsB, ih]
theorem cellsB_len (l : List (Atm × Value)) : (cellsB l).length = l.length * 4 := by
  induction l with
  | nil => rfl
  | cons x l ih => simp only [cellsB, List.length_cons, ih]; omega
theorem cellsB_get : ∀ (l : List (Atm × Value)) (i : Nat) (q : Atm × Value), l[i]? = some q → (cellsB l)[i * 4]? = some (.int .i64 q.1.k) ∧ (cellsB l)[i * 4 + 1]? = some (.int .i64 q.1.r) ∧ (cellsB l)[i * 4 + 2]? = some (.bool q.1.n) ∧ (cellsB l)[i * 4 + 3]? = some q.2
  | x :: l, 0, q, h => by
    obtain rfl : x = q := by simpa using h
    exact ⟨rfl, rfl, rfl, rfl⟩
  | x :: l, i + 1, q, h => by
    have := cellsB_get l i q (by simpa using h)
    rw [show (i + 1) * 4 = i * 4 + 4 by omega, show i * 4 + 4 + 1 = i * 4 + 1 + 4 by omega, show i * 4 + 4 + 2 = i * 4 + 2 + 4 by omega, show i * 4 + 4 + 3 = i * 4 + 3 + 4 by omega]
    simpa [cellsB] using this
/-- A row of the document's pairs, with its block. -/
def RgI (w : World) (A : Option Addr) (l : List (Int × Int)) : Prop := 0 < l.length → ∃ (b : Nat) (cs : Array Value), A = some ⟨b, 0, none⟩ ∧ w.heap[b]? = some (.cells cs 48 (0, 0)) ∧ ∀ (i : Nat) (u : Value), (cellsP .i64 l)[i]? = some u → cs[i]? = some u
theorem RgI.keep {w w' : World} {A : Option Addr} {l : List (Int × Int)} (h : RgI w A l) (hk : ∀ (b : Nat) (cs : Array Value), w.heap[b]? = some (Obj.cells cs 48 (0, 0)) → w'.heap[b]? = w.heap[b]?) : RgI w' A l := fun h0 => by
  obtain ⟨b, cs, e, hb, hc⟩ := h h0
  exact ⟨b, cs, e, (hk b cs hb).trans hb, hc⟩
theorem RgI.below {w w' : World} {A : Option Addr} {l : List (Int × Int)} (h : RgI w A l) (hb : Below w.heap.size w w') : RgI w' A l := h.keep fun b _ hx => hb.block b (lt_of_block hx)
theorem RgI.set {w : World} {A : Option Addr} {l : List (Int × Int)} (h : RgI w A l) {g i : Nat} {cs : Array Value} {T : TypeId} (hg : w.heap[g]? = some (.cells cs T (0, 0))) (hT : T ≠ 48) (v : Value) : RgI (w.setCell ⟨g, i, none⟩ v) A l := h.keep fun b cs' hx => heap_setCell_other w ⟨g, i, none⟩ b v (fun e => by
  have e' : b = g := e
  subst e'
  rw [hg] at hx
  injection hx with hx
  injection hx with _ hx _
  exact hT hx)
theorem RgI.rgs {w : World} {A : Option Addr} {l : List (Int × Int)} (h : RgI w A l) : Rgs w .i64 A l := fun h0 => by
  obtain ⟨b, cs, e, hb, hc⟩ := h h0
  refine ⟨b, 0, e, lt_of_block hb, fun i hi => ?_⟩
  obtain ⟨g1, g2⟩ := cellsP_get .i64 l i hi
  rw [Nat.zero_add]
  exact ⟨(cell_of_row _ _ _ _ _ _ hb).trans (hc _ _ g1), (cell_of_row _ _ _ _ _ _ hb).trans (hc _ _ g2)⟩
theorem rgi_of_own {w : World} {B c : Nat} {A : Option Addr} {l : List (Int × Int)} (h : w.ownsRow B 48 2 (.slice A l.length c) l.length (cellsP .i64 l)) : RgI w A l := fun h0 => by
  rcases h.2 with ⟨_, h1⟩ | ⟨g, cap, cur, h1, _, h3, _, _, _, h7⟩
  · omega
  · injection h1 with h1 _ _
    refine ⟨g, cur, h1, h3, fun i u hu => ?_⟩
    rw [← h7, List.getElem?_take] at hu
    split at hu
    · simpa using hu
    · cases hu
theorem RgI.grow {w w' : World} {A : Option Addr} {l : List (Int × Int)} (h : RgI w A l) {B n z : Nat} {v : Value} {xs : List Value} {T : TypeId} (ho : w.ownsRow B T z v n xs) (hT : T ≠ 48) (hg : w.grownBy w' v.ownBlock) : RgI w' A l := h.keep fun b cs hx => hg.block b (lt_of_block hx) (fun e => by
  rcases ho.2 with ⟨h1, _⟩ | ⟨g, cap, cur, h1, _, h3, _⟩
  · rw [h1] at e; cases e
  · rw [h1] at e
    injection e with e
    have e' : b = g := e
    subst e'
    rw [h3] at hx
    injection hx with hx
    injection hx with _ hx _
    exact hT hx)

def AtmW (w : World) (x : Atm) (V : Value) : Prop := ∃ A c, V = .slice A x.rs.length c ∧ RgI w A x.rs
theorem AtmW.below {w w' : World} {x : Atm} {V : Value} (h : AtmW w x V) (hb : Below w.heap.size w w') : AtmW w' x V := by
  obtain ⟨A, c, e, hr⟩ := h
  exact ⟨A, c, e, hr.below hb⟩
theorem atmW_nil (w : World) (k r : Int) (n : Bool) : AtmW w ⟨k, r, n, []⟩ (.slice none 0 0) := ⟨none, 0, rfl, fun h => absurd (show (0 : Nat) < 0 from h) (by decide)⟩
theorem rats_of_own {w : World} {B c : Nat} {T : TypeId} {A : Option Addr} {qs : List (Atm × Value)} (h : w.ownsRow B T 4 (.slice A qs.length c) qs.length (cellsB qs)) (hr : ∀ q ∈ qs, AtmW w q.1 q.2) : RAts w A (qs.map (·.1)) := fun h0 => by
  rw [List.length_map] at h0
  obtain ⟨b, e, hlt, hc⟩ := own_cells h h0
  refine ⟨b, 0, e, hlt, fun i x hx => ?_⟩
  rw [List.getElem?_map] at hx
  obtain ⟨q, hq, rfl⟩ := Option.map_eq_some_iff.1 hx
  obtain ⟨g0, g1, g2, g3⟩ := cellsB_get qs i q hq
  obtain ⟨Ai, ci, e2, hrb⟩ := hr q (List.mem_of_getElem? hq)
  rw [Nat.zero_add]
  exact ⟨hc _ _ g0, hc _ _ g1, hc _ _ g2, Ai, ci, by rw [← e2]; exact hc _ _ g3, hrb.rgs⟩

/-- What Compile's outer loop keeps. -/
structure RSt (w1 wr : World) (V : Value) (qs : List (Atm × Value)) : Prop where
  o : wr.ownsRow w1.heap.size 44 4 V qs.length (cellsB qs)
  r : ∀ q ∈ qs, AtmW wr q.1 q.2
  b : Below w1.heap.size w1 wr
theorem RSt.next {w1 wr wx : World} {V : Value} {qs : List (Atm × Value)} (h : RSt w1 wr V qs) (hb : Below wr.heap.size wr wx) : RSt w1 wx V qs :=
  ⟨own_below' h.o hb, fun q hq => (h.r q hq).below hb, below_then h.b hb⟩
theorem RSt.push {w1 w7 w8 : World} {V v' vx : Value} {qs : List (Atm × Value)} {x : Atm} (h : RSt w1 w7 V qs) (ho : w8.ownsRow w1.heap.size 44 4 v' (qs.length + 1) (cellsB qs ++ [.int .i64 x.k, .int .i64 x.r, .bool x.n, vx])) (hg : w7.grownBy w8 V.ownBlock) (hx : AtmW w7 x vx) : RSt w1 w8 v' (qs ++ [(x, vx)]) := by
  refine ⟨?_, fun q hq => ?_, h.b.grown hg h.b.size (fun q hq => (h.o.lt q hq).1)⟩
  · rw [cellsB_app, List.length_append]
    exact ho
  · have key : ∀ (y : Atm) (v : Value), AtmW w7 y v → AtmW w8 y v := fun y v hq => by
      obtain ⟨Aq, cq, e, hrq⟩ := hq
      exact ⟨Aq, cq, e, hrq.grow h.o (by decide) hg⟩
    rcases List.mem_append.1 hq with hq | hq
    · exact key _ _ (h.r q hq)
    · obtain rfl : q = (x, vx) := by simpa using hq
      exact key _ _ hx
/-- What the set's loop keeps. -/
structure RSet (ws wr : World) (nt : Bool) (V : Value) (rs : List (Nat × Nat)) : Prop where
  a : wr.heap[ws.heap.size]? = some (.cells #[.int .i64 4, .int .i64 0, .bool nt, V] 44 (0, 0))
  o : wr.ownsRow (ws.heap.size + 1) 48 2 V rs.length (cellsP .i64 (rgI rs))
  b : Below ws.heap.size ws wr
  s : ws.heap.size + 1 ≤ wr.heap.size
theorem RSet.next {ws wr wx : World} {nt : Bool} {V : Value} {rs : List (Nat × Nat)} (h : RSet ws wr nt V rs) (hb : Below wr.heap.size wr wx) : RSet ws wx nt V rs :=
  ⟨(hb.block _ (lt_of_block h.a)).trans h.a, own_below' h.o hb, below_then h.b hb, Nat.le_trans h.s hb.size⟩
theorem zero_ratom (w : World) : (zeroValue 44).run Tryd.prog w = .ok (.agg #[.int .i64 0, .int .i64 0, .bool false, .slice none 0 0]) w := by kernel_rfl
theorem zero_pair (w : World) : (zeroValue 48).run Tryd.prog w = .ok (.agg #[.int .i64 0, .int .i64 0]) w := by kernel_rfl
theorem parts_ratom : (Tryd.prog.info? 44).map (fun i => (i.zero, i.size, i.bytes)) = some (some (.agg #[.int .i64 0, .int .i64 0, .bool false, .slice none 0 0]), 4, 48) := by kernel_rfl
theorem parts_pair : (Tryd.prog.info? 48).map (fun i => (i.zero, i.size, i.bytes)) = some (some (.agg #[.int .i64 0, .int .i64 0]), 2, 16) := by kernel_rfl
/-! ### An atom from a place on -/
theorem drop_getD (l : List Nat) (a i : Nat) : (l.drop a).getD i 0 = l.getD (a + i) 0 := by
  rw [List.getD_eq_getElem?_getD, List.getElem?_drop, ← List.getD_eq_getElem?_getD]
theorem atom_star {l : List Nat} {a : Nat} (h : l.getD a 0 = 42) : atomF (l.drop a) = some (⟨3, 0, false, []⟩, 1) := by
  unfold atomF; rw [drop_getD, Nat.add_zero, if_pos h]
theorem atom_any1 {l : List Nat} {a : Nat} (h : l.getD a 0 = 63) : atomF (l.drop a) = some (⟨2, 0, false, []⟩, 1) := by
  unfold atomF; rw [drop_getD, Nat.add_zero, if_neg (by omega), if_pos h]
theorem atom_esc {l : List Nat} {a : Nat} (h0 : a < l.length) (h : l.getD a 0 = 92) : atomF (l.drop a) = if a + 1 < l.length then some (⟨1, (l.getD (a + 1) 0 : Nat), false, []⟩, 2) else none := by
  obtain ⟨p1, _, _⟩ := plain_at l a
  obtain ⟨q1, q2⟩ := p1 ⟨h0, h⟩
  unfold atomF
  rw [drop_getD, Nat.add_zero, if_neg (by omega), if_neg (by omega), if_neg (by omega)]
  by_cases h1 : a + 1 < l.length
  · rw [q1 h1, if_pos h1]; rfl
  · rw [q2 h1, if_neg h1]; rfl
theorem atom_set {l : List Nat} {a : Nat} (h : l.getD a 0 = 91) : atomF (l.drop a) = (setF (l.drop (a + 1)) (if notF (l.drop (a + 1)) 0 = true then 1 else 0) []).map fun p => (⟨4, 0, notF (l.drop (a + 1)) 0, rgI p.1⟩, p.2 + 1) := by
  unfold atomF
  rw [drop_getD, Nat.add_zero, if_neg (by omega), if_neg (by omega), if_pos h, List.drop_drop]
theorem atom_else {l : List Nat} {a : Nat} (h0 : a < l.length) (h1 : l.getD a 0 ≠ 42) (h2 : l.getD a 0 ≠ 63) (h3 : l.getD a 0 ≠ 92) (h4 : l.getD a 0 ≠ 91) : atomF (l.drop a) = some (⟨1, (l.getD a 0 : Nat), false, []⟩, 1) := by
  obtain ⟨_, p2, _⟩ := plain_at l a
  unfold atomF
  rw [drop_getD, Nat.add_zero, if_neg h1, if_neg h2, if_neg h4, p2 h0 h3]
  rfl
theorem span_none {l : List Nat} {p : Nat} (h : (plainF (l.drop p)).2 = 0) : (spanF (l.drop p)).2 = 0 := by
  unfold spanF; rw [if_pos h]
theorem span_lone {l : List Nat} {p : Nat} (h : (plainF (l.drop p)).2 ≠ 0) (hc : ¬ (p + (plainF (l.drop p)).2 + 1 < l.length ∧ l.getD (p + (plainF (l.drop p)).2) 0 = 45 ∧ l.getD (p + (plainF (l.drop p)).2 + 1) 0 ≠ 93)) : spanF (l.drop p) = (((plainF (l.drop p)).1, (plainF (l.drop p)).1), (plainF (l.drop p)).2) := by
  unfold spanF
  rw [if_neg h, if_pos]
  rw [List.drop_drop, List.length_drop, drop_getD, drop_getD]
  by_cases h1 : l.length - (p + (plainF (l.drop p)).2) < 2
  · exact .inl h1
  by_cases h2 : l.getD (p + (plainF (l.drop p)).2 + 0) 0 ≠ 45
  · exact .inr (.inl h2)
  · refine .inr (.inr ?_)
    rw [Nat.add_zero] at h2
    by_cases h3 : l.getD (p + (plainF (l.drop p)).2 + 1) 0 = 93
    · exact h3
    · exact absurd ⟨by omega, by omega, h3⟩ hc
theorem span_two {l : List Nat} {p : Nat} (h : (plainF (l.drop p)).2 ≠ 0) (hc : p + (plainF (l.drop p)).2 + 1 < l.length ∧ l.getD (p + (plainF (l.drop p)).2) 0 = 45 ∧ l.getD (p + (plainF (l.drop p)).2 + 1) 0 ≠ 93) : spanF (l.drop p) = if (plainF (l.drop (p + (plainF (l.drop p)).2 + 1))).2 = 0 ∨ (plainF (l.drop (p + (plainF (l.drop p)).2 + 1))).1 < (plainF (l.drop p)).1 then ((0, 0), 0) else (((plainF (l.drop p)).1, (plainF (l.drop (p + (plainF (l.drop p)).2 + 1))).1), (plainF (l.drop p)).2 + 1 + (plainF (l.drop (p + (plainF (l.drop p)).2 + 1))).2) := by
  obtain ⟨c1, c2, c3⟩ := hc
  conv => lhs; unfold spanF
  rw [if_neg h, if_neg, List.drop_drop, ← Nat.add_assoc]
  rw [List.drop_drop, List.length_drop, drop_getD, drop_getD, Nat.add_zero]
  rintro (h1 | h1 | h1)
  · omega
  · exact h1 c2
  · exact c3 h1
/-- What Compile answers. -/
def RCompR (w : World) (o : Option (List Atm)) (e : Ending) (w' : World) : Prop :=
  (o = none ∧ e = .returned (.tuple #[.slice none 0 0, .int .i64 22]) ∧ Below w.heap.size w w') ∨
  (∃ ats A c, o = some ats ∧ e = .returned (.tuple #[.slice A ats.length c, .int .i64 0]) ∧ RAts w' A ats ∧ Below w.heap.size w w')
theorem Ins.cell {w : World} {b off : Nat} {l : List Nat} (h : Ins w (some ⟨b, off, none⟩) l) (i : Nat) (hi : i < l.length) : w.cell? ⟨b, off + i, none⟩ = some (.int .i64 ((l.getD i 0 : Nat) : Int)) := by
  obtain ⟨b', o', e, _, hc⟩ := h (by omega)
  injection e with e
  injection e with e1 e2 _
  subst e1 e2
  exact hc i hi
end Go.Proofs.YtpmielookhacoaaDoor
