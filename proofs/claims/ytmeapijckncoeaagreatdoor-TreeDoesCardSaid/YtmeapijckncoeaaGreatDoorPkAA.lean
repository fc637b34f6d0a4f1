/-
  Small facts that all our walks use: a number of a kind as a natural one.
  Items: their cells; items where they lie; items in a block of their own.
  Items: slices.Clone.
  Trees: slices.Clone, IndexFunc, DeleteFunc over items, with the whole room of a slice kept track of.
  Trees: slices.Grow of nil, slices.Concat of two slices of items.
-/
import Derived.Test.YtmeapijckncoeaaGreatDoorRows
import Derived.WalkKit
import Derived.WalkSpells
import Derived.WalkLawsBesides
import Derived.OpenShut
import Derived.Lib.Hide
import Derived.Below
import Derived.Lib.SmallJoins
import Derived.Laws.IdiomStrings
import Derived.Deep.AppendLies
import Derived.Deep.MidRow
import Derived.Deep.DeepMust
import Derived.Deep.Upon
import Derived.Maps.AppendAt
import Derived.Laws.StructEq
import Derived.Deep.Cut
import Derived.Lib.Walk
import Derived.Lib.AppendZerosOnto
import Derived.Laws.OwnMore

namespace Go.Proofs.YtmeapijckncoeaaGreatDoor
open Go.RowKit

theorem nat_of {a : Int} {B : Nat} (h : 0 ≤ a ∧ a ≤ B) : ∃ n : Nat, a = n ∧ n < B + 1 := by
  obtain ⟨n, rfl⟩ := Int.eq_ofNat_of_zero_le h.1
  exact ⟨n, rfl, by omega⟩
theorem nat_u8 {a : Int} (w : (Lit.int .u8 a).wf = true) : ∃ n : Nat, a = n ∧ n < 256 := nat_of (bounds_u8 w)
theorem nat_u16 {a : Int} (w : (Lit.int .u16 a).wf = true) : ∃ n : Nat, a = n ∧ n < 65536 := nat_of (bounds_u16 w)
theorem nat_u32 {a : Int} (w : (Lit.int .u32 a).wf = true) : ∃ n : Nat, a = n ∧ n < 4294967296 := nat_of (bounds_u32 w)
theorem nat_u64 {a : Int} (w : (Lit.int .u64 a).wf = true) : ∃ n : Nat, a = n ∧ n < 18446744073709551616 := nat_of (bounds_u64 w)
theorem ret_eq {k : IntKind} {a b : Int} (h : a = b) : Ending.returned (.int k a) = .returned (.int k b) := by rw [h]
theorem below_drewN {B : Nat} {a w : World} (h : Below B a w) (n : Nat) : Below B a (w.drewN n) := h.trans ⟨rfl, rfl, rfl, Nat.le_refl _, fun _ _ => rfl⟩
theorem below_setRow {B : Nat} {a w : World} (h : Below B a w) {g : Nat} (hg : B ≤ g) (cs : Array Value) : Below B a (w.setRow g cs) :=
  h.trans ⟨rfl, rfl, rfl, by simp, fun k hk => setRow_other w g k cs (by omega)⟩
/-- A call behind a call: what was below stays below. -/
theorem below_then {W w w' : World} (h : Below W.heap.size W w) (k : Below w.heap.size w w') : Below W.heap.size W w' := h.trans (k.mono h.size)
end Go.Proofs.YtmeapijckncoeaaGreatDoor

namespace Go.Proofs.YtmeapijckncoeaaGreatDoor
set_option maxRecDepth 100000
set_option linter.unusedSimpArgs false
set_option linter.unusedVariables false
open Go.RowKit Go.Joins Go.Deep
/-- An item. -/
structure Itm where
  s : ByteArray
  k : Int
  m : Int
  u : Int
  g : Int
  t : Int
  a : Int
  d : ByteArray
instance : Inhabited Itm := ⟨⟨⟨#[]⟩, 0, 0, 0, 0, 0, 0, ⟨#[]⟩⟩⟩
/-- Its cells. -/
def Itm.cells (x : Itm) : Array Value := #[.string x.s, .int .i64 x.k, .int .u32 x.m, .int .u32 x.u, .int .u32 x.g, .int .i64 x.t, .int .i64 x.a, .string x.d]
def Itm.cellsL (x : Itm) : List Value := [.string x.s, .int .i64 x.k, .int .u32 x.m, .int .u32 x.u, .int .u32 x.g, .int .i64 x.t, .int .i64 x.a, .string x.d]
theorem itm_cells (x : Itm) : x.cellsL.toArray = x.cells := rfl
theorem itm_list (x : Itm) : x.cells.toList = x.cellsL := rfl
theorem itm_one (x : Itm) : x.cells.all (·.oneCell') = true := by simp [Itm.cells, Value.oneCell']
/-- Items in memory. -/
def Itms (w : World) (A : Option Addr) (l : List Itm) : Prop := 0 < l.length → ∃ b off, A = some ⟨b, off, none⟩ ∧ b < w.heap.size ∧ ∀ (k : Nat) x, l[k]? = some x →
  w.cell? ⟨b, off + k * 8, none⟩ = some (.string x.s) ∧ w.cell? ⟨b, off + k * 8 + 1, none⟩ = some (.int .i64 x.k) ∧ w.cell? ⟨b, off + k * 8 + 2, none⟩ = some (.int .u32 x.m) ∧ w.cell? ⟨b, off + k * 8 + 3, none⟩ = some (.int .u32 x.u) ∧
  w.cell? ⟨b, off + k * 8 + 4, none⟩ = some (.int .u32 x.g) ∧ w.cell? ⟨b, off + k * 8 + 5, none⟩ = some (.int .i64 x.t) ∧ w.cell? ⟨b, off + k * 8 + 6, none⟩ = some (.int .i64 x.a) ∧ w.cell? ⟨b, off + k * 8 + 7, none⟩ = some (.string x.d)
theorem Itms.below {w w' : World} {A : Option Addr} {l : List Itm} (h : Itms w A l) (hb : Below w.heap.size w w') : Itms w' A l := fun h0 => by
  obtain ⟨b, off, e, hlt, hc⟩ := h h0
  refine ⟨b, off, e, Nat.lt_of_lt_of_le hlt hb.size, fun k x hx => ?_⟩
  obtain ⟨c0, c1, c2, c3, c4, c5, c6, c7⟩ := hc k x hx
  exact ⟨(hb.cell hlt).trans c0, (hb.cell hlt).trans c1, (hb.cell hlt).trans c2, (hb.cell hlt).trans c3, (hb.cell hlt).trans c4, (hb.cell hlt).trans c5, (hb.cell hlt).trans c6, (hb.cell hlt).trans c7⟩
theorem Itms.nil (w : World) (A : Option Addr) : Itms w A [] := fun h => absurd h (by decide)
theorem Itms.none {w : World} {l : List Itm} (h : Itms w none l) : l = [] := by
  cases l with
  | nil => rfl
  | cons x l => obtain ⟨b, off, e, _⟩ := h (by simp); cases e
theorem Itms.range {w : World} {b off : Nat} {l : List Itm} (h : Itms w (some ⟨b, off, Option.none⟩) l) (k : Nat) (x : Itm) (hx : l[k]? = some x) : w.rangeAt b (off + k * 8) x.cellsL := by
  obtain ⟨b', off', e, _, hc⟩ := h (by have := (List.getElem?_eq_some_iff.1 hx).1; omega)
  injection e with e
  injection e with e1 e2 _
  subst e1 e2
  obtain ⟨c0, c1, c2, c3, c4, c5, c6, c7⟩ := hc k x hx
  intro j v hv
  have hj : j < 8 := (List.getElem?_eq_some_iff.1 hv).1
  have h8 : j = 0 ∨ j = 1 ∨ j = 2 ∨ j = 3 ∨ j = 4 ∨ j = 5 ∨ j = 6 ∨ j = 7 := by omega
  rcases h8 with rfl | rfl | rfl | rfl | rfl | rfl | rfl | rfl <;> (injection hv with hv; subst hv; assumption)
/-- The cells of a row of items. -/
def cellsI : List Itm → List Value
  | [] => []
  | x :: l => x.cellsL ++ cellsI l
theorem cellsI_app (l m : List Itm) : cellsI (l ++ m) = cellsI l ++ cellsI m := by
  induction l with
  | nil => rfl
  | cons x l ih => simp only [List.cons_append, cellsI, ih, List.append_assoc]
theorem cellsI_len (l : List Itm) : (cellsI l).length = l.length * 8 := by
  induction l with
  | nil => rfl
  | cons x l ih => rw [cellsI, List.length_append, ih, List.length_cons]; show 8 + _ = _; omega
theorem cellsI_one (l : List Itm) : ∀ u ∈ cellsI l, u.oneCell' = true := by
  induction l with
  | nil => intro u h; cases h
  | cons x l ih =>
    intro u h
    rw [cellsI] at h
    rcases List.mem_append.1 h with h | h
    · simp only [Itm.cellsL, List.mem_cons, List.not_mem_nil, or_false] at h
      rcases h with rfl | rfl | rfl | rfl | rfl | rfl | rfl | rfl <;> rfl
    · exact ih u h
theorem cellsI_get : ∀ (l : List Itm) (i : Nat) (x : Itm), l[i]? = some x → ∀ j v, x.cellsL[j]? = some v → (cellsI l)[i * 8 + j]? = some v
  | y :: l, 0, x, h, j, v, hv => by
    injection h with h
    subst h
    rw [cellsI, Nat.zero_mul, Nat.zero_add, List.getElem?_append_left (show j < y.cellsL.length from (List.getElem?_eq_some_iff.1 hv).1)]
    exact hv
  | y :: l, i + 1, x, h, j, v, hv => by
    rw [cellsI, List.getElem?_append_right (show y.cellsL.length ≤ (i + 1) * 8 + j by show 8 ≤ _; omega), show (i + 1) * 8 + j - y.cellsL.length = i * 8 + j by show (i + 1) * 8 + j - 8 = _; omega]
    exact cellsI_get l i x (by simpa using h) j v hv
  | [], i, x, h, _, _, _ => by cases h
theorem info_item : (Tryz.prog.info? 42).map (·.size) = some 8 := by kernel_rfl
theorem parts_item : (Tryz.prog.info? 42).map (fun i => (i.zero, i.size, i.bytes)) = some (some (.agg #[.string ⟨#[]⟩, .int .i64 0, .int .u32 0, .int .u32 0, .int .u32 0, .int .i64 0, .int .i64 0, .string ⟨#[]⟩]), 8, 72) := by kernel_rfl
/-- Items in a block of their own: they are there, and may be written. -/
def IO (w : World) (g : Nat) (l : List Itm) : Prop := g < w.heap.size ∧ ∀ (k : Nat) x, l[k]? = some x → w.rangeAt g (k * 8) x.cellsL ∧ w.there g (k * 8) 8
theorem IO.itms {w : World} {g : Nat} {l : List Itm} (h : IO w g l) : Itms w (some ⟨g, 0, none⟩) l := fun h0 => by
  refine ⟨g, 0, rfl, h.1, fun k x hx => ?_⟩
  have hr := (h.2 k x hx).1
  rw [Nat.zero_add]
  exact ⟨hr 0 _ rfl, hr 1 _ rfl, hr 2 _ rfl, hr 3 _ rfl, hr 4 _ rfl, hr 5 _ rfl, hr 6 _ rfl, hr 7 _ rfl⟩
theorem IO.below {w w' : World} {g : Nat} {l : List Itm} (h : IO w g l) (hb : Below w.heap.size w w') : IO w' g l :=
  ⟨Nat.lt_of_lt_of_le h.1 hb.size, fun k x hx => ⟨fun j v hv => (World.cell?_of_block (hb.block g h.1)).trans ((h.2 k x hx).1 j v hv), fun j hj => by
    have := (h.2 k x hx).2 j hj
    exact ⟨by rw [World.cell?_of_block (hb.block g h.1)]; exact this.1, by rw [World.frozen?_of_block (hb.block g h.1)]; exact this.2⟩⟩⟩
theorem size_setCells (b : Nat) : ∀ (vs : List Value) (o : Nat) (w : World), (w.setCells b o vs).heap.size = w.heap.size
  | [], _, _ => rfl
  | v :: r, o, w => by rw [World.setCells, size_setCells b r]; simp [World.setCell]
theorem IO.store {w : World} {g : Nat} {l : List Itm} (h : IO w g l) (k : Nat) (y : Itm) (hk : k < l.length) : IO (w.setCells g (k * 8) y.cellsL) g (l.set k y) := by
  refine ⟨by rw [size_setCells]; exact h.1, fun j x hx => ?_⟩
  by_cases e : k = j
  · subst e
    rw [List.getElem?_set_self hk] at hx
    injection hx with hx
    subst hx
    have ht := (h.2 k l[k] (List.getElem?_eq_getElem hk)).2
    exact ⟨World.rangeAt_setCells_same _ _ _ _ ht, World.there_setCells ht _ _ _⟩
  · rw [List.getElem?_set_ne e] at hx
    have hj := h.2 j x hx
    have e1 : y.cellsL.length = 8 := rfl
    have e2 : x.cellsL.length = 8 := rfl
    exact ⟨World.rangeAt_setCells_apart hj.1 _ _ _ (by rw [e1, e2]; omega), World.there_setCells hj.2 _ _ _⟩
theorem IO.take {w : World} {g : Nat} {l : List Itm} (h : IO w g l) (n : Nat) : IO w g (l.take n) := ⟨h.1, fun k x hx => h.2 k x (by
  rw [List.getElem?_take] at hx
  split at hx
  · exact hx
  · cases hx)⟩
theorem IO.drewN {w : World} {g : Nat} {l : List Itm} (h : IO w g l) (n : Nat) : IO (w.drewN n) g l := h
theorem below_setCells' {w : World} {b : Nat} {B : Nat} (hb : B ≤ b) : ∀ (vs : List Value) (o : Nat) (w1 : World), Below B w w1 → Below B w (w1.setCells b o vs)
  | [], _, _, h => h
  | v :: r, o, w1, h => by rw [World.setCells]; exact below_setCells' hb r (o + 1) _ (h.setCell (p := ⟨b, o, none⟩) hb v)
theorem io_of_own {w : World} {B g cap : Nat} {T : TypeId} {l : List Itm} (h : w.ownsRow B T 8 (.slice (some ⟨g, 0, none⟩) l.length cap) l.length (cellsI l)) : IO w g l := by
  have hlt := (h.lt g rfl).2
  refine ⟨hlt, fun k x hx => ?_⟩
  have hk : k < l.length := (List.getElem?_eq_some_iff.1 hx).1
  have hr : w.rangeAt g (k * 8) x.cellsL := fun j v hv => by
    have hj : j < 8 := (List.getElem?_eq_some_iff.1 hv).1
    rw [h.cellAt (k * 8 + j) (by omega)]
    exact cellsI_get l k x hx j v hv
  exact ⟨hr, fun j hj => ⟨hr.isSome j hj, h.frozenAt _⟩⟩
theorem eqv_node (k m u g t a : Int) (d : ByteArray) (w : World) : (Op.equalIn 9999 25 (.agg #[.int .i64 k, .int .u32 m, .int .u32 u, .int .u32 g, .int .i64 t, .int .i64 a, .string d]) (.agg #[.int .i64 k, .int .u32 m, .int .u32 u, .int .u32 g, .int .i64 t, .int .i64 a, .string d])).run Tryz.prog w = .ok true w := by
  rw [run_equalIn_struct w 9998 25 _ _ (by kernel_rfl) (by kernel_rfl)]
  simp [go_sem, Program.fieldsOf, Tryz.underlying25]
end Go.Proofs.YtmeapijckncoeaaGreatDoor

namespace Go.Proofs.YtmeapijckncoeaaGreatDoor
set_option maxRecDepth 100000
set_option linter.unusedSimpArgs false
set_option linter.unusedVariables false
open Go.RowKit Go.Joins Go.Deep
theorem partsI : ∃ i0, Tryz.prog.info? 42 = some i0 ∧ i0.zero = some (.agg #[.string ⟨#[]⟩, .int .i64 0, .int .u32 0, .int .u32 0, .int .u32 0, .int .i64 0, .int .i64 0, .string ⟨#[]⟩]) ∧ i0.size = 8 ∧ i0.bytes = 72 := by
  have h := parts_item
  cases hq : Tryz.prog.info? 42 with
  | none => rw [hq] at h; cases h
  | some i =>
    rw [hq] at h
    simp only [Option.map_some, Option.some.injEq, Prod.mk.injEq] at h
    exact ⟨i, rfl, h.1, h.2.1, h.2.2⟩
/-- What a slice of items is that was made: nothing, or a block of its own. -/
def NewI (w : World) (B : Nat) (A : Option Addr) (l : List Itm) : Prop := l = [] ∨ ∃ g, A = some ⟨g, 0, none⟩ ∧ B ≤ g ∧ IO w g l
theorem NewI.itms {w : World} {B : Nat} {A : Option Addr} {l : List Itm} (h : NewI w B A l) : Itms w A l := by
  rcases h with rfl | ⟨g, rfl, _, h⟩
  · exact Itms.nil _ _
  · exact h.itms
set_option maxHeartbeats 4000000 in
theorem cloneI_any (A : Option Addr) (c : Nat) (l : List Itm) (w : World) (hR : Itms w A l) (hl : l.length ≤ 1000000) :
    Calls Tryz.prog 25 #[.slice A l.length c] w fun e w' => ∃ A' c', e = .returned (.slice A' l.length c') ∧ l.length ≤ c' ∧ NewI w' w.heap.size A' l ∧ Below w.heap.size w w' := by
  obtain ⟨i0, hi, hz0, hz1, hz2⟩ := partsI
  have HR := Lib.hid hR
  have q54 : ∀ (w : World) (a : Option Addr) (n c n' c' : Nat), (binOp .eql 22 (.slice a n c) (.slice none n' c')).run Tryz.prog w = .ok (.bool a.isNone) w := fun w a n c n' c' => Lib.run_eql_slice_nil w _ _ a n c n' c' Tryz.underlying22
  clear hR
  cases A with
  | none =>
    obtain rfl : l = [] := HR.out.none
    go_enter Tryz.func25, Tryz.ntmps25
    go_wp2_with fail
    go_ret
    exact ⟨none, 0, rfl, Nat.le_refl _, .inl rfl, Below.refl _ _⟩
  | some ad =>
    go_enter Tryz.func25, Tryz.ntmps25
    go_wp2_with (at_builtin; refine wpList_append_own _ rfl _ _ 22 rfl w.heap.size 42 i0 (.agg #[.string ⟨#[]⟩, .int .i64 0, .int .u32 0, .int .u32 0, .int .u32 0, .int .i64 0, .int .i64 0, .string ⟨#[]⟩]) 8 72 Tryz.underlying22 hi hz0 hz1 hz2 rfl (by decide) _ _ _ rfl (World.ownsRow_made w #[] 0 (Nat.le_refl _) (Nat.zero_le _) rfl) ad l.length c (cellsI l) rfl ?qc1 ?qc2 ?qc3 ?qc4 ?qc5 ?qc6 ?_)
    case qc1 => exact cellsI_len l
    case qc2 =>
      intro j u hj
      have hjl : j < l.length * 8 := by rw [← cellsI_len]; exact (List.getElem?_eq_some_iff.1 hj).1
      obtain ⟨b, off, e, hlt, _⟩ := HR.out (by omega)
      injection e with e
      subst e
      have hk : j / 8 < l.length := by omega
      have hr := HR.out.range (j / 8) l[j / 8] (List.getElem?_eq_getElem hk)
      have hm : j % 8 < (l[j / 8]).cellsL.length := Nat.mod_lt _ (by decide)
      have hg := cellsI_get l (j / 8) l[j / 8] (List.getElem?_eq_getElem hk) (j % 8) _ (List.getElem?_eq_getElem hm)
      rw [show j / 8 * 8 + j % 8 = j by omega, hj] at hg
      injection hg with hg
      subst hg
      have h := hr (j % 8) _ (List.getElem?_eq_getElem hm)
      rw [show off + j / 8 * 8 + j % 8 = off + j by omega] at h
      rw [Addr.add_mid]
      exact Lib.cell?_alloc_some _ h
    case qc3 =>
      intro u hu
      exact cellsI_one l u hu
    case qc4 => unfold maxLen; omega
    case qc5 => omega
    case qc6 => simp
    intro v' w1 hown hgrow hnil
    go_wp2_with fail
    go_ret
    have hb : Below w.heap.size w w1 := ((Below.refl _ w).alloc (Nat.le_refl _) _).grown hgrow (by simp) (by intro k hk; simp [Value.ownBlock] at hk; omega)
    rcases hown.2 with ⟨he, h0⟩ | ⟨g2, cap2, cur, he, hbg, _, hnc, _⟩
    · exact ⟨none, 0, by rw [he, h0]; rfl, by omega, .inl (List.eq_nil_of_length_eq_zero h0), hb⟩
    · refine ⟨_, cap2, by rw [he]; rfl, hnc, .inr ⟨g2, rfl, hbg, ?_⟩, hb⟩
      rw [he] at hown
      exact io_of_own hown
end Go.Proofs.YtmeapijckncoeaaGreatDoor

namespace Go.Proofs.YtmeapijckncoeaaGreatDoor
set_option maxRecDepth 100000
set_option linter.unusedSimpArgs false
set_option linter.unusedVariables false
open Go.RowKit Go.Joins Go.Deep
open Go.Lib hiding intOf
/-- A block of so many items. -/
def BK (w : World) (g c : Nat) : Prop := ∃ cur, w.heap[g]? = some (.cells cur 42 (0, 0)) ∧ cur.size = c * 8 ∧ c ≤ maxLen
theorem BK.below {w w' : World} {g c : Nat} (h : BK w g c) (hb : Below w.heap.size w w') : BK w' g c := by
  obtain ⟨cur, h1, h2⟩ := h
  exact ⟨cur, (hb.block g (lt_of_block h1)).trans h1, h2⟩
theorem BK.store1 {w : World} {g c : Nat} (h : BK w g c) (o : Nat) (v : Value) : BK (w.setCell ⟨g, o, none⟩ v) g c := by
  obtain ⟨cur, h1, h2⟩ := h
  refine ⟨cur.setIfInBounds o v, ?_, by rw [Array.size_setIfInBounds]; exact h2⟩
  show (w.heap.modify g _)[g]? = _
  rw [Array.getElem?_modify, if_pos rfl, h1]
  rfl
theorem BK.store {g c : Nat} : ∀ (vs : List Value) (o : Nat) (w : World), BK w g c → BK (w.setCells g o vs) g c
  | [], _, _, h => h
  | v :: r, o, w, h => by rw [World.setCells]; exact BK.store r (o + 1) _ (h.store1 o v)
/-- Items in a block of their own, with its room. -/
def IC (w : World) (g c : Nat) (l : List Itm) : Prop := IO w g l ∧ BK w g c
theorem IC.below {w w' : World} {g c : Nat} {l : List Itm} (h : IC w g c l) (hb : Below w.heap.size w w') : IC w' g c l := ⟨h.1.below hb, h.2.below hb⟩
theorem IC.store {w : World} {g c : Nat} {l : List Itm} (h : IC w g c l) (k : Nat) (y : Itm) (hk : k < l.length) : IC (w.setCells g (k * 8) y.cellsL) g c (l.set k y) := ⟨h.1.store k y hk, h.2.store _ _ _⟩
theorem IC.itms {w : World} {g c : Nat} {l : List Itm} (h : IC w g c l) : Itms w (some ⟨g, 0, none⟩) l := h.1.itms
theorem below_al (w : World) (o : Obj) : Below w.heap.size w (w.alloc o) := (Below.refl _ _).alloc (Nat.le_refl _) o
theorem any_take {α : Type} (l : List α) (p : α → Bool) (k : Nat) (h : k < l.length) : (l.take (k + 1)).any p = ((l.take k).any p || p l[k]) := by
  rw [List.take_succ_eq_append_getElem h, List.any_append]
  simp
set_option maxHeartbeats 8000000 in
theorem indexP_any (I : World → Prop) (hI : ∀ w1 w2, I w1 → Below w1.heap.size w1 w2 → I w2) (p : Itm → Bool) (l : List Itm) (A : Option Addr) (c g : Nat) (w : World) (hl : l.length ≤ 1000000)
    (hP : ∀ x ∈ l, ∀ w1, I w1 → Calls Tryz.prog 38 #[.agg x.cells, .pointer (some ⟨g, 0, none⟩)] w1 fun e w' => e = .returned (.bool (p x)) ∧ Below w1.heap.size w1 w') (hw : I w) (hR : Itms w A l) :
    Calls Tryz.prog 37 #[.slice A l.length c, .func (.func 38) #[] #[.pointer (some ⟨g, 0, none⟩)]] w
      fun e w' => Below w.heap.size w w' ∧ ((e = .returned (.int .i64 (-1)) ∧ l.any p = false) ∨ ∃ (k : Nat) (h : k < l.length), e = .returned (.int .i64 k) ∧ p l[k] = true ∧ (l.take k).any p = false) := by
  have hir := info_item
  have HP := Lib.hid hP
  have HI := Lib.hid hI
  have HW := Lib.hid hw
  have HR := Lib.hid hR
  clear hP hI hw hR
  go_enter Tryz.func37, Tryz.ntmps37
  go_wp2_with fail
  go_loopw [5, 8] (fun _ i wr => ∃ k : Nat, k ≤ l.length ∧ i = .int .i64 (k : Nat) ∧ Hid ((l.take k).any p = false) ∧ Hid (Below w.heap.size w wr)) (fun _ i _ => l.length - (intOf i).toNat)
  case atStart => exact ⟨0, Nat.zero_le _, rfl, by show List.any [] _ = _; rfl, Below.refl _ _⟩
  case round =>
    obtain ⟨k, hk, rfl, HF, HB⟩ := hrel
    by_cases hlt : k < l.length
    · obtain ⟨b, off, rfl, hb, hcc⟩ := (HR.out.below HB.out) (by omega)
      obtain ⟨c0, c1, c2, c3, c4, c5, c6, c7⟩ := hcc k l[k] (List.getElem?_eq_getElem hlt)
      have HQ := Lib.hid (any_take l p k hlt)
      have HCL := Lib.hid (HP.out l[k] (List.getElem_mem hlt) wr (HI.out _ _ HW.out HB.out))
      have HE : Hid (p l[k] = p l[k]) := rfl
      generalize hp : p l[k] = pv at *
      have HPV := Lib.hid hp
      simp only [Itm.cells] at HCL
      generalize l[k] = x at c0 c1 c2 c3 c4 c5 c6 c7 HCL
      clear hcc hp
      obtain ⟨x0, x1, x2, x3, x4, x5, x6, x7⟩ := x
      dsimp only at c0 c1 c2 c3 c4 c5 c6 c7 HCL
      go_wp2_with fail
      refine HCL.out.mono ?_; rintro e w5 ⟨rfl, hb5⟩
      have HB5 := Lib.hid (below_then HB.out hb5)
      clear hb5
      cases pv with
      | true =>
        go_wp2_with fail
        go_ret
        exact ⟨HB5.out, .inr ⟨k, hlt, rfl, HPV.out, HF.out⟩⟩
      | false =>
        go_wp2_with fail
        go_roundw
        case rel => exact ⟨k + 1, by omega, by go_num, by show _ = _; rw [HQ.out, HF.out]; rfl, HB5⟩
        case measure => simp [intOf]; omega
    · obtain rfl : k = l.length := by omega
      go_wp2_with fail
      go_ret
      refine ⟨HB.out, .inl ⟨rfl, ?_⟩⟩
      have h := HF.out
      rw [List.take_length] at h
      exact h
set_option maxHeartbeats 8000000 in
theorem indexW_any (I : World → Prop) (hI : ∀ w1 w2, I w1 → Below w1.heap.size w1 w2 → I w2) (p : Itm → Bool) (l : List Itm) (A : Option Addr) (c g : Nat) (w : World) (hl : l.length ≤ 1000000)
    (hP : ∀ x ∈ l, ∀ w1, I w1 → Calls Tryz.prog 57 #[.agg x.cells, .pointer (some ⟨g, 0, none⟩)] w1 fun e w' => e = .returned (.bool (p x)) ∧ Below w1.heap.size w1 w') (hw : I w) (hR : Itms w A l) :
    Calls Tryz.prog 37 #[.slice A l.length c, .func (.func 57) #[] #[.pointer (some ⟨g, 0, none⟩)]] w
      fun e w' => Below w.heap.size w w' ∧ ((e = .returned (.int .i64 (-1)) ∧ l.any p = false) ∨ ∃ (k : Nat) (h : k < l.length), e = .returned (.int .i64 k) ∧ p l[k] = true ∧ (l.take k).any p = false) := by
  have hir := info_item
  have HP := Lib.hid hP
  have HI := Lib.hid hI
  have HW := Lib.hid hw
  have HR := Lib.hid hR
  clear hP hI hw hR
  go_enter Tryz.func37, Tryz.ntmps37
  go_wp2_with fail
  go_loopw [5, 8] (fun _ i wr => ∃ k : Nat, k ≤ l.length ∧ i = .int .i64 (k : Nat) ∧ Hid ((l.take k).any p = false) ∧ Hid (Below w.heap.size w wr)) (fun _ i _ => l.length - (intOf i).toNat)
  case atStart => exact ⟨0, Nat.zero_le _, rfl, by show List.any [] _ = _; rfl, Below.refl _ _⟩
  case round =>
    obtain ⟨k, hk, rfl, HF, HB⟩ := hrel
    by_cases hlt : k < l.length
    · obtain ⟨b, off, rfl, hb, hcc⟩ := (HR.out.below HB.out) (by omega)
      obtain ⟨c0, c1, c2, c3, c4, c5, c6, c7⟩ := hcc k l[k] (List.getElem?_eq_getElem hlt)
      have HQ := Lib.hid (any_take l p k hlt)
      have HCL := Lib.hid (HP.out l[k] (List.getElem_mem hlt) wr (HI.out _ _ HW.out HB.out))
      have HE : Hid (p l[k] = p l[k]) := rfl
      generalize hp : p l[k] = pv at *
      have HPV := Lib.hid hp
      simp only [Itm.cells] at HCL
      generalize l[k] = x at c0 c1 c2 c3 c4 c5 c6 c7 HCL
      clear hcc hp
      obtain ⟨x0, x1, x2, x3, x4, x5, x6, x7⟩ := x
      dsimp only at c0 c1 c2 c3 c4 c5 c6 c7 HCL
      go_wp2_with fail
      refine HCL.out.mono ?_; rintro e w5 ⟨rfl, hb5⟩
      have HB5 := Lib.hid (below_then HB.out hb5)
      clear hb5
      cases pv with
      | true =>
        go_wp2_with fail
        go_ret
        exact ⟨HB5.out, .inr ⟨k, hlt, rfl, HPV.out, HF.out⟩⟩
      | false =>
        go_wp2_with fail
        go_roundw
        case rel => exact ⟨k + 1, by omega, by go_num, by show _ = _; rw [HQ.out, HF.out]; rfl, HB5⟩
        case measure => simp [intOf]; omega
    · obtain rfl : k = l.length := by omega
      go_wp2_with fail
      go_ret
      refine ⟨HB.out, .inl ⟨rfl, ?_⟩⟩
      have h := HF.out
      rw [List.take_length] at h
      exact h
theorem zero_item (w : World) : (zeroValue 42).run Tryz.prog w = .ok (.agg #[.string ⟨#[]⟩, .int .i64 0, .int .u32 0, .int .u32 0, .int .u32 0, .int .i64 0, .int .i64 0, .string ⟨#[]⟩]) w := by kernel_rfl
/-- The cells of so many zero items. -/
theorem zeroCells_sizeI (z : Array Value) (n : Nat) : (Builtin.zeroCells z n).size = n * z.size := by
  unfold Builtin.zeroCells
  simp
theorem run_clear_items {w : World} {g : Nat} {l : List Itm} (h : IO w g l) (i c : Nat) (hi : i ≤ l.length) (ty : TypeId) :
    ∃ zs : List Value, (Builtin.clear_ #[22] ty #[.slice (some ⟨g, i * 8, none⟩) (l.length - i) c]).run Tryz.prog w = .ok (.tuple #[]) (w.setCells g (i * 8) zs) := by
  by_cases hz : l.length - i = 0
  · refine ⟨[], ?_⟩
    rw [hz]
    simp [Builtin.clear_, run_underlying Tryz.underlying22, World.setCells]
  · refine ⟨(Builtin.zeroCells #[.string ⟨#[]⟩, .int .i64 0, .int .u32 0, .int .u32 0, .int .u32 0, .int .i64 0, .int .i64 0, .string ⟨#[]⟩] (l.length - i)).toList, ?_⟩
    have hlen : (Builtin.zeroCells #[Value.string ⟨#[]⟩, .int .i64 0, .int .u32 0, .int .u32 0, .int .u32 0, .int .i64 0, .int .i64 0, .string ⟨#[]⟩] (l.length - i)).toList.length = (l.length - i) * 8 := by
      rw [Array.length_toList, zeroCells_sizeI]; rfl
    have hone : ∀ v ∈ (Builtin.zeroCells #[Value.string ⟨#[]⟩, .int .i64 0, .int .u32 0, .int .u32 0, .int .u32 0, .int .i64 0, .int .i64 0, .string ⟨#[]⟩] (l.length - i)).toList, v.oneCell' = true := by
      intro v hv
      rw [Builtin.zeroCells, Array.toList_map, List.mem_map] at hv
      obtain ⟨j, _, rfl⟩ := hv
      have h8 : j % 8 < 8 := Nat.mod_lt _ (by decide)
      show ((#[Value.string ⟨#[]⟩, .int .i64 0, .int .u32 0, .int .u32 0, .int .u32 0, .int .i64 0, .int .i64 0, .string ⟨#[]⟩] : Array Value)[j % 8]!).oneCell' = true
      generalize j % 8 = q at h8
      have h9 : q = 0 ∨ q = 1 ∨ q = 2 ∨ q = 3 ∨ q = 4 ∨ q = 5 ∨ q = 6 ∨ q = 7 := by omega
      rcases h9 with rfl | rfl | rfl | rfl | rfl | rfl | rfl | rfl <;> simp [Value.oneCell']
    have hth : ∀ j, j < (l.length - i) * 8 → (w.cell? ⟨g, i * 8 + j, none⟩).isSome = true ∧ w.frozen? ⟨g, i * 8 + j, none⟩ = false := fun j hj => by
      have hk : i + j / 8 < l.length := by omega
      have := (h.2 (i + j / 8) _ (List.getElem?_eq_getElem hk)).2 (j % 8) (Nat.mod_lt _ (by decide))
      rwa [show (i + j / 8) * 8 + j % 8 = i * 8 + j by omega] at this
    have hst := run_storeCells_cells (P := Tryz.prog) g (i * 8) _ 0 w (fun j hj => by rw [hlen] at hj; exact (hth j hj).1) (fun j hj => by rw [hlen] at hj; exact (hth j hj).2) hone
    obtain ⟨n, hn⟩ : ∃ n, l.length - i = n + 1 := ⟨l.length - i - 1, by omega⟩
    rw [hn] at hst ⊢
    simp only [Nat.add_zero] at hst
    simp [Builtin.clear_, run_underlying Tryz.underlying22, zero_item, Value.cells, hst]
theorem filter_snoc {α : Type} (q : α → Bool) (l : List α) (k : Nat) (h : k < l.length) : (l.take (k + 1)).filter q = (l.take k).filter q ++ (if q l[k] then [l[k]] else []) := by
  rw [List.take_succ_eq_append_getElem h, List.filter_append]
  congr 1
  by_cases hq : q l[k] = true
  · rw [if_pos hq, List.filter_cons_of_pos hq]; rfl
  · rw [if_neg hq, List.filter_cons_of_neg hq]; rfl
theorem filter_none {α : Type} (p : α → Bool) (l : List α) (h : l.any p = false) : l.filter (fun x => !p x) = l := by
  rw [List.filter_eq_self]
  intro x hx
  have := List.any_eq_false.1 h x hx
  simpa using this
set_option maxHeartbeats 4000000 in
theorem deleteW_nil (A : Option Addr) (cap gf : Nat) (w : World) :
    Calls Tryz.prog 56 #[.slice A 0 cap, .func (.func 57) #[] #[.pointer (some ⟨gf, 0, none⟩)]] w
      fun e w' => e = .returned (.slice A 0 cap) ∧ Below w.heap.size w w' := by
  have HC := Lib.hid (indexW_any (fun w1 => True) (fun w1 w2 h k => trivial) (fun _ => false) [] A cap gf w (Nat.zero_le _) (fun x hx => by cases hx) trivial (Itms.nil _ _))
  have hz : ([] : List Itm).length = 0 := rfl
  rw [hz] at HC
  go_enter Tryz.func56, Tryz.ntmps56
  go_wp2_with fail
  refine HC.out.mono ?_; rintro e w1 ⟨hb1, hcase⟩
  rcases hcase with ⟨rfl, _⟩ | ⟨k, hk, _⟩
  · have HB := Lib.hid hb1
    clear hb1
    go_wp2_with fail
    go_ret
    exact ⟨rfl, HB.out⟩
  · exact absurd hk (by simp)
set_option maxHeartbeats 8000000 in
theorem deleteW_any (w0 : World) (p : Itm → Bool) (l : List Itm) (g cap gf : Nat) (w : World) (hl : l.length ≤ 100000) (hcap : l.length ≤ cap) (hg : w0.heap.size ≤ g)
    (hP : ∀ x ∈ l, ∀ w1, Below w0.heap.size w0 w1 → Calls Tryz.prog 57 #[.agg x.cells, .pointer (some ⟨gf, 0, none⟩)] w1 fun e w' => e = .returned (.bool (p x)) ∧ Below w1.heap.size w1 w') (hw : Below w0.heap.size w0 w) (hO : IC w g cap l) :
    Calls Tryz.prog 56 #[.slice (some ⟨g, 0, none⟩) l.length cap, .func (.func 57) #[] #[.pointer (some ⟨gf, 0, none⟩)]] w
      fun e w' => e = .returned (.slice (some ⟨g, 0, none⟩) (l.filter (fun x => !p x)).length cap) ∧ IC w' g cap (l.filter (fun x => !p x)) ∧ Below w0.heap.size w0 w' := by
  have hir := info_item
  have HC := Lib.hid (indexW_any (fun w1 => Below w0.heap.size w0 w1) (fun w1 w2 h k => below_then h k) p l (some ⟨g, 0, none⟩) cap gf w (by omega) hP hw hO.itms)
  have HP := Lib.hid hP
  have HW := Lib.hid hw
  have HO := Lib.hid hO
  have HG := Lib.hid hg
  obtain ⟨q, hq⟩ : ∃ q : Itm → Bool, q = fun x => !p x := ⟨_, rfl⟩
  have HQ := Lib.hid hq
  rw [← hq]
  have HN := Lib.hid (filter_none p l)
  rw [← hq] at HN
  clear hP hw hO hg hq
  go_enter Tryz.func56, Tryz.ntmps56
  go_wp2_with fail
  refine HC.out.mono ?_; rintro e w1 ⟨hb1, hcase⟩
  have HB1 := Lib.hid (below_then HW.out hb1)
  have HO1 := Lib.hid (HO.out.below hb1)
  clear hb1 HC
  rcases hcase with ⟨rfl, hno⟩ | ⟨k, hk, rfl, hpk, hbef⟩
  · have HE := Lib.hid (HN.out hno)
    clear hno
    go_wp2_with fail
    go_ret
    rw [HE.out]
    exact ⟨rfl, HO1.out, HB1.out⟩
  · have HS : Hid (∃ (i j : Nat) (dk : List Itm), Value.int .i64 (k : Nat) = .int .i64 (i : Nat) ∧ Value.int .i64 ((k : Int) + 1) = .int .i64 (j : Nat) ∧ j ≤ l.length ∧ i < j ∧ Hid (dk.length = l.length) ∧ Hid (dk.take i = (l.take j).filter q) ∧ Hid (∀ t, j ≤ t → dk[t]? = l[t]?) ∧ Hid (IC w1 g cap dk) ∧ Hid (Below w0.heap.size w0 w1)) :=
      ⟨k, k + 1, l, rfl, by go_num, by omega, by omega, rfl, by
        show l.take k = _
        rw [filter_snoc q l k hk, HQ.out]
        simp only [hpk, Bool.not_true, Bool.false_eq_true, if_false, List.append_nil]
        exact (filter_none p (l.take k) hbef).symm, fun t _ => rfl, HO1, HB1⟩
    have hne : ((k : Int) == -1) = false := beq_eq_false_iff_ne.2 (by omega)
    have hk62 : (k : Int) + 1 < 9223372036854775807 := by omega
    clear hpk hbef HN HO1 HB1 HO HW
    go_wp2_with fail
    go_loopw [5, 6, 7] (fun v5 v6 _ wr => ∃ (i j : Nat) (dk : List Itm), v5 = .int .i64 (i : Nat) ∧ v6 = .int .i64 (j : Nat) ∧ j ≤ l.length ∧ i < j ∧ Hid (dk.length = l.length) ∧ Hid (dk.take i = (l.take j).filter q) ∧ Hid (∀ t, j ≤ t → dk[t]? = l[t]?) ∧ Hid (IC wr g cap dk) ∧ Hid (Below w0.heap.size w0 wr)) (fun _ v _ _ => l.length - (intOf v).toNat)
    case atStart => exact HS.out
    case round =>
      clear HS hne hk62
      obtain ⟨i, j, dk, rfl, rfl, hj, hij, HL, HT, HR, HI, HB⟩ := hrel
      by_cases hlt : j < l.length
      · have hd : decide ((j : Int) < (l.length : Int)) = true := decide_eq_true (by omega)
        have hjx : dk[j]? = some l[j] := (HR.out j (Nat.le_refl _)).trans (List.getElem?_eq_getElem hlt)
        have hr := (HI.out.1.2 j l[j] hjx).1
        have c0 := hr 0 _ rfl
        have c1 := hr 1 _ rfl
        have c2 := hr 2 _ rfl
        have c3 := hr 3 _ rfl
        have c4 := hr 4 _ rfl
        have c5 := hr 5 _ rfl
        have c6 := hr 6 _ rfl
        have c7 := hr 7 _ rfl
        rw [Nat.add_zero] at c0
        have hbx := below_al wr (.cells l[j].cells 42)
        have hx0 := heap_alloc_new wr (.cells l[j].cells 42)
        have HBX := Lib.hid (HB.out.alloc HB.out.size (.cells l[j].cells 42))
        have HCL := Lib.hid (HP.out l[j] (List.getElem_mem hlt) _ HBX.out)
        have HIX := Lib.hid (HI.out.below hbx)
        have HF := Lib.hid (filter_snoc q l j hlt)
        have HX := Lib.hid hx0
        have HQx : Hid (q l[j] = !p l[j]) := by show q l[j] = _; rw [HQ.out]
        have hi62 : (i : Int) + 1 < 9223372036854775807 := by omega
        have hj62 : (j : Int) + 1 < 9223372036854775807 := by omega
        generalize hp : p l[j] = pv at *
        have HIN : Hid (i < dk.length) := by show _ < _; rw [HL.out]; omega
        clear hjx hr hbx hx0 hp
        simp only [Itm.cells] at HCL HX HBX HIX
        have HLX : Hid (q l[j] = !pv) := HQx
        generalize hxx : l[j] = x at *
        have HXX := Lib.hid hxx
        clear hxx HQx
        obtain ⟨x0, x1, x2, x3, x4, x5, x6, x7⟩ := x
        dsimp only at c0 c1 c2 c3 c4 c5 c6 c7 HCL HX HBX HIX
        go_upto_region 8 with fail
        generalize hgp : wr.heap.size = gp at *
        generalize wr.alloc (.cells #[.string x0, .int .i64 x1, .int .u32 x2, .int .u32 x3, .int .u32 x4, .int .i64 x5, .int .i64 x6, .string x7] 42) = wx at *
        go_wp2_with (refine wpList_load_row rfl 42 (.tmp 7) rfl gp rfl 42 _ (0, 0) _ HX.out Tryz.underlying42 rfl info_item ?_)
        refine HCL.out.mono ?_; rintro e w5 ⟨rfl, hb5⟩
        have HB5 := Lib.hid (below_then HBX.out hb5)
        have HI5 := Lib.hid (HIX.out.below hb5)
        have HX5 := Lib.hid ((hb5.block gp (lt_of_block HX.out)).trans HX.out)
        clear hb5 HCL HX HIX HBX HI c0 c1 c2 c3 c4 c5 c6 c7 hgp
        cases pv with
        | true =>
          have HT2 : Hid (dk.take i = (l.take (j + 1)).filter q) := by
            show _ = _
            have h := HF.out
            rw [HLX.out] at h
            rw [h, HT.out]
            simp
          have HR2 : Hid (∀ t, j + 1 ≤ t → dk[t]? = l[t]?) := fun t ht => HR.out t (by omega)
          clear HT HR HF HLX HXX
          go_wp2_with fail
          go_roundw
          case rel => exact ⟨i, j + 1, dk, rfl, by go_num, by omega, by omega, HL, HT2, HR2, HI5, HB5⟩
          case measure => simp [intOf]; omega
        | false =>
          have hth := (HI5.out.1.2 i dk[i] (List.getElem?_eq_getElem HIN.out)).2
          have HTH := Lib.hid hth
          obtain ⟨y, hy⟩ : ∃ y : Itm, y = ⟨x0, x1, x2, x3, x4, x5, x6, x7⟩ := ⟨_, rfl⟩
          have HI6 := Lib.hid (HI5.out.store i y HIN.out)
          have HB6 := Lib.hid (below_setCells' HG.out y.cellsL (i * 8) w5 HB5.out)
          have HT2 : Hid ((dk.set i y).take (i + 1) = (l.take (j + 1)).filter q) := by
            show _ = _
            have h := HF.out
            rw [HLX.out] at h
            rw [h, ← HT.out, List.take_succ_eq_append_getElem (by rw [List.length_set]; exact HIN.out), List.take_set_of_le (Nat.le_refl _), List.getElem_set_self, hy]
            simp
          have HR2 : Hid (∀ t, j + 1 ≤ t → (dk.set i y)[t]? = l[t]?) := fun t ht => by
            rw [List.getElem?_set_ne (by omega)]
            exact HR.out t (by omega)
          have HL2 : Hid ((dk.set i y).length = l.length) := by show _ = _; rw [List.length_set]; exact HL.out
          have hyl : y.cellsL = (#[.string x0, .int .i64 x1, .int .u32 x2, .int .u32 x3, .int .u32 x4, .int .i64 x5, .int .i64 x6, .string x7] : Array Value).toList := by rw [hy]; rfl
          rw [hyl] at HI6 HB6
          clear HT HR HF HLX HXX hth hyl hy HI5 HB5
          have hin : i < l.length := by omega
          go_wp2_with (first | refine wpList_load_row rfl 42 (.tmp 7) rfl gp rfl 42 _ (0, 0) _ HX5.out Tryz.underlying42 rfl info_item ?_ | refine wpList_store_mid rfl 42 (.tmp 33) (.tmp 32) rfl g (i * 8) _ rfl rfl HTH.out info_item (by simp [Value.oneCell']) ?_; generalize w5.setCells g (i * 8) _ = w6 at *)
          go_roundw
          case rel => exact ⟨i + 1, j + 1, dk.set i y, by go_num, by go_num, by omega, by omega, HL2, HT2, HR2, HI6, HB6⟩
          case measure => simp [intOf]; omega
      · obtain rfl : j = l.length := by omega
        have hd : decide ((l.length : Int) < (l.length : Int)) = false := decide_eq_false (by omega)
        have hIl := HI.out
        obtain ⟨zs, hz⟩ := run_clear_items HI.out.1 i (cap - i) (by rw [HL.out]; omega) 0
        rw [HL.out] at hz
        have hin : i < l.length := hij
        have hHE : (l.filter q).length = i ∧ l.filter q = dk.take i := by
          have h := HT.out
          rw [List.take_length] at h
          rw [← h]
          exact ⟨by rw [List.length_take, HL.out]; omega, rfl⟩
        have HE := Lib.hid hHE
        have HIO : Hid (IC (wr.setCells g (i * 8) zs) g cap (dk.take i)) := by
          refine ⟨?_, hIl.2.store _ _ _⟩
          refine ⟨by rw [size_setCells]; exact hIl.1.1, fun t x hx => ?_⟩
          have ht : t < i := by have := (List.getElem?_eq_some_iff.1 hx).1; rw [List.length_take] at this; omega
          rw [List.getElem?_take, if_pos ht] at hx
          have h2 := hIl.1.2 t x hx
          have e2 : x.cellsL.length = 8 := rfl
          exact ⟨World.rangeAt_setCells_apart h2.1 _ _ _ (by rw [e2]; omega), World.there_setCells h2.2 _ _ _⟩
        have HBZ := Lib.hid (below_setCells' HG.out zs (i * 8) wr HB.out)
        clear hIl hHE HT HR HL HI HB
        go_upto_region 11 with fail
        go_wp2_with fail
        generalize wr.setCells g (i * 8) zs = w6 at *
        go_ret
        rw [HE.out.2]
        refine ⟨?_, HIO.out, HBZ.out⟩
        rw [← HE.out.2, HE.out.1]
        rfl
end Go.Proofs.YtmeapijckncoeaaGreatDoor

namespace Go.Proofs.YtmeapijckncoeaaGreatDoor
set_option maxRecDepth 100000
set_option linter.unusedSimpArgs false
set_option linter.unusedVariables false
open Go.RowKit Go.Joins Go.Deep
open Go.Lib hiding intOf
/-- The zero item. -/
def zitm : Value := .agg #[.string ⟨#[]⟩, .int .i64 0, .int .u32 0, .int .u32 0, .int .u32 0, .int .i64 0, .int .i64 0, .string ⟨#[]⟩]
theorem zcells_size (n : Nat) : (Builtin.zeroCells (Value.cells zitm) n).size = n * 8 := by
  rw [zeroCells_sizeI]
  rfl
theorem itms_flat {w : World} {A : Option Addr} {l : List Itm} (h : Itms w A l) (a : Addr) (e : A = some a) : ∀ j u, (cellsI l)[j]? = some u → w.cell? (a.add j) = some u := fun j u hj => by
  have hjl : j < l.length * 8 := by rw [← cellsI_len]; exact (List.getElem?_eq_some_iff.1 hj).1
  obtain ⟨b, off, e2, hlt, _⟩ := h (by omega)
  rw [e] at e2
  injection e2 with e2
  subst e2
  subst e
  have hk : j / 8 < l.length := by omega
  have hr := h.range (j / 8) l[j / 8] (List.getElem?_eq_getElem hk)
  have hm : j % 8 < (l[j / 8]).cellsL.length := Nat.mod_lt _ (by decide)
  have hg := cellsI_get l (j / 8) l[j / 8] (List.getElem?_eq_getElem hk) (j % 8) _ (List.getElem?_eq_getElem hm)
  rw [show j / 8 * 8 + j % 8 = j by omega, hj] at hg
  injection hg with hg
  subst hg
  have h := hr (j % 8) _ (List.getElem?_eq_getElem hm)
  rw [show off + j / 8 * 8 + j % 8 = off + j by omega] at h
  rw [Addr.add_mid]
  exact h
theorem own_newI {w : World} {B : Nat} {l : List Itm} {v : Value} (h : w.ownsRow B 42 8 v l.length (cellsI l)) : ∃ A' c', v = .slice A' l.length c' ∧ NewI w B A' l := by
  rcases h.2 with ⟨he, h0⟩ | ⟨g2, cap2, cur, he, hbg, _⟩
  · exact ⟨none, 0, by rw [he, h0], .inl (List.eq_nil_of_length_eq_zero h0)⟩
  · refine ⟨some ⟨g2, 0, none⟩, cap2, he, .inr ⟨g2, rfl, hbg, ?_⟩⟩
    rw [he] at h
    exact io_of_own h
/-- All of some items put behind others. -/
theorem wpList_append_itms {w : World} {ops : Array Oper} {rest : List Oper} {o : Oper} {a : Act} {Q : Exit → Act → World → Prop} (hgd : o.guard = none) (s x : Operand)
    (ho : o.op = .call { callee := .builtin .append, args := #[s, x], argTypes := #[22, 22] }) (B : Nat) (v : Value) (L : List Itm) (hs : a.eval s = v) (hown : w.ownsRow B 42 8 v L.length (cellsI L)) (A : Option Addr) (n c : Nat) (m : List Itm) (hmn : n = m.length) (hx : a.eval x = .slice A n c) (hT : Itms w A m) (hn : L.length + m.length ≤ 100000) (hB : B ≤ w.heap.size)
    (h : ∀ v' w', w'.ownsRow B 42 8 v' (L ++ m).length (cellsI (L ++ m)) → w.grownBy w' v.ownBlock → wpList Tryz.prog ops Q rest (a.put o.dst v') w') : wpList Tryz.prog ops Q (o :: rest) a w := by
  subst hmn
  obtain ⟨i0, hi, hz0, hz1, hz2⟩ := partsI
  cases A with
  | none =>
    obtain rfl : m = [] := hT.none
    refine wpList_plain hgd fun K hK => ?_
    have hx' : a.eval x = .slice none 0 c := hx
    rw [List.append_nil] at h
    have hr : (Builtin.append_ #[22, 22] o.type #[v, .slice none 0 c]).run Tryz.prog w = .ok v w := by
      rcases hown.2 with ⟨he, h0⟩ | ⟨g2, cap2, cur, he, hbg, _, hnc, _⟩
      · rw [he]
        exact run_append_nothing (P := Tryz.prog) w 22 22 o.type 42 i0 Tryz.underlying22 hi none 0 0 (Nat.le_refl _) (.slice none 0 c) (Src.ofNil w Tryz.underlying22 c)
      · rw [he]
        exact run_append_nothing (P := Tryz.prog) w 22 22 o.type 42 i0 Tryz.underlying22 hi _ _ _ hnc (.slice none 0 c) (Src.ofNil w Tryz.underlying22 c)
    unfold Oper.wp execOp
    simp only [ho, resolve, invoke, builtin, Sem.run_bind, Sem.run_pure, Result.andThen_ok, List.map_toArray, List.map_cons, List.map_nil, hs, hx', hr]
    exact hK _ _ (h _ _ hown ⟨rfl, rfl, rfl, Nat.le_refl _, fun _ _ _ => rfl⟩)
  | some ad =>
    refine wpList_append_own_at w hgd s x _ ho B 42 i0 zitm 8 72 Tryz.underlying22 hi hz0 hz1 hz2 rfl (by decide) v L.length (cellsI L) hs hown ad m.length c (cellsI m) hx (cellsI_len m) (itms_flat hT ad rfl) (cellsI_one m) (by unfold maxLen; omega) (by omega) hB (fun v' w' h1 h2 _ _ => ?_)
    refine h v' w' ?_ h2
    rw [List.length_append, cellsI_app]
    exact h1
end Go.Proofs.YtmeapijckncoeaaGreatDoor
