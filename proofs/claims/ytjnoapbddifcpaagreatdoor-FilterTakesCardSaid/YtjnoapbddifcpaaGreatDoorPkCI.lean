/-
  Actions: their cells, where they lie; what is there behind actions, by mathematics; how many there are of each kind.
  Plan: Result, of the program and of the document.
  Plan: actions as the document's; how many there are of each kind, on both sides.
  Plan: the chapter's example, first half: no entries, one item, no patterns.
  Compare: the paths of any entries.
  Compare: the first items of any entries' paths.
  Compare: what an entry is to an item.
-/
import Derived.Test.YtjnoapbddifcpaaGreatDoorPkCH
import Derived.BigQuiet
import Derived.Deep.Cut
import Derived.Deep.CutBlock
import Derived.Deep.CutRange
import Derived.Lib.LazyBuf
import Derived.Maps.OwnSet
import Derived.StringKeys
import Derived.Test.YtjnoapbddifcpaaGreatDoorPkBG
import Derived.Test.YtjnoapbddifcpaaGreatDoorPkBA

namespace Go.Proofs.YtjnoapbddifcpaaGreatDoor
set_option maxRecDepth 100000
set_option linter.unusedSimpArgs false
set_option linter.unusedVariables false
open Go.RowKit Go.Joins Go.Deep
/-- An action. -/
structure Act3 where
  k : Int
  e : Int
  i : Int
instance : Inhabited Act3 := ⟨⟨0, 0, 0⟩⟩
def Act3.cells (x : Act3) : Array Value := #[.int .i64 x.k, .int .i64 x.e, .int .i64 x.i]
def Act3.cellsL (x : Act3) : List Value := [.int .i64 x.k, .int .i64 x.e, .int .i64 x.i]
/-- Actions in memory. -/
def Acts3 (w : World) (A : Option Addr) (l : List Act3) : Prop := 0 < l.length → ∃ b off, A = some ⟨b, off, none⟩ ∧ b < w.heap.size ∧ ∀ (k : Nat) x, l[k]? = some x →
  w.cell? ⟨b, off + k * 3, none⟩ = some (.int .i64 x.k) ∧ w.cell? ⟨b, off + k * 3 + 1, none⟩ = some (.int .i64 x.e) ∧ w.cell? ⟨b, off + k * 3 + 2, none⟩ = some (.int .i64 x.i)
theorem Acts3.below {w w' : World} {A : Option Addr} {l : List Act3} (h : Acts3 w A l) (hb : Below w.heap.size w w') : Acts3 w' A l := fun h0 => by
  obtain ⟨b, off, e, hlt, hc⟩ := h h0
  refine ⟨b, off, e, Nat.lt_of_lt_of_le hlt hb.size, fun k x hx => ?_⟩
  obtain ⟨c0, c1, c2⟩ := hc k x hx
  exact ⟨(hb.cell hlt).trans c0, (hb.cell hlt).trans c1, (hb.cell hlt).trans c2⟩
theorem Acts3.nil (w : World) (A : Option Addr) : Acts3 w A [] := fun h => absurd h (by decide)
def cellsQ : List Act3 → List Value
  | [] => []
  | x :: l => .int .i64 x.k :: .int .i64 x.e :: .int .i64 x.i :: cellsQ l
/-- The item that stands at a place, if there is one. -/
def atQ (l : List Itm) (p : Int) : List Itm := if 0 ≤ p ∧ p < l.length then (l[p.toNat]?).toList else []
/-- What an action leaves. -/
def actR (E T : List Itm) (a : Act3) : List Itm := if a.k = 1 then atQ E a.e else if a.k = 2 ∨ a.k = 4 then atQ T a.i else []
def resL (E T : List Itm) (l : List Act3) : List Itm := l.flatMap (actR E T)
/-- How many there are of a kind. -/
def cntK (l : List Act3) (k : Int) : Nat := (l.filter fun a => a.k == k).length
def cntV (l : List Act3) : Array Value := #[.int .i64 0, .int .i64 (cntK l 1 : Nat), .int .i64 (cntK l 2 : Nat), .int .i64 (cntK l 3 : Nat), .int .i64 (cntK l 4 : Nat)]
end Go.Proofs.YtjnoapbddifcpaaGreatDoor

namespace Go.Proofs.YtjnoapbddifcpaaGreatDoor
set_option maxRecDepth 100000
set_option linter.unusedSimpArgs false
set_option linter.unusedVariables false
open Go.RowKit Go.Joins Go.Deep
theorem lt_of_heapP {w : World} {g : Nat} {o : Obj} (h : w.heap[g]? = some o) : g < w.heap.size := (Array.getElem?_eq_some_iff.1 h).1
theorem below_alP (w : World) (o : Obj) : Below w.heap.size w (w.alloc o) := (Below.refl _ _).alloc (Nat.le_refl _) o
/-- A row of items of one's own, while it grows. -/
def RowI (w wr : World) (v : Value) (o : List Itm) : Prop := wr.ownsRow w.heap.size 73 8 v o.length (cellsI o) ∧ Below w.heap.size w wr
theorem RowI.below {w wr w' : World} {v : Value} {o : List Itm} (h : RowI w wr v o) (hb : Below wr.heap.size wr w') : RowI w w' v o := by
  refine ⟨h.1.kept (row := none) ⟨hb.os, hb.tape, hb.output, hb.size, fun i hi _ => hb.block i hi⟩ ?_, below_then h.2 hb⟩
  cases v.ownBlock with
  | none => exact .inl rfl
  | some g => exact .inr (by simp)
theorem RowI.drewN {w wr : World} {v : Value} {o : List Itm} (h : RowI w wr v o) (n : Nat) : RowI w (wr.drewN n) v o := ⟨h.1, below_drewN h.2 n⟩
end Go.Proofs.YtjnoapbddifcpaaGreatDoor

namespace Go.Proofs.YtjnoapbddifcpaaGreatDoor
set_option maxRecDepth 100000
set_option linter.unusedSimpArgs false
set_option linter.unusedVariables false
open Go.RowKit Go.Joins Go.Deep
def RowA (w wr : World) (v : Value) (o : List Act3) : Prop := wr.ownsRow w.heap.size 64 3 v o.length (cellsQ o) ∧ Below w.heap.size w wr
theorem RowA.below {w wr w' : World} {v : Value} {o : List Act3} (h : RowA w wr v o) (hb : Below wr.heap.size wr w') : RowA w w' v o := by
  refine ⟨h.1.kept (row := none) ⟨hb.os, hb.tape, hb.output, hb.size, fun i hi _ => hb.block i hi⟩ ?_, below_then h.2 hb⟩
  cases v.ownBlock with
  | none => exact .inl rfl
  | some g => exact .inr (by simp)
/-- Five numbers, the first 0. -/
def cv5 (a b c d : Nat) : Array Value := #[.int .i64 0, .int .i64 (a : Nat), .int .i64 (b : Nat), .int .i64 (c : Nat), .int .i64 (d : Nat)]
/-- The counts of the first k actions. -/
def CntIs (l : List Act3) (k a b c d : Nat) : Prop := cntK (l.take k) 1 = a ∧ cntK (l.take k) 2 = b ∧ cntK (l.take k) 3 = c ∧ cntK (l.take k) 4 = d ∧ a ≤ k ∧ b ≤ k ∧ c ≤ k ∧ d ≤ k
end Go.Proofs.YtjnoapbddifcpaaGreatDoor

namespace Go.Proofs.YtjnoapbddifcpaaGreatDoor
set_option maxRecDepth 100000
set_option linter.unusedSimpArgs false
set_option linter.unusedVariables false
open Go.RowKit Go.Joins Go.Deep Go.WideMaps
/-- The example's item. -/
def itA : Itm := ⟨⟨#[97]⟩, 2, 0, 0, 0, 0, 0, ⟨#[]⟩⟩
/-! ### No patterns -/
end Go.Proofs.YtjnoapbddifcpaaGreatDoor

namespace Go.Proofs.YtjnoapbddifcpaaGreatDoor
set_option maxRecDepth 100000
set_option linter.unusedSimpArgs false
set_option linter.unusedVariables false
open Go.RowKit Go.Joins Go.Deep Go.WideMaps
open Go.Lib hiding intOf
theorem own_keepP {w w' : World} {base size n : Nat} {e : TypeId} {v : Value} {xs : List Value} (h : w.ownsRow base e size v n xs) (hb : Below w.heap.size w w') : w'.ownsRow base e size v n xs :=
  h.kept (row := none) ⟨hb.os, hb.tape, hb.output, hb.size, fun i hi _ => hb.block i hi⟩ (by cases hv : v.ownBlock <;> simp)
theorem chkV_sz (s : ByteArray) : (chkV s).1.size ≤ 65535 := by
  unfold chkV
  split
  · exact Nat.zero_le _
  · split
    · exact Nat.zero_le _
    · rename_i h1 h2
      have := readN_small (Classical.not_not.1 h1)
      have := path_le s
      show (pathB s).size ≤ _
      omega
theorem metV_sz (E : Ent) : (metV E).p.size ≤ 65535 := by
  have hp : (patV (flL E ++ flC E) E).1.size ≤ 65535 := by
    unfold patV
    split
    · exact chkV_sz _
    · exact Nat.zero_le _
  unfold metV
  split
  · split
    · split
      · split
        · split
          · exact hp
          · exact Nat.zero_le _
        · exact Nat.zero_le _
      · exact Nat.zero_le _
    · exact Nat.zero_le _
  · exact Nat.zero_le _
/-- The paths of entries. -/
noncomputable def pthL (l : List Ent) : List ByteArray := l.map fun E => (metV E).p
/-- Entries that are light, in a world with the library's tables. -/
def LightL (l : List Ent) : Prop := ∀ E ∈ l, EntOk E ∧ E.nm.size ≤ 100000
/-- What Paths answers. -/
def PthR (w : World) (l : List Ent) (e : Ending) (w' : World) : Prop :=
  (∃ z, z ≠ 0 ∧ e = .returned (.tuple #[.slice none 0 0, .int .i64 z]) ∧ Below w.heap.size w w') ∨
  (∃ A c, (∀ E ∈ l, (metV E).z = 0) ∧ e = .returned (.tuple #[.slice A l.length c, .int .i64 0]) ∧ TxS w' A (pthL l) ∧ Below w.heap.size w w')
end Go.Proofs.YtjnoapbddifcpaaGreatDoor

namespace Go.Proofs.YtjnoapbddifcpaaGreatDoor
set_option maxRecDepth 100000
set_option linter.unusedSimpArgs false
set_option linter.unusedVariables false
open Go.RowKit Go.Joins Go.Deep Go.WideMaps
open Go.Lib hiding intOf
abbrev keyP (s : ByteArray) : Lit := .string s.data.toList
/-- The place of the first item of a path. -/
def plcO (t : List Itm) (p : ByteArray) : Option Nat := t.findIdx? fun x => x.s.toList == p.toList
def plcI (t : List Itm) (p : ByteArray) : Int := match plcO t p with | some i => (i : Nat) | none => -1
/-- What a map of places tells. -/
def PlD (D : DataW Unit) (t : List Itm) : Prop := Maps.IsMap D ∧ (∀ p, Maps.has D (keyP p) = (plcO t p).isSome) ∧ (∀ p i, plcO t p = some i → ∀ z, D.atKey (keyP p) z = .lit (.int .i64 (i : Nat)))
theorem wf_i64 {x : Int} (h1 : -9223372036854775808 ≤ x) (h2 : x ≤ 9223372036854775807) : (Lit.int .i64 x).wf = true := by
  have e1 : IntKind.i64.min = -9223372036854775808 := by decide
  have e2 : IntKind.i64.max = 9223372036854775807 := by decide
  simp only [Lit.wf, e1, e2]
  simp [h1, h2]
/-- Numbers where they lie. -/
def IntW (w : World) (A : Option Addr) (l : List Int) : Prop := 0 < l.length → ∃ b off, A = some ⟨b, off, none⟩ ∧ b < w.heap.size ∧ ∀ (i : Nat) x, l[i]? = some x → w.cell? ⟨b, off + i, none⟩ = some (.int .i64 x)
theorem IntW.below {w w' : World} {A : Option Addr} {l : List Int} (h : IntW w A l) (hb : Below w.heap.size w w') : IntW w' A l := fun h0 => by
  obtain ⟨b, off, e, hlt, hc⟩ := h h0
  exact ⟨b, off, e, Nat.lt_of_lt_of_le hlt hb.size, fun i x hx => (hb.cell (p := ⟨b, off + i, none⟩) hlt).trans (hc i x hx)⟩
theorem ints_own {w : World} {B : Nat} {l : List Int} {v : Value} (h : w.ownsRow B 3 1 v l.length (l.map (Value.int .i64))) : ∃ A c, v = .slice A l.length c ∧ IntW w A l := by
  rcases h.2 with ⟨he, h0⟩ | ⟨g, cap, cur, he, hbg, _⟩
  · exact ⟨none, 0, by rw [he, h0], fun hp => by omega⟩
  · refine ⟨some ⟨g, 0, none⟩, cap, he, fun hp => ⟨g, 0, rfl, ?_, fun i x hx => ?_⟩⟩
    · rw [he] at h; exact (h.lt g rfl).2
    · rw [he] at h
      have hi : i < l.length := (List.getElem?_eq_some_iff.1 hx).1
      have hc := h.cellAt i (by omega)
      rw [Nat.zero_add, hc, List.getElem?_map, hx]
      rfl
noncomputable def matL (l : List Ent) (t : List Itm) : List Int := (pthL l).map (plcI t)
/-- What Match answers. -/
def MatR (w : World) (l : List Ent) (t : List Itm) (e : Ending) (w' : World) : Prop :=
  (∃ z, z ≠ 0 ∧ e = .returned (.tuple #[.slice none 0 0, .int .i64 z]) ∧ Below w.heap.size w w') ∨
  (∃ A c, (∀ E ∈ l, (metV E).z = 0) ∧ e = .returned (.tuple #[.slice A l.length c, .int .i64 0]) ∧ IntW w' A (matL l t) ∧ Below w.heap.size w w')
theorem int_news (w : World) (x : Int) : ∀ j u, [Value.int .i64 x][j]? = some u → (w.alloc (.cells #[.int .i64 x] 3)).cell? ((⟨w.heap.size, 0, none⟩ : Addr).add j) = some u := fun j u hj => by
  rw [Addr.add_lit, Nat.zero_add, cell_of_row _ _ j _ _ _ (heap_alloc_new w _)]
  simpa using hj
end Go.Proofs.YtjnoapbddifcpaaGreatDoor

namespace Go.Proofs.YtjnoapbddifcpaaGreatDoor
set_option maxRecDepth 100000
set_option linter.unusedSimpArgs false
set_option linter.unusedVariables false
open Go.RowKit Go.Joins Go.Deep
open Go.Lib hiding intOf
theorem below_two (w : World) (a b : Obj) : Below w.heap.size w ((w.alloc a).alloc b) := below_thenE (below_alP w a) (below_alP (w.alloc a) b)
theorem size_one' (w : World) (a : Obj) : (w.alloc a).heap.size = w.heap.size + 1 := by simp only [World.alloc, Array.size_push]
theorem two_first (w : World) (a b : Obj) : ((w.alloc a).alloc b).heap[w.heap.size]? = some a := ((below_alP (w.alloc a) b).block _ (lt_of_heapP (heap_alloc_new w a))).trans (heap_alloc_new w a)
theorem two_second (w : World) (a b : Obj) : ((w.alloc a).alloc b).heap[w.heap.size + 1]? = some b := by rw [← size_one' w a]; exact heap_alloc_new _ b
def trC (p : ByteArray) (k : Int) (s : Int) (t : Int) : Array Value := #[.string p, .int .i64 k, .int .u64 s, .int .i64 t]
/-- What an entry is to an item, and an error. -/
noncomputable def cmpV (E : Ent) (X : Itm) : Int × Int :=
  if (metV E).z = 0 then
    (if (metV E).p = X.s then
      (if (metV E).k = X.k ∧ E.size = X.d.size ∧ (metV E).t = X.t then (1, 0)
      else if (metV E).t < X.t then (2, 0) else if X.t < (metV E).t then (3, 0) else (4, 0))
    else (0, 0))
  else (0, (metV E).z)
end Go.Proofs.YtjnoapbddifcpaaGreatDoor
