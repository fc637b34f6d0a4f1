/-
  Actions: their cells, where they lie; what is there behind actions, by mathematics; how many there are of each kind.
-/
import Derived.Test.YtkcckhnmljckaaaGreatDoorItC
namespace Go.Proofs.YtkcckhnmljckaaaGreatDoor
set_option maxRecDepth 100000
set_option linter.unusedSimpArgs false
set_option linter.unusedVariables false
open Go.RowKit Go.Joins Go.Deep
/-- An action. -/
structure Act3 where
  k : Int
  e : Int
  i : Int
instance : Inhabited Act3 := ⟨⟨0, 0, 0⟩⟩
def Act3.cells (x : Act3) : Array Value := #[.int .i64 x.k, .int .i64 x.e, .int .i64 x.i]
def Act3.cellsL (x : Act3) : List Value := [.int .i64 x.k, .int .i64 x.e, .int .i64 x.i]
/-- Actions in memory. -/
def Acts3 (w : World) (A : Option Addr) (l : List Act3) : Prop := 0 < l.length → ∃ b off, A = some ⟨b, off, none⟩ ∧ b < w.heap.size ∧ ∀ (k : Nat) x, l[k]? = some x →
  w.cell? ⟨b, off + k * 3, none⟩ = some (.int .i64 x.k) ∧ w.cell? ⟨b, off + k * 3 + 1, none⟩ = some (.int .i64 x.e) ∧ w.cell? ⟨b, off + k * 3 + 2, none⟩ = some (.int .i64 x.i)
theorem Acts3.below {w w' : World} {A : Option Addr} {l : List Act3} (h : Acts3 w A l) (hb : Below w.heap.size w w') : Acts3 w' A l := fun h0 => by
  obtain ⟨b, off, e, hlt, hc⟩ := h h0
  refine ⟨b, off, e, Nat.lt_of_lt_of_le hlt hb.size, fun k x hx => ?_⟩
  obtain ⟨c0, c1, c2⟩ := hc k x hx
  exact ⟨(hb.cell hlt).trans c0, (hb.cell hlt).trans c1, (hb.cell hlt).trans c2⟩
theorem Acts3.nil (w : World) (A : Option Addr) : Acts3 w A [] := fun h => absurd h (by decide)
def cellsA : List Act3 → List Value
  | [] => []
  | x :: l => .int .i64 x.k :: .int .i64 x.e :: .int .i64 x.i :: cellsA l
theorem cellsA_app (l m : List Act3) : cellsA (l ++ m) = cellsA l ++ cellsA m := by
  induction l with
  | nil => rfl
  | cons x l ih => simp only [List.cons_append, cellsA, ih]
theorem cellsA_len (l : List Act3) : (cellsA l).length = l.length * 3 := by
  induction l with
  | nil => rfl
  | cons x l ih => simp only [cellsA, List.length_cons, ih]; omega
theorem cellsA_get : ∀ (l : List Act3) (i : Nat) (x : Act3), l[i]? = some x → (cellsA l)[i * 3]? = some (.int .i64 x.k) ∧ (cellsA l)[i * 3 + 1]? = some (.int .i64 x.e) ∧ (cellsA l)[i * 3 + 2]? = some (.int .i64 x.i)
  | y :: l, 0, x, h => by injection h with h; subst h; exact ⟨rfl, rfl, rfl⟩
  | y :: l, i + 1, x, h => by
    have := cellsA_get l i x (by simpa using h)
    rw [show (i + 1) * 3 = i * 3 + 3 by omega, show i * 3 + 3 + 1 = i * 3 + 1 + 3 by omega, show i * 3 + 3 + 2 = i * 3 + 2 + 3 by omega]
    simpa [cellsA] using this
  | [], i, x, h => by cases h
theorem acts_of_own {w : World} {B : Nat} {A : Option Addr} {cap : Nat} {T : TypeId} {l : List Act3} (h : w.ownsRow B T 3 (.slice A l.length cap) l.length (cellsA l)) : Acts3 w A l := by
  intro hn
  rcases ownsRow_forms h with ⟨he, h0⟩ | ⟨g2, cap2, he⟩
  · omega
  · injection he with he _ _
    subst he
    have hlt := (h.lt g2 rfl).2
    refine ⟨g2, 0, rfl, hlt, fun i x hx => ?_⟩
    have hi : i < l.length := (List.getElem?_eq_some_iff.1 hx).1
    obtain ⟨g0, g1, g3⟩ := cellsA_get l i x hx
    have c0 := h.cellAt (i * 3) (by omega)
    have c1 := h.cellAt (i * 3 + 1) (by omega)
    have c2 := h.cellAt (i * 3 + 2) (by omega)
    rw [g0] at c0
    rw [g1] at c1
    rw [g3] at c2
    rw [Nat.zero_add]
    exact ⟨c0, c1, c2⟩
theorem itms_of_own {w : World} {B : Nat} {A : Option Addr} {cap : Nat} {T : TypeId} {l : List Itm} (h : w.ownsRow B T 8 (.slice A l.length cap) l.length (cellsI l)) : Itms w A l := by
  rcases ownsRow_forms h with ⟨he, h0⟩ | ⟨g2, cap2, he⟩
  · intro hn; omega
  · injection he with he _ _
    subst he
    exact (io_of_own h).itms
/-- The item that stands at a place, if there is one. -/
def atI (l : List Itm) (p : Int) : List Itm := if 0 ≤ p ∧ p < l.length then (l[p.toNat]?).toList else []
theorem atI_in {l : List Itm} {p : Int} (h0 : 0 ≤ p) (h1 : p < l.length) : ∃ (n : Nat) (h : n < l.length), p = (n : Int) ∧ atI l p = [l[n]] := by
  refine ⟨p.toNat, by omega, by omega, ?_⟩
  unfold atI
  rw [if_pos ⟨h0, h1⟩, List.getElem?_eq_getElem (by omega)]
  rfl
theorem atI_out {l : List Itm} {p : Int} (h : ¬ (0 ≤ p ∧ p < l.length)) : atI l p = [] := if_neg h
/-- What an action leaves. -/
def actR (E T : List Itm) (a : Act3) : List Itm := if a.k = 1 then atI E a.e else if a.k = 2 ∨ a.k = 4 then atI T a.i else []
def resL (E T : List Itm) (l : List Act3) : List Itm := l.flatMap (actR E T)
theorem resL_snoc (E T : List Itm) (l : List Act3) (k : Nat) (h : k < l.length) : resL E T (l.take (k + 1)) = resL E T (l.take k) ++ actR E T l[k] := by
  unfold resL
  rw [List.take_succ_eq_append_getElem h, List.flatMap_append]
  congr 1
  simp
theorem actR_len (E T : List Itm) (a : Act3) : (actR E T a).length ≤ 1 := by
  have h : ∀ l p, (atI l p).length ≤ 1 := fun l p => by
    unfold atI
    split
    · cases l[p.toNat]? <;> simp
    · simp
  unfold actR
  split
  · exact h _ _
  · split
    · exact h _ _
    · simp
theorem resL_len (E T : List Itm) (l : List Act3) : (resL E T l).length ≤ l.length := by
  induction l with
  | nil => exact Nat.zero_le _
  | cons a l ih =>
    have := actR_len E T a
    unfold resL at *
    rw [List.flatMap_cons, List.length_append, List.length_cons]
    omega
/-- How many there are of a kind. -/
def cntK (l : List Act3) (k : Int) : Nat := (l.filter fun a => a.k == k).length
theorem cntK_snoc (l : List Act3) (j : Nat) (h : j < l.length) (k : Int) : cntK (l.take (j + 1)) k = cntK (l.take j) k + (if l[j].k = k then 1 else 0) := by
  unfold cntK
  rw [List.take_succ_eq_append_getElem h, List.filter_append, List.length_append]
  congr 1
  by_cases hk : l[j].k = k
  · rw [if_pos hk, List.filter_cons_of_pos (by simpa using hk)]; rfl
  · rw [if_neg hk, List.filter_cons_of_neg (by simpa using hk)]; rfl
theorem cntK_le (l : List Act3) (k : Int) : cntK l k ≤ l.length := List.length_filter_le _ _
def cntV (l : List Act3) : Array Value := #[.int .i64 0, .int .i64 (cntK l 1 : Nat), .int .i64 (cntK l 2 : Nat), .int .i64 (cntK l 3 : Nat), .int .i64 (cntK l 4 : Nat)]
end Go.Proofs.YtkcckhnmljckaaaGreatDoor
