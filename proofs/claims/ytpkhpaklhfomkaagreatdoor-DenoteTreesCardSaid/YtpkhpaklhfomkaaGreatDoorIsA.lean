/-
  A stable sort of items: the row by places, what compares.
-/
import Derived.Test.YtpkhpaklhfomkaaGreatDoorIsM
import Derived.Test.YtpkhpaklhfomkaaGreatDoorItA
import Derived.BigQuiet
import Derived.Deep.RegionHeld3
import Derived.Deep.Cut
import Derived.Deep.CutBlock
namespace Go.Proofs.YtpkhpaklhfomkaaGreatDoor.Is
set_option maxRecDepth 100000
set_option linter.unusedSimpArgs false
set_option linter.unusedVariables false
open Go.RowKit Go.Joins Go.Deep
/-- The items' own row, by places. -/
def SnO (T : Nat → Itm) (w : World) (base gd m cap : Nat) (S : List Nat) : Prop := S.length = m ∧ IO w gd (S.map T)
theorem SnO.get {T : Nat → Itm} {w : World} {base gd m cap : Nat} {S : List Nat} (h : SnO T w base gd m cap S) (k : Nat) (hk : k < m) : (S.map T)[k]? = some (T (at0 S k)) := by
  rw [List.getElem?_map, at0, List.getElem?_eq_getElem (by rw [h.1]; exact hk)]
  rfl
theorem SnO.range {T : Nat → Itm} {w : World} {base gd m cap : Nat} {S : List Nat} (h : SnO T w base gd m cap S) (k : Nat) (hk : k < m) : w.rangeAt gd (k * 8) (T (at0 S k)).cellsL := (h.2.2 k _ (h.get k hk)).1
theorem SnO.there {T : Nat → Itm} {w : World} {base gd m cap : Nat} {S : List Nat} (h : SnO T w base gd m cap S) (k : Nat) (hk : k < m) : w.there gd (k * 8) 8 := (h.2.2 k _ (h.get k hk)).2
/-- An item's eight cells. -/
def C8 (w : World) (g o : Nat) (x : Itm) : Prop := w.cell? ⟨g, o, none⟩ = some (.string x.s) ∧ w.cell? ⟨g, o + 1, none⟩ = some (.int .i64 x.k) ∧ w.cell? ⟨g, o + 2, none⟩ = some (.int .u32 x.m) ∧ w.cell? ⟨g, o + 3, none⟩ = some (.int .u32 x.u) ∧ w.cell? ⟨g, o + 4, none⟩ = some (.int .u32 x.g) ∧ w.cell? ⟨g, o + 5, none⟩ = some (.int .i64 x.t) ∧ w.cell? ⟨g, o + 6, none⟩ = some (.int .i64 x.a) ∧ w.cell? ⟨g, o + 7, none⟩ = some (.string x.d)
theorem SnO.c8 {T : Nat → Itm} {w : World} {base gd m cap : Nat} {S : List Nat} (h : SnO T w base gd m cap S) (k : Nat) (hk : k < m) : C8 w gd (k * 8) (T (at0 S k)) := by
  have hr := h.range k hk
  exact ⟨hr 0 _ rfl, hr 1 _ rfl, hr 2 _ rfl, hr 3 _ rfl, hr 4 _ rfl, hr 5 _ rfl, hr 6 _ rfl, hr 7 _ rfl⟩
theorem SnO.drewN {T : Nat → Itm} {w : World} {base gd m cap : Nat} {S : List Nat} (h : SnO T w base gd m cap S) (d : Nat) : SnO T (w.drewN d) base gd m cap S := h
theorem SnO.drew {T : Nat → Itm} {w : World} {base gd m cap : Nat} {S : List Nat} (h : SnO T w base gd m cap S) : SnO T w.drew base gd m cap S := h
theorem SnO.below {T : Nat → Itm} {w w' : World} {base gd m cap : Nat} {S : List Nat} (h : SnO T w base gd m cap S) (hb : Below w.heap.size w w') : SnO T w' base gd m cap S := ⟨h.1, h.2.below hb⟩
theorem SnO.swap {T : Nat → Itm} {w : World} {base gd m cap : Nat} {S : List Nat} (h : SnO T w base gd m cap S) (i j : Nat) (hi : i < m) (hj : j < m) :
    SnO T ((w.setCells gd (i * 8) (T (at0 S j)).cellsL).setCells gd (j * 8) (T (at0 S i)).cellsL) base gd m cap (swp S i j) := by
  refine ⟨by simp [swp, h.1], ?_⟩
  have h1 := h.2.store i (T (at0 S j)) (by rw [List.length_map, h.1]; exact hi)
  have h2 := h1.store j (T (at0 S i)) (by rw [List.length_set, List.length_map, h.1]; exact hj)
  unfold swp
  rw [List.map_set, List.map_set]
  exact h2
theorem gdrewN (w : World) (d : Nat) (row : Option Nat) : w.grownBy (w.drewN d) row := ⟨rfl, rfl, rfl, Nat.le_refl _, fun _ _ _ => rfl⟩
theorem gset2 {a w : World} {b : Nat} (h : a.grownBy w (some b)) (i : Nat) (v : Value) : a.grownBy (w.setCell ⟨b, i, none⟩ v) (some b) :=
  ⟨h.os, h.tape, h.output, by simp; exact h.size, fun k hk hne => (Below.heap_setCell w _ v k (fun e => hne (by rw [e]))).trans (h.block k hk hne)⟩
theorem gsetC {a : World} {b : Nat} : ∀ (vs : List Value) (o : Nat) (w : World), a.grownBy w (some b) → a.grownBy (w.setCells b o vs) (some b)
  | [], _, _, h => h
  | v :: r, o, w, h => by rw [World.setCells]; exact gsetC r (o + 1) _ (gset2 h o v)
theorem gdrew {a w : World} {row : Option Nat} (h : a.grownBy w row) (d : Nat) : a.grownBy (w.drewN d) row := ⟨h.os, h.tape, h.output, h.size, h.block⟩
theorem gdrew1 {a w : World} {row : Option Nat} (h : a.grownBy w row) : a.grownBy w.drew row := ⟨h.os, h.tape, h.output, h.size, h.block⟩
theorem gbel {a w w' : World} {row : Option Nat} (h : a.grownBy w row) (hb : Below w.heap.size w w') : a.grownBy w' row :=
  ⟨hb.os.trans h.os, hb.tape.trans h.tape, hb.output.trans h.output, Nat.le_trans h.size hb.size, fun k hk hne => (hb.block k (Nat.lt_of_lt_of_le hk h.size)).trans (h.block k hk hne)⟩
theorem gtrans {w w1 w2 : World} {row : Option Nat} (h : w.grownBy w1 row) (k : w1.grownBy w2 row) : w.grownBy w2 row :=
  ⟨k.os.trans h.os, k.tape.trans h.tape, k.output.trans h.output, Nat.le_trans h.size k.size, fun i hi hne => (k.block i (Nat.lt_of_lt_of_le hi h.size) hne).trans (h.block i hi hne)⟩
/-- What compares, in every world that the sort passes. -/
def CmpAt (T : Nat → Itm) (cm : Nat → Nat → Int) (w : World) (gd pc n : Nat) : Prop := ∀ w1, w.grownBy w1 (some gd) → ∀ a b, a < n → b < n →
  Calls Tryz.prog 52 #[.agg (T a).cells, .agg (T b).cells] w1 fun e w' => e = .returned (.int .i64 (cm a b)) ∧ Below w1.heap.size w1 w'
/-- .. it tells of a later place whether it stands ahead of an earlier one. -/
def CmpOk (T : Nat → Itm) (w : World) (gd pc n : Nat) (f : Nat → Nat) : Prop := ∃ cm : Nat → Nat → Int, (∀ a b, a < n → b < n → b < a → (cm a b < 0 ↔ f a < f b)) ∧ CmpAt T cm w gd pc n
theorem CmpAt.grown {T : Nat → Itm} {w w1 : World} {gd pc n : Nat} {cm : Nat → Nat → Int} (h : CmpAt T cm w gd pc n) (hg : w.grownBy w1 (some gd)) : CmpAt T cm w1 gd pc n := fun w2 hg2 => h w2 (gtrans hg hg2)
theorem CmpOk.grown {T : Nat → Itm} {w w1 : World} {gd pc n : Nat} {f : Nat → Nat} (h : CmpOk T w gd pc n f) (hg : w.grownBy w1 (some gd)) : CmpOk T w1 gd pc n f := by
  obtain ⟨cm, h1, h2⟩ := h
  exact ⟨cm, h1, h2.grown hg⟩
end Go.Proofs.YtpkhpaklhfomkaaGreatDoor.Is
