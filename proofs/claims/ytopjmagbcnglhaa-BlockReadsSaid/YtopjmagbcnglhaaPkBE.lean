/-
  Contracts: the code of lengths of lengths.
  Contracts: outer.
  Contracts: a row of lengths.
-/
import Derived.Test.YtopjmagbcnglhaaPkBD

namespace Go.Proofs.Ytopjmagbcnglhaa
set_option maxRecDepth 100000
open Go.RowKit Go.Deep Go.Joins

/-- A row of bytes as cells. -/
def rowB (n : Nat) (f : Nat → Nat) : Array Value := ((List.range n).map fun i => Value.int .u8 (f i : Nat)).toArray
theorem rowB_size (n : Nat) (f : Nat → Nat) : (rowB n f).size = n := by simp [rowB]
theorem rowB_at (n : Nat) (f : Nat → Nat) (i : Nat) (hi : i < n) : (rowB n f)[i]? = some (.int .u8 (f i : Nat)) := by
  unfold rowB
  simp [List.getElem?_range hi]
theorem rowB_ext (n : Nat) (f g : Nat → Nat) (h : ∀ i, i < n → f i = g i) : rowB n f = rowB n g := by
  unfold rowB
  congr 1
  apply List.map_congr_left
  intro i hi
  rw [h i (by simpa using hi)]
theorem rowB_set (n : Nat) (f : Nat → Nat) (k x : Nat) (hk : k < n) : (rowB n f).setIfInBounds k (.int .u8 (x : Nat)) = rowB n (fun i => if i = k then x else f i) := by
  apply Array.ext_getElem?
  intro i
  rw [Array.getElem?_setIfInBounds, rowB_size]
  by_cases hi : i < n
  · by_cases h : k = i
    · subst h
      rw [if_pos rfl, if_pos hi, rowB_at _ _ _ hi, if_pos rfl]
    · rw [if_neg h, rowB_at _ _ _ hi, rowB_at _ _ _ hi, if_neg (fun e => h e.symm)]
  · have hn : ∀ g : Nat → Nat, (rowB n g)[i]? = none := fun g => by rw [Array.getElem?_eq_none_iff, rowB_size]; omega
    rw [hn, hn]
    by_cases h : k = i
    · rw [if_pos h, if_neg (by omega)]
    · rw [if_neg h]
theorem rowB_made (n : Nat) : madeCells #[.int .u8 0] n = rowB n (fun _ => 0) := by
  apply Array.ext'
  rw [toList_madeCells_one]
  unfold rowB
  rw [List.map_const', List.length_range]
  rfl
def IsRowB (w : World) (g n : Nat) (f : Nat → Nat) : Prop := w.heap[g]? = some (.cells (rowB n f) 5 (0, 0))
section
variable {w w' : World} {g n : Nat} {f : Nat → Nat}
theorem IsRowB.cell (h : IsRowB w g n f) (i : Nat) (hi : i < n) : w.cell? ⟨g, i, none⟩ = some (.int .u8 (f i : Nat)) := by
  rw [cell_of_row w g i _ _ _ h, rowB_at n f i hi]
theorem IsRowB.frozen (h : IsRowB w g n f) (i : Nat) : w.frozen? ⟨g, i, none⟩ = false := frozen_of_row w g i _ _ h
theorem IsRowB.set (h : IsRowB w g n f) (k x : Nat) (hk : k < n) : IsRowB (w.setCell ⟨g, k, none⟩ (.int .u8 (x : Nat))) g n (fun i => if i = k then x else f i) := by
  have e := heap_setCell_same w g k _ _ (.int .u8 (x : Nat)) h
  rw [rowB_set n f k x hk] at e
  exact e
theorem IsRowB.ext {f' : Nat → Nat} (h : IsRowB w g n f) (e : ∀ i, i < n → f i = f' i) : IsRowB w g n f' := by
  unfold IsRowB at *
  rw [← rowB_ext n f f' e]
  exact h
theorem IsRowB.lens (h : IsRowB w g n f) (h256 : ∀ i, i < n → f i < 256) : Lens w (some ⟨g, 0, none⟩) n f := fun _ =>
  ⟨g, 0, rfl, lt_of_heap h, fun i hi => ⟨by rw [Nat.zero_add]; exact h.cell i hi, h256 i hi⟩⟩
end

/-- The 3-bit numbers from a place on. -/
def t3 (N a : Nat) : Nat → List Nat
  | 0 => []
  | k + 1 => t3 N a k ++ [bitsAt N (a + 3 * k) 3]
theorem t3_len (N a : Nat) : ∀ k, (t3 N a k).length = k
  | 0 => rfl
  | k + 1 => by rw [t3, List.length_append, t3_len N a k]; rfl
theorem t3_lt (N a : Nat) : ∀ k, ∀ x ∈ t3 N a k, x < 8
  | 0, x, h => by cases h
  | k + 1, x, h => by
    rw [t3, List.mem_append] at h
    rcases h with h | h
    · exact t3_lt N a k x h
    · simp at h
      subst h
      exact bitsAt_lt N _ 3
theorem threes_eq (src : Src) (a : Nat) (o : List Nat) : ∀ k, a ≤ src.L → threesM k src a o = if a + 3 * k ≤ src.L then .ok (t3 src.N a k, a + 3 * k, o) else .error 3
  | 0, h => by rw [if_pos (by omega)]; rfl
  | k + 1, h => by
    have ih := threes_eq src a o k h
    unfold threesM
    by_cases h1 : a + 3 * k ≤ src.L
    · rw [if_pos h1] at ih
      rw [bind_ok ih]
      by_cases h2 : a + 3 * (k + 1) ≤ src.L
      · rw [if_pos h2, bind_ok (show readM1 3 src (a + 3 * k) o = _ from if_pos (by omega))]
        unfold retM
        rw [t3, show a + 3 * k + 3 = a + 3 * (k + 1) by omega]
      · rw [if_neg h2, bind_err (show readM1 3 src (a + 3 * k) o = _ from if_neg (by omega))]
    · rw [if_neg h1] at ih
      rw [bind_err ih, if_neg (by omega)]
theorem ord_idx : ∀ k, k < 19 → ∀ j, j < 19 → (orderL.findIdx (· == j) = k ↔ j = orderL.getD k 0) := by decide +kernel
theorem ord_lt : ∀ k, k < 19 → orderL.getD k 0 < 19 := by decide
theorem outer_snoc (l : List Nat) (x j : Nat) (hl : l.length < 19) (hj : j < 19) : (if j = orderL.getD l.length 0 then x else (outerC l).ls j) = (outerC (l ++ [x])).ls j := by
  have hi := ord_idx l.length hl j hj
  show _ = (l ++ [x]).getD (orderL.findIdx (· == j)) 0
  by_cases e : j = orderL.getD l.length 0
  · rw [if_pos e, hi.2 e, List.getD_eq_getElem?_getD, List.getElem?_append_right (Nat.le_refl _), Nat.sub_self]
    rfl
  · rw [if_neg e]
    show l.getD (orderL.findIdx (· == j)) 0 = _
    have hne : orderL.findIdx (· == j) ≠ l.length := fun h => e (hi.1 h)
    generalize orderL.findIdx (· == j) = q at *
    rw [List.getD_eq_getElem?_getD, List.getD_eq_getElem?_getD]
    by_cases hq : q < l.length
    · rw [List.getElem?_append_left hq]
    · rw [List.getElem?_eq_none (by omega), List.getElem?_eq_none (by simp; omega)]
theorem outer_lt (l : List Nat) (h : ∀ x ∈ l, x < 8) (i : Nat) : (outerC l).ls i < 8 := by
  show l.getD (orderL.findIdx (· == i)) 0 < 8
  rw [List.getD_eq_getElem?_getD]
  cases hg : l[orderL.findIdx (· == i)]? with
  | none => simp
  | some x => exact h x (List.mem_of_getElem? hg)

def ordV : Array Value := (orderL.map fun x => Value.int .i64 (x : Nat)).toArray
theorem info_ord : (Try.prog.info? 121).map (·.size) = some 19 := by kernel_rfl
theorem ord_one : ordV.all (·.oneCell') = true := by kernel_rfl
def zeroA : Array Value := (List.replicate 19 (Value.int .i64 0)).toArray
theorem zero_arr (w : World) : (zeroValue 121).run Try.prog w = .ok (.agg zeroA) w := by kernel_rfl
theorem order_any (w : World) : Calls Try.prog 64 #[] w fun e w' => e = .returned (.agg ordV) ∧ Below w.heap.size w w' := by
  have hz := zero_arr
  go_enter Try.func64, Try.ntmps64
  go_wp2_with (refine wpList_store_row rfl 121 (.tmp 0) (.tmp 1) rfl w.heap.size ordV rfl rfl 121 zeroA (heap_alloc_new w _) info_ord rfl ord_one ?_)
  exact bodyPost_ret (results_cell_row rfl _ _ w.heap.size 121 ordV (0, 0) _ rfl (setRow_heap _ _ _ ordV _ _ (heap_alloc_new w _)) Try.underlying121 rfl info_ord) rfl ⟨rfl, below_setRow ((Below.refl _ _).alloc (Nat.le_refl _) _) (Nat.le_refl _) _⟩
end Go.Proofs.Ytopjmagbcnglhaa

namespace Go.Proofs.Ytopjmagbcnglhaa
set_option maxRecDepth 100000
open Go.RowKit Go.Deep Go.Joins

def ouOk (c : Cod) (r : Ending) (w' : World) : Prop := ∃ g, r = .returned (.tuple #[.pointer (some ⟨g, 0, none⟩), .int .i64 0]) ∧ CdC w' g c
def ouBad (e : Nat) (r : Ending) : Prop := r = .returned (.tuple #[.pointer none, .int .i64 (e : Nat)])
theorem made19 : madeCells #[.int .u8 0] 19 = rowB 19 (fun _ => 0) := rowB_made 19
theorem grown_new {w w1 : World} {row : Option Nat} (h : w.grownBy w1 row) {g : Nat} (hg : w.heap.size ≤ g) (i : Nat) (v : Value) : w.grownBy (w1.setCell ⟨g, i, none⟩ v) row :=
  ⟨h.os, h.tape, h.output, by simpa [World.setCell] using h.size, fun j hj hne => (Below.heap_setCell _ _ _ _ (show j ≠ g by omega)).trans (h.block j hj hne)⟩
theorem ord_at (k : Nat) (hk : k < 19) : ordV[k]? = some (.int .i64 (orderL.getD k 0 : Nat)) := by
  have : ∀ k, k < 19 → orderL[k]? = some (orderL.getD k 0) := by decide
  unfold ordV
  rw [List.getElem?_toArray, List.getElem?_map, this k hk]
  rfl
end Go.Proofs.Ytopjmagbcnglhaa

namespace Go.Proofs.Ytopjmagbcnglhaa
set_option maxRecDepth 100000
open Go.RowKit Go.Deep Go.Joins

def rwOk (B : Nat) (l : List Nat) (r : Ending) (w' : World) : Prop := (∃ A cap, r = .returned (.tuple #[.slice A l.length cap, .int .i64 0]) ∧ w'.ownsRow B 5 1 (.slice A l.length cap) l.length (cells8 l)) ∧ ∀ y ∈ l, y ≤ 15
def rwBad (e : Nat) (r : Ending) : Prop := r = .returned (.tuple #[.slice none 0 0, .int .i64 (e : Nat)])
theorem run_o {x : Nat} {row : List Nat} {src : Src} {a a1 : Nat} {o o1 : List Nat} {p : Nat × Nat} (h : runM x row src a o = .ok (p, a1, o1)) : o1 = o ∧ a ≤ a1 ∧ p.1 = (runOf x row).1 ∧ (runOf x row).2.1 ≤ p.2 ∧ p.2 < (runOf x row).2.1 + 2 ^ (runOf x row).2.2 := by
  by_cases h0 : x = 16 ∧ row.length = 0
  · unfold runM at h
    rw [if_pos h0] at h
    cases h
  · rw [run_eq x row _ h0 rfl] at h
    split at h
    · injection h with h
      cases h
      have := bitsAt_lt src.N a (runOf x row).2.2
      exact ⟨rfl, by omega, rfl, by simp, by simp; omega⟩
    · cases h
theorem run_le (x : Nat) (row : List Nat) (hx : x < 19) (h15 : ∀ y ∈ row, y ≤ 15) : (runOf x row).1 ≤ 15 ∧ 1 ≤ (runOf x row).2.1 ∧ (runOf x row).2.1 + 2 ^ (runOf x row).2.2 ≤ 139 := by
  unfold runOf
  split
  · refine ⟨?_, by show 1 ≤ 3; omega, by show 3 + 2 ^ 2 ≤ 139; omega⟩
    show row.getD (row.length - 1) 0 ≤ 15
    rw [List.getD_eq_getElem?_getD]
    cases hg : row[row.length - 1]? with
    | none => simp
    | some y => exact h15 y (List.mem_of_getElem? hg)
  · split
    · exact ⟨by decide, by decide, by decide⟩
    · split
      · exact ⟨by decide, by decide, by decide⟩
      · exact ⟨by show x ≤ 15; omega, by show 1 ≤ 1; omega, by show 1 + 2 ^ 0 ≤ 139; omega⟩

end Go.Proofs.Ytopjmagbcnglhaa
