/-
  The document's headers: sums of widths, rows of numbers.
-/
import Derived.Test.YtlojhklhhdgkcaaHdD
import Derived.Laws.OwnMore
import Derived.Laws.AppendOwn
namespace Go.Proofs.Ytlojhklhhdgkcaa
set_option maxRecDepth 100000
set_option linter.unusedSimpArgs false
open Go.RowKit Go.Joins Go.Deep Go.Op

/-- What a slice of numbers holds. -/
def RdI (w : World) (K : IntKind) (A : Option Addr) (l : List Nat) : Prop := 0 < l.length → ∃ g, A = some ⟨g, 0, none⟩ ∧ g < w.heap.size ∧ ∀ (i x : Nat), l[i]? = some x → w.cell? ⟨g, i, none⟩ = some (.int K (x : Nat))
theorem RdI.below {w w' : World} {K : IntKind} {A : Option Addr} {l : List Nat} (h : RdI w K A l) (hb : Below w.heap.size w w') : RdI w' K A l := fun h0 => by
  obtain ⟨g, e, hlt, hc⟩ := h h0
  exact ⟨g, e, Nat.lt_of_lt_of_le hlt hb.size, fun i x hx => (hb.cell (p := ⟨g, i, none⟩) hlt).trans (hc i x hx)⟩
theorem RdI.drewN {w : World} {K : IntKind} {A : Option Addr} {l : List Nat} (h : RdI w K A l) (n : Nat) : RdI (w.drewN n) K A l := h
theorem RdI.at {w : World} {K : IntKind} {g : Nat} {l : List Nat} (h : RdI w K (some ⟨g, 0, none⟩) l) {i x : Nat} (hx : l[i]? = some x) : w.cell? ⟨g, i, none⟩ = some (.int K (x : Nat)) := by
  obtain ⟨g', e, _, hc⟩ := h (List.length_pos_of_mem (List.mem_of_getElem? hx))
  injection e with e
  injection e with e
  subst e
  exact hc i x hx
def cellsK (K : IntKind) (l : List Nat) : List Value := l.map fun x => Value.int K (x : Nat)
theorem cellsK_app (K : IntKind) (l m : List Nat) : cellsK K (l ++ m) = cellsK K l ++ cellsK K m := by simp [cellsK]
theorem cellsK_len (K : IntKind) (l : List Nat) : (cellsK K l).length = l.length := by simp [cellsK]
theorem RdI.of_own {w : World} {B : Nat} {K : IntKind} {e : TypeId} {A : Option Addr} {c : Nat} {l : List Nat} (h : w.ownsRow B e 1 (.slice A l.length c) l.length (cellsK K l)) : RdI w K A l := fun h0 => by
  rcases h.2 with ⟨h1, h2⟩ | ⟨g, cap, cur, h1, h2, h3, _⟩
  · omega
  · injection h1 with h1 h4 h5
    subst h1
    refine ⟨g, rfl, lt_of_some h3, fun i x hx => ?_⟩
    have hi : i < l.length := (List.getElem?_eq_some_iff.1 hx).1
    rw [h.cellAt i (by omega)]
    unfold cellsK
    rw [List.getElem?_map, hx]
    rfl
theorem RdI.of_heap {w : World} {K : IntKind} {e : TypeId} {g : Nat} {l : List Nat} {cs : Array Value} (h : w.heap[g]? = some (.cells cs e (0, 0))) (hc : cs.toList = cellsK K l) : RdI w K (some ⟨g, 0, none⟩) l := fun _ => by
  refine ⟨g, rfl, lt_of_some h, fun i x hx => ?_⟩
  rw [Lib.cell_of_heap h, ← Array.getElem?_toList, hc]
  unfold cellsK
  rw [List.getElem?_map, hx]
  rfl
theorem RdI.slice {w : World} {K : IntKind} {A : Option Addr} {l : List Nat} (h : RdI w K A l) (h0 : 0 < l.length) : ∃ g, A = some ⟨g, 0, none⟩ := by
  obtain ⟨g, e, _⟩ := h h0
  exact ⟨g, e⟩

/-! ### sum -/
theorem sum_le (l : List Nat) (hl : ∀ x ∈ l, x ≤ 8) : l.sum ≤ 8 * l.length := by
  induction l with
  | nil => exact Nat.le_refl _
  | cons x l ih =>
    have h1 := hl x (by simp)
    have h2 := ih (fun y hy => hl y (by simp [hy]))
    simp only [List.sum_cons, List.length_cons]
    omega
theorem sum_take (l : List Nat) (k : Nat) : (l.take k).sum ≤ l.sum := by
  have h : (l.take k ++ l.drop k).sum = l.sum := by rw [List.take_append_drop]
  rw [List.sum_append] at h
  omega
theorem take_snoc {l : List Nat} {k x : Nat} (h : l[k]? = some x) : l.take (k + 1) = l.take k ++ [x] := by
  rw [List.take_add_one, h]
  rfl
/-! ### Row -/
/-- The numbers of such widths from a place on. -/
def rowN (s : ByteArray) : Nat → List Nat → List Nat
  | _, [] => []
  | a, x :: l => nAt s a x :: rowN s (a + x) l
theorem rowN_snoc (s : ByteArray) (x : Nat) : ∀ (l : List Nat) (a : Nat), rowN s a (l ++ [x]) = rowN s a l ++ [nAt s (a + l.sum) x]
  | [], a => by simp [rowN]
  | y :: l, a => by
    simp only [List.cons_append, rowN, rowN_snoc s x l, List.sum_cons]
    rw [Nat.add_assoc]
theorem rowN_len (s : ByteArray) : ∀ (l : List Nat) (a : Nat), (rowN s a l).length = l.length
  | [], _ => rfl
  | x :: l, a => by simp only [rowN, List.length_cons, rowN_len s l]
theorem info64 : (Try.prog.info? 22).map (fun i => (i.zero, i.size, i.bytes)) = some (some (.int .u64 0), 1, 8) := by kernel_rfl
theorem nums_ext' (t : ByteArray) (a b : Nat) : nums (t.extract a b) = ((nums t).drop a).take (b - a) := by
  unfold nums
  rw [ByteArray.data_extract]
  simp
theorem row_slice {w : World} {B n z : Nat} {e : TypeId} {v : Value} {l : List Value} (h : w.ownsRow B e z v n l) : ∃ A c, v = .slice A n c := by
  rcases h.2 with ⟨rfl, rfl⟩ | ⟨g, cap, cur, rfl, _⟩
  · exact ⟨_, _, rfl⟩
  · exact ⟨_, _, rfl⟩
end Go.Proofs.Ytlojhklhhdgkcaa
