/-
  Contract: Expand.
-/
import Derived.Test.YtfhbkidceombbaaMatA
import Derived.Test.YtfhbkidceombbaaPreN
import Derived.Test.YtfhbkidceombbaaBitsX
import Derived.Maps.AppendAt
namespace Go.Proofs.Ytfhbkidceombbaa
set_option maxRecDepth 100000
open Go.RowKit Go.Deep Go.Joins

/-- A slice of tokens. -/
def Toks (w : World) (A : Option Addr) (n : Nat) (f : Nat → Tok) : Prop := 0 < n → ∃ b off, A = some ⟨b, off, none⟩ ∧ b < w.heap.size ∧ ∀ i, i < n → TokOk (f i) ∧ w.cell? ⟨b, off + i * 3, none⟩ = some (.int .u8 ((f i).b : Nat)) ∧ w.cell? ⟨b, off + i * 3 + 1, none⟩ = some (.int .i64 (f i).l) ∧ w.cell? ⟨b, off + i * 3 + 2, none⟩ = some (.int .i64 (f i).d)
theorem Toks.below {w w' : World} {B n : Nat} {A : Option Addr} {f : Nat → Tok} (h : Toks w A n f) (hB : w.heap.size ≤ B) (hb : Below B w w') : Toks w' A n f := fun hn => by
  obtain ⟨b, off, e, hlt, hc⟩ := h hn
  have hl := Nat.lt_of_lt_of_le hlt hB
  exact ⟨b, off, e, Nat.lt_of_lt_of_le hlt hb.size, fun i hi => ⟨(hc i hi).1, (hb.cell (p := ⟨b, off + i * 3, none⟩) hl).trans (hc i hi).2.1, (hb.cell (p := ⟨b, off + i * 3 + 1, none⟩) hl).trans (hc i hi).2.2.1, (hb.cell (p := ⟨b, off + i * 3 + 2, none⟩) hl).trans (hc i hi).2.2.2⟩⟩

theorem own_byte {w : World} {B : Nat} {v : Value} {o : List Nat} (h : w.ownsRow B 5 1 v o.length (cells8 o)) (h0 : 0 < o.length) :
    ∃ g cap, v = .slice (some ⟨g, 0, none⟩) o.length cap ∧ ∀ i, i < o.length → w.cell? ⟨g, i, none⟩ = some (.int .u8 ((o.getD i 0 : Nat) : Int)) := by
  rcases ownsRow_forms h with ⟨rfl, hn⟩ | ⟨g2, cap, rfl⟩
  · omega
  · refine ⟨g2, cap, rfl, fun i hi => ?_⟩
    have := h.cellAt i (by omega)
    rw [this]
    simp only [cells8, List.getElem?_map, List.getElem?_eq_getElem hi, Option.map_some, List.getD_eq_getElem?_getD, Option.getD_some]
theorem bytes_lt {o : List Nat} (ho : ∀ x ∈ o, x < 256) (i : Nat) : o.getD i 0 < 256 := by
  rw [List.getD_eq_getElem?_getD]
  by_cases h : i < o.length
  · rw [List.getElem?_eq_getElem h]; exact ho _ (List.getElem_mem h)
  · rw [List.getElem?_eq_none (by omega)]; decide
theorem info_tok : (Try.prog.info? 43).map (·.size) = some 3 := by kernel_rfl
/-- What a copy's loop keeps. -/
def CopySt (w w1 wr : World) (T : TypeId) (B0 : Nat) (t : Tok) (o : List Nat) (d : Nat) (j : Nat) (v : Value) : Prop :=
  wr.ownsRow w.heap.size 5 1 v (copyT o d j).length (cells8 (copyT o d j)) ∧ wr.heap[B0]? = some (.cells #[.int .u8 (t.b : Nat), .int .i64 t.l, .int .i64 t.d] T (0, 0)) ∧ Below w.heap.size w wr ∧ w1.heap.size ≤ wr.heap.size
/-- The text that tokens are: none where something is wrong. -/
def expT (f : Nat → Tok) (n : Nat) : List Nat := if expE f n = 0 then expO f n else []
theorem expT_ok {f : Nat → Tok} {n : Nat} (h : expE f n = 0) : expT f n = expO f n := if_pos h
theorem expT_no {f : Nat → Tok} {n : Nat} (h : expE f n ≠ 0) : expT f n = [] := if_neg h
end Go.Proofs.Ytfhbkidceombbaa
