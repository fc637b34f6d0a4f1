/-
  Fields: their cells; the fields that bytes are; the bytes of fields.
-/
import Derived.Test.YtkiecgcjnlgbnaaCurF
import Derived.Deep.DeepMust
import Derived.Maps.AppendAt
namespace Go.Proofs.Ytkiecgcjnlgbnaa
set_option maxRecDepth 100000
open Go.RowKit Go.Joins Go.Deep

/-- A field. -/
structure Fd where
  id : Nat
  d : ByteArray
instance : Inhabited Fd := ⟨⟨0, ⟨#[]⟩⟩⟩
def cellF (f : Fd) : List Value := [.int .u16 (f.id : Nat), .string f.d]
def valF (f : Fd) : Value := .agg #[.int .u16 (f.id : Nat), .string f.d]
def FdOk (f : Fd) : Prop := f.id < 65536 ∧ f.d.size ≤ maxLen
/-- The cells of a row of fields. -/
def cellsF : List Fd → List Value
  | [] => []
  | f :: l => .int .u16 (f.id : Nat) :: .string f.d :: cellsF l
theorem cellsF_app (l m : List Fd) : cellsF (l ++ m) = cellsF l ++ cellsF m := by
  induction l with
  | nil => rfl
  | cons x l ih => simp only [List.cons_append, cellsF, ih]
theorem cellsF_len (l : List Fd) : (cellsF l).length = l.length * 2 := by
  induction l with
  | nil => rfl
  | cons x l ih => simp only [cellsF, List.length_cons, ih]; omega
theorem cellsF_get : ∀ (l : List Fd) (i : Nat) (h : i < l.length), (cellsF l)[i * 2]? = some (.int .u16 (l[i].id : Nat)) ∧ (cellsF l)[i * 2 + 1]? = some (.string l[i].d)
  | x :: l, 0, _ => ⟨rfl, rfl⟩
  | x :: l, i + 1, h => by
    have := cellsF_get l i (by simpa using h)
    rw [show (i + 1) * 2 = i * 2 + 2 by omega, show i * 2 + 2 + 1 = i * 2 + 1 + 2 by omega]
    simpa [cellsF] using this
theorem cellsF_one (f : Fd) : cellsF [f] = [.int .u16 (f.id : Nat), .string f.d] := rfl
/-- A slice of fields. -/
def Fds (w : World) (A : Option Addr) (l : List Fd) : Prop := 0 < l.length → ∃ b off, A = some ⟨b, off, none⟩ ∧ b < w.heap.size ∧ ∀ i (h : i < l.length), w.cell? ⟨b, off + i * 2, none⟩ = some (.int .u16 (l[i].id : Nat)) ∧ w.cell? ⟨b, off + i * 2 + 1, none⟩ = some (.string l[i].d)
theorem Fds.below {w w' : World} {B : Nat} {A : Option Addr} {l : List Fd} (h : Fds w A l) (hB : w.heap.size ≤ B) (hb : Below B w w') : Fds w' A l := fun hn => by
  obtain ⟨b, off, e, hlt, hc⟩ := h hn
  have hl := Nat.lt_of_lt_of_le hlt hB
  exact ⟨b, off, e, Nat.lt_of_lt_of_le hlt hb.size, fun i hi => ⟨(hb.cell (p := ⟨b, off + i * 2, none⟩) hl).trans (hc i hi).1, (hb.cell (p := ⟨b, off + i * 2 + 1, none⟩) hl).trans (hc i hi).2⟩⟩
theorem Fds.nil (w : World) (A : Option Addr) : Fds w A [] := fun h => absurd h (by decide)
theorem fds_of_own {w : World} {B : Nat} {A : Option Addr} {cap : Nat} {T : TypeId} {l : List Fd} (h : w.ownsRow B T 2 (.slice A l.length cap) l.length (cellsF l)) : Fds w A l := by
  intro hn
  rcases ownsRow_forms h with ⟨he, h0⟩ | ⟨g2, cap2, he⟩
  · omega
  · injection he with he _ _
    subst he
    have hlt := (h.lt g2 rfl).2
    refine ⟨g2, 0, rfl, hlt, fun i hi => ?_⟩
    have hg := cellsF_get l i hi
    have c0 := h.cellAt (i * 2) (by omega)
    have c1 := h.cellAt (i * 2 + 1) (by omega)
    rw [hg.1] at c0
    rw [hg.2] at c1
    rw [Nat.zero_add]
    exact ⟨c0, c1⟩
theorem slice_of_own {w : World} {B : Nat} {T : TypeId} {v : Value} {l : List Fd} (h : w.ownsRow B T 2 v l.length (cellsF l)) : ∃ A cap, v = .slice A l.length cap := by
  rcases ownsRow_forms h with ⟨he, h0⟩ | ⟨g2, cap2, he⟩
  · exact ⟨none, 0, by rw [he, h0]⟩
  · exact ⟨some ⟨g2, 0, none⟩, cap2, he⟩
theorem Fds.drop {w : World} {b off : Nat} {l : List Fd} (h : Fds w (some ⟨b, off, none⟩) l) (k : Nat) : Fds w (some ⟨b, off + k * 2, none⟩) (l.drop k) := fun hn => by
  rw [List.length_drop] at hn
  obtain ⟨b', off', e, hlt, hc⟩ := h (by omega)
  injection e with e
  injection e with e1 e2 _
  subst e1 e2
  refine ⟨b, off + k * 2, rfl, hlt, fun i hi => ?_⟩
  rw [List.length_drop] at hi
  have := hc (k + i) (by omega)
  rw [List.getElem_drop]
  rw [show off + k * 2 + i * 2 = off + (k + i) * 2 by omega]
  exact this
theorem Fds.take {w : World} {A : Option Addr} {l : List Fd} (h : Fds w A l) (k : Nat) : Fds w A (l.take k) := fun hn => by
  rw [List.length_take] at hn
  obtain ⟨b, off, e, hlt, hc⟩ := h (by omega)
  refine ⟨b, off, e, hlt, fun i hi => ?_⟩
  rw [List.length_take] at hi
  rw [List.getElem_take]
  exact hc i (by omega)

/-! ### What bytes are -/
theorem numL_take2 (l : List Nat) (hl : ∀ x ∈ l, x < 256) : numL (l.take 2) < 65536 := by
  have h := numL_lt (l.take 2) fun x hx => hl x (List.mem_of_mem_take hx)
  rw [List.length_take] at h
  exact Nat.lt_of_lt_of_le h (Nat.pow_le_pow_right (n := 256) (by omega) (show min 2 l.length ≤ 2 by omega))
def idA (s : ByteArray) (a : Nat) : Nat := numL (((nums s).drop a).take 2)
theorem idA_lt (s : ByteArray) (a : Nat) : idA s a < 65536 := numL_take2 _ fun x hx => nums_lt s x (List.mem_of_mem_drop hx)
def fdA (s : ByteArray) (a : Nat) : Fd := ⟨idA s a, s.extract (a + 4) (a + 4 + idA s (a + 2))⟩
/-- The fields that bytes are, from a place on. -/
def prs (s : ByteArray) (a : Nat) (acc : List Fd) : Option (List Fd) :=
  if s.size ≤ a then some acc else if a + 4 + idA s (a + 2) ≤ s.size then prs s (a + 4 + idA s (a + 2)) (acc ++ [fdA s a]) else none
termination_by s.size - a
theorem prs_end {s : ByteArray} {a : Nat} {acc : List Fd} (h : s.size ≤ a) : prs s a acc = some acc := by rw [prs, if_pos h]
theorem prs_step {s : ByteArray} {a : Nat} {acc : List Fd} (h : a + 4 + idA s (a + 2) ≤ s.size) : prs s a acc = prs s (a + 4 + idA s (a + 2)) (acc ++ [fdA s a]) := by
  rw [prs, if_neg (by omega), if_pos h]
theorem prs_no {s : ByteArray} {a : Nat} {acc : List Fd} (h0 : a < s.size) (h : ¬ a + 4 + idA s (a + 2) ≤ s.size) : prs s a acc = none := by
  rw [prs, if_neg (by omega), if_neg h]
def parL (s : ByteArray) : List Fd := if 65535 < s.size then [] else (prs s 0 []).getD []
def parE (s : ByteArray) : Nat := if 65535 < s.size then 5 else if (prs s 0 []).isSome then 0 else 24

/-! ### The bytes of fields -/
def bytesF (f : Fd) : List Nat := le f.id 2 ++ le f.d.size 2 ++ nums f.d
theorem bytesF_len (f : Fd) : (bytesF f).length = 4 + f.d.size := by simp [bytesF, le_len, nums_len]; omega
theorem bytesF_lt (f : Fd) : ∀ x ∈ bytesF f, x < 256 := by
  intro x hx
  simp only [bytesF, List.mem_append] at hx
  rcases hx with (hx | hx) | hx
  · exact le_lt _ _ x hx
  · exact le_lt _ _ x hx
  · exact nums_lt _ x hx
/-- The bytes of fields behind others; none where they are too many. -/
def prt : List Fd → List Nat → Option (List Nat)
  | [], acc => some acc
  | f :: l, acc => if acc.length + 4 + f.d.size ≤ 65535 then prt l (acc ++ bytesF f) else none
def prtT (l : List Fd) : List Nat := (prt l []).getD []
def prtE (l : List Fd) : Nat := if (prt l []).isSome then 0 else 5
end Go.Proofs.Ytkiecgcjnlgbnaa
