/-
  Contracts: PrintDescriptor; the document's Print; rows compared; the widths.
-/
import Derived.Test.YtlojhklhhdgkcaaHdI
namespace Go.Proofs.Ytlojhklhhdgkcaa
set_option maxRecDepth 100000
set_option linter.unusedSimpArgs false
set_option linter.unusedVariables false
open Go.RowKit Go.Joins Go.Deep Go.Op

/-! ### the document's Print -/
/-- Numbers in such widths. -/
def prN : List Nat → List Nat → List Nat
  | x :: l, k :: ws => le x k ++ prN l ws
  | _, _ => []
theorem prN_snoc (x k : Nat) : ∀ (l ws : List Nat), l.length = ws.length → prN (l ++ [x]) (ws ++ [k]) = prN l ws ++ le x k
  | [], [], _ => by simp [prN]
  | y :: l, j :: ws, h => by
    simp only [List.cons_append, prN, prN_snoc x k l ws (by simpa using h), List.append_assoc]
  | [], _ :: _, h => by simp at h
  | _ :: _, [], h => by simp at h
theorem prN_lt : ∀ (l ws : List Nat), ∀ x ∈ prN l ws, x < 256
  | [], [], x, h => by simp [prN] at h
  | y :: l, j :: ws, x, h => by
    simp only [prN, List.mem_append] at h
    rcases h with h | h
    · exact le_lt _ _ x h
    · exact prN_lt l ws x h
  | [], _ :: _, x, h => by simp [prN] at h
  | _ :: _, [], x, h => by simp [prN] at h
theorem prN_len : ∀ (l ws : List Nat), l.length = ws.length → (prN l ws).length = ws.sum
  | [], [], _ => rfl
  | y :: l, j :: ws, h => by
    simp only [prN, List.length_append, le_len, prN_len l ws (by simpa using h), List.sum_cons]
  | [], _ :: _, h => by simp at h
  | _ :: _, [], h => by simp at h
theorem text_app (a b : List Nat) : text a ++ text b = text (a ++ b) := by
  unfold text
  apply ByteArray.ext
  simp [ByteArray.data_append]
/-! ### rows compared -/
def wsLocals : List Nat := [4, 2, 2, 2, 4, 4, 4, 4, 2, 2]
def wsCentrals : List Nat := [4, 2, 2, 2, 2, 4, 4, 4, 4, 2, 2, 2, 2, 2, 4, 4]
def rowLocal (x0 x1 x2 x3 x4 x5 x6 : Nat) (s7 s8 : ByteArray) : List Nat := [67324752, x0, x1, x2, x3, x4, x5, x6, s7.size, s8.size]
def rowCentral (x0 x1 x2 x3 x4 x5 x6 x7 x8 x9 x10 x11 : Nat) (s12 s13 s14 : ByteArray) : List Nat := [33639248, x0, x1, x2, x3, x4, x5, x6, x7, s12.size, s13.size, s14.size, x8, x9, x10, x11]
def rowDescriptor (x0 x1 x2 : Nat) : List Nat := [134695760, x0, x1, x2]
end Go.Proofs.Ytlojhklhhdgkcaa
