/-
  The greatest of five numbers; a text of 65,536 noughts.
-/
import Derived.Test.YtlojhklhhdgkcaaHdS
import Derived.Lib.MinMax
import Derived.Deep.OwnRows
namespace Go.Proofs.Ytlojhklhhdgkcaa
set_option maxRecDepth 100000
set_option linter.unusedSimpArgs false
set_option linter.unusedVariables false
open Go.RowKit Go.Joins Go.Deep Go.Op
theorem max2_run (P : Program) (x y : Int) (w : World) : (Builtin.max2 (.int .i64 x) (.int .i64 y)).run P w = .ok (.int .i64 (max x y)) w := by
  have h := Lib.run_max_ints (P := P) w #[] 0 .i64 .i64 x y
  simpa [Builtin.max_] using h
theorem max5 (P : Program) (ts : Array TypeId) (t : TypeId) (a b c d e : Nat) : ∃ M : Nat, (∀ w, (Builtin.max_ ts t #[.int .i64 (a : Nat), .int .i64 (b : Nat), .int .i64 (c : Nat), .int .i64 (d : Nat), .int .i64 (e : Nat)]).run P w = .ok (.int .i64 (M : Nat)) w) ∧ a ≤ M ∧ b ≤ M ∧ c ≤ M ∧ d ≤ M ∧ e ≤ M := by
  refine ⟨max (max (max (max a b) c) d) e, fun w => ?_, by omega, by omega, by omega, by omega, by omega⟩
  have e2 : ∀ x y : Nat, max (x : Int) (y : Int) = ((max x y : Nat) : Int) := fun x y => by omega
  simp only [Builtin.max_, List.foldlM]
  simp [max2_run, e2, Sem.run_bind]
theorem made_zero (n : Nat) : (madeCells #[Value.int .u8 0] n).toList = List.replicate n (Value.int .u8 0) := toList_madeCells_one _ _
theorem conv_zeros (n : Nat) (w : World) : (convert 33 9 (.slice (some ⟨w.heap.size, 0, none⟩) n n)).run Try.prog (w.alloc (.cells (madeCells #[.int .u8 0] n) 5)) = .ok (.string ⟨(List.replicate n (0 : UInt8)).toArray⟩) (w.alloc (.cells (madeCells #[.int .u8 0] n) 5)) := by
  have h := run_convert_bytes_back (P := Try.prog) (w.alloc (.cells (madeCells #[.int .u8 0] n) 5)) 33 9 5 ⟨w.heap.size, 0, none⟩ n (List.replicate n (0 : UInt8)) Try.underlying33 Try.underlying5 Try.underlying9 (fun j hj => by
    rw [List.length_replicate] at hj
    have ea : Addr.add ⟨w.heap.size, 0, none⟩ j = ⟨w.heap.size, j, none⟩ := by
      unfold Addr.add
      split
      · rename_i h; rw [h]
      · simp
    rw [ea, Lib.cell_of_heap (heap_alloc_new w _), ← Array.getElem?_toList, made_zero, List.getElem?_replicate_of_lt hj, List.getElem_replicate]
    rfl)
  rw [List.length_replicate] at h
  exact h
/-- The long text. -/
theorem long_ex : ∃ (LG : ByteArray) (O : Obj), LG.size = 65536 ∧ (∀ w, (Instr.makeSlice 33 (.int .i64 65536) (.int .i64 65536)).run Try.prog w = .ok (.slice (some ⟨w.heap.size, 0, none⟩) 65536 65536) (w.alloc O)) ∧ ∀ w : World, (convert 33 9 (.slice (some ⟨w.heap.size, 0, none⟩) 65536 65536)).run Try.prog (w.alloc O) = .ok (.string LG) (w.alloc O) := by
  have hmk := run_make_row' (P := Try.prog) 33 5 (.int .u8 0) 1 Try.underlying33 info8 rfl .i64 .i64
  have hcv := conv_zeros
  have hsz : ∀ n, (⟨(List.replicate n (0 : UInt8)).toArray⟩ : ByteArray).size = n := fun n => by simp [ByteArray.size]
  exact ⟨_, _, hsz 65536, fun w => hmk 65536 (by omega) (by omega) w, fun w => hcv 65536 w⟩
end Go.Proofs.Ytlojhklhhdgkcaa
