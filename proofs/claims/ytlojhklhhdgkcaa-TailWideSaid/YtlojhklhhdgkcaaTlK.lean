/-
  The chapter's example of tail; the document's Print of an end.
-/
import Derived.Test.YtlojhklhhdgkcaaTlJ
import Derived.Test.YtlojhklhhdgkcaaTlD
namespace Go.Proofs.Ytlojhklhhdgkcaa
set_option maxRecDepth 100000
set_option linter.unusedSimpArgs false
set_option linter.unusedVariables false
open Go.RowKit Go.Joins Go.Deep Go.Op
theorem fd0 : fdE (endT 0 0 0 ⟨#[]⟩) = ((0, 0, 0, 0, ⟨#[]⟩, false), 0) := by decide +kernel
theorem find0 (w : World) : Calls Try.prog 6 #[.string (endT 0 0 0 ⟨#[]⟩)] w fun e w' => e = .returned (.tuple #[.agg #[.int .i64 0, .int .u64 0, .int .u64 0, .int .u64 0, .string ⟨#[]⟩, .bool false], .int .i64 0]) ∧ Below w.heap.size w w' :=
  (find_any (endT 0 0 0 ⟨#[]⟩) (by rw [endT_size]; decide) w).mono fun r w' ⟨hr, hb⟩ => ⟨by rw [hr, fd0]; rfl, hb⟩
theorem print0 (w : World) : Calls Try.prog 5 #[.agg #[.int .i64 0, .int .u64 0, .int .u64 0, .int .u64 0, .string ⟨#[]⟩, .bool false]] w fun e w' => e = .returned (.tuple #[.string (endT 0 0 0 ⟨#[]⟩), .int .i64 0]) ∧ Below w.heap.size w w' :=
  (printT_any 0 0 0 0 (by omega) (by omega) (by omega) ⟨#[]⟩ (by decide) false w).mono fun r w' ⟨hr, hb⟩ => ⟨by rw [hr]; rfl, hb⟩
set_option maxHeartbeats 4000000 in
theorem awake18_any (w : World) : Calls Try.prog 4 #[] w fun e w' => e = .returned (.bool true) ∧ Below w.heap.size w w' := by
  have hz : (endT 0 0 0 ⟨#[]⟩).size = 22 := endT_size 0 0 0 ⟨#[]⟩
  have HF := Lib.hid find0
  have HP := Lib.hid print0
  generalize endT 0 0 0 ⟨#[]⟩ = E at *
  have HEQ : ∀ w, (Op.equalIn 9999 29 (.agg #[.int .i64 0, .int .u64 0, .int .u64 0, .int .u64 0, .string ⟨#[]⟩, .bool false]) (.agg #[.int .i64 0, .int .u64 0, .int .u64 0, .int .u64 0, .string ⟨#[]⟩, .bool false])).run Try.prog w = .ok true w := fun w => by kernel_rfl
  go_enter Try.func4, Try.ntmps4
  go_wp2_with fail
  refine (HP.out _).mono ?_; rintro r w1 ⟨rfl, hb⟩
  have H1 := Lib.hid hb
  clear hb
  go_wp2_with fail
  refine (HF.out _).mono ?_; rintro r w2 ⟨rfl, hb⟩
  have hh := heap_alloc_new w2 (.cells #[.int .i64 0, .int .u64 0, .int .u64 0, .int .u64 0, .string ⟨#[]⟩, .bool false] 29)
  have H2 := Lib.hid ((below_then H1.out hb).alloc (Nat.le_trans H1.out.size hb.size) (.cells #[.int .i64 0, .int .u64 0, .int .u64 0, .int .u64 0, .string ⟨#[]⟩, .bool false] 29))
  have k0 : (w2.alloc (.cells #[.int .i64 0, .int .u64 0, .int .u64 0, .int .u64 0, .string ⟨#[]⟩, .bool false] 29)).cell? ⟨w2.heap.size, 0, none⟩ = some (.int .i64 0) := by rw [Lib.cell_of_heap hh]; rfl
  have k1 : (w2.alloc (.cells #[.int .i64 0, .int .u64 0, .int .u64 0, .int .u64 0, .string ⟨#[]⟩, .bool false] 29)).cell? ⟨w2.heap.size, 1, none⟩ = some (.int .u64 0) := by rw [Lib.cell_of_heap hh]; rfl
  have k2 : (w2.alloc (.cells #[.int .i64 0, .int .u64 0, .int .u64 0, .int .u64 0, .string ⟨#[]⟩, .bool false] 29)).cell? ⟨w2.heap.size, 2, none⟩ = some (.int .u64 0) := by rw [Lib.cell_of_heap hh]; rfl
  have k3 : (w2.alloc (.cells #[.int .i64 0, .int .u64 0, .int .u64 0, .int .u64 0, .string ⟨#[]⟩, .bool false] 29)).cell? ⟨w2.heap.size, 3, none⟩ = some (.int .u64 0) := by rw [Lib.cell_of_heap hh]; rfl
  have k4 : (w2.alloc (.cells #[.int .i64 0, .int .u64 0, .int .u64 0, .int .u64 0, .string ⟨#[]⟩, .bool false] 29)).cell? ⟨w2.heap.size, 4, none⟩ = some (.string ⟨#[]⟩) := by rw [Lib.cell_of_heap hh]; rfl
  have k5 : (w2.alloc (.cells #[.int .i64 0, .int .u64 0, .int .u64 0, .int .u64 0, .string ⟨#[]⟩, .bool false] 29)).cell? ⟨w2.heap.size, 5, none⟩ = some (.bool false) := by rw [Lib.cell_of_heap hh]; rfl
  clear hb H1 hh
  go_wp2_with fail
  go_ret
  exact ⟨rfl, H2.out⟩
end Go.Proofs.Ytlojhklhhdgkcaa
