/-
  Contracts: ParseOld on both sides, the document's PrintOwner, the chapter's example.
-/
import Derived.Test.YtmhalkkfpbkafaaDoorFlC
namespace Go.Proofs.YtmhalkkfpbkafaaDoor
set_option maxRecDepth 100000
open Go.RowKit Go.Joins

def oldRes (s : ByteArray) : Value := if s.size = 0 then .tuple #[.int .u32 0, .int .u32 0, .int .i64 0] else if s.size = 4 then .tuple #[.int .u32 (numL ((nums s).take 2) : Nat), .int .u32 (numL ((nums s).drop 2) : Nat), .int .i64 0] else .tuple #[.int .u32 0, .int .u32 0, .int .i64 24]
theorem size_zero {s : ByteArray} (h : s.size = 0) : s = ⟨#[]⟩ := by
  apply nums_inj
  rw [List.eq_nil_of_length_eq_zero (l := nums s) (by rw [nums_len]; exact h)]
  rfl
theorem size_pos {s : ByteArray} (h : ¬ s.size = 0) : s.toList = [] ↔ False := by
  rw [Lib.toList_data]
  refine ⟨fun e => h ?_, fun e => e.elim⟩
  rw [← nums_len]
  unfold nums
  rw [e]
  rfl

theorem own12 (w : World) : Calls Tryd.prog 26 #[.int .u32 1, .int .u32 2] w fun e w' => e = .returned (.string ⟨#[1, 4, 1, 0, 0, 0, 4, 2, 0, 0, 0]⟩) ∧ Below w.heap.size w w' :=
  printOwner_any 1 2 (by omega) (by omega) w
theorem awake14_any (w : World) :
    Calls Tryd.prog 20 #[] w fun e w' => e = .returned (.bool true) ∧ Below w.heap.size w w' := by
  go_enter Tryd.func20, Tryd.ntmps20
  go_wp2_with fail
  refine (own12 _).mono ?_; rintro r w1 ⟨rfl, h1⟩
  go_wp2_with fail
  go_ret
  exact ⟨rfl, h1⟩
end Go.Proofs.YtmhalkkfpbkafaaDoor
