/-
  Contracts: the document's ParseOwner.
-/
import Derived.Test.YtmhalkkfpbkafaaDoorFlB
namespace Go.Proofs.YtmhalkkfpbkafaaDoor
set_option maxRecDepth 100000
open Go.RowKit Go.Joins

theorem nums_ext (t : ByteArray) (a b : Nat) : nums (t.extract a b) = ((nums t).drop a).take (b - a) := by
  unfold nums
  rw [ByteArray.data_extract]
  simp
theorem nums_at (t : ByteArray) (k : Nat) (h : k < t.size) : t[k].toNat = (nums t).getD k 0 := by
  rw [List.getD_eq_getElem?_getD, nums_get t k h]
  rfl

theorem oRes_no {s : ByteArray} (h : ¬ (s.size = 3 + oN1 s + oN2 s ∧ (nums s).getD 0 0 = 1 ∧ oN1 s ≤ 8 ∧ oN2 s ≤ 8)) : oRes s = .tuple #[.int .u32 0, .int .u32 0, .int .i64 24] :=
  if_neg (by unfold oOk; rw [decide_eq_true_iff]; exact h)

end Go.Proofs.YtmhalkkfpbkafaaDoor
