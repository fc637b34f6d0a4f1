/-
  Contracts: the document's ParseWide; the program's answer is it.
-/
import Derived.Test.YtmhalkkfpbkafaaDoorFlJ
namespace Go.Proofs.YtmhalkkfpbkafaaDoor
set_option maxRecDepth 100000
open Go.RowKit Go.Joins

def yk (s : ByteArray) (q : Nat → Bool) (k j : Nat) : Nat := if j < k then xk s q j else 0
theorem yk_set (s : ByteArray) (q : Nat → Bool) (k : Nat) (hk : k < 4) : (#[.int .u64 (yk s q k 0 : Nat), .int .u64 (yk s q k 1 : Nat), .int .u64 (yk s q k 2 : Nat), .int .u64 (yk s q k 3 : Nat)] : Array Value).setIfInBounds k (.int .u64 (xk s q k : Nat)) = #[.int .u64 (yk s q (k + 1) 0 : Nat), .int .u64 (yk s q (k + 1) 1 : Nat), .int .u64 (yk s q (k + 1) 2 : Nat), .int .u64 (yk s q (k + 1) 3 : Nat)] := by
  have : k = 0 ∨ k = 1 ∨ k = 2 ∨ k = 3 := by omega
  rcases this with rfl | rfl | rfl | rfl <;> simp [yk]
theorem yk_same (s : ByteArray) (q : Nat → Bool) (k j : Nat) (h : q k = false) : yk s q (k + 1) j = yk s q k j := by
  unfold yk
  by_cases h1 : j < k
  · rw [if_pos h1, if_pos (by omega)]
  · rw [if_neg h1]
    by_cases h2 : j = k
    · subst h2
      rw [if_pos (by omega)]
      unfold xk
      rw [if_neg (by rw [h]; decide)]
    · rw [if_neg (by omega)]
theorem wRes_yes {s : ByteArray} {q : Nat → Bool} {K : IntKind} (h : wk q 4 = s.size) : wRes s q K = .tuple #[.agg #[.int .u64 (xk s q 0 : Nat), .int .u64 (xk s q 1 : Nat), .int .u64 (xk s q 2 : Nat), .int K (xk s q 3 : Nat)], .int .i64 0] := if_pos h
theorem wRes_no {s : ByteArray} {q : Nat → Bool} {K : IntKind} (h : ¬ wk q 4 = s.size) : wRes s q K = .tuple #[.agg #[.int .u64 0, .int .u64 0, .int .u64 0, .int K 0], .int .i64 31] := if_neg h

theorem rwide_one (a b c d : Int) : (#[Value.int .u64 a, .int .u64 b, .int .u64 c, .int .u64 d] : Array Value).all (·.oneCell') = true := by simp [Value.oneCell']
end Go.Proofs.YtmhalkkfpbkafaaDoor
