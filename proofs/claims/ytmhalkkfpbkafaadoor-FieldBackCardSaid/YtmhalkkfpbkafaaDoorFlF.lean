/-
  Contracts: the document's ParseStamp; the two are one.
-/
import Derived.Test.YtmhalkkfpbkafaaDoorFlE
namespace Go.Proofs.YtmhalkkfpbkafaaDoor
set_option maxRecDepth 100000
open Go.RowKit Go.Joins

theorem sgn_bd (n : Nat) (h : n < 4294967296) : -2147483648 ≤ sgn n ∧ sgn n ≤ 2147483647 := by
  unfold sgn
  split <;> omega
def sgnI (m : Int) : Int := if m < 2147483648 then m else m - 4294967296
theorem sgn_int (n : Nat) : sgn n = sgnI n := by
  unfold sgn sgnI
  split <;> split <;> omega
/-- Which times are told. -/
def tk (F : Nat) (c : Bool) (k : Nat) : Bool := decide (F / 2 ^ k % 2 = 1) && (decide (k = 0) || !c)
/-- Where a time stands. -/
def pk (F : Nat) (c : Bool) : Nat → Nat
  | 0 => 1
  | k + 1 => pk F c k + if tk F c k = true then 4 else 0
theorem pk_mono (F : Nat) (c : Bool) (j k : Nat) (h : j ≤ k) : pk F c j ≤ pk F c k := by
  induction k with
  | zero => obtain rfl : j = 0 := by omega
            exact Nat.le_refl _
  | succ k ih =>
    by_cases e : j = k + 1
    · rw [e]; exact Nat.le_refl _
    · have := ih (by omega)
      rw [pk]
      omega
theorem pk_bd (F : Nat) (c : Bool) (k : Nat) : 1 ≤ pk F c k ∧ pk F c k ≤ 1 + 4 * k := by
  induction k with
  | zero => exact ⟨Nat.le_refl _, Nat.le_refl _⟩
  | succ k ih =>
    rw [pk]
    split <;> omega
def vk (s : ByteArray) (F : Nat) (c : Bool) (k : Nat) : Int := if tk F c k = true then sgn (numL (((nums s).drop (pk F c k)).take 4)) else 0
def stOk (s : ByteArray) (F : Nat) (c : Bool) : Bool := decide (1 ≤ s.size ∧ F ≤ 7 ∧ pk F c 3 ≤ s.size ∧ (c = true ∨ pk F c 3 = s.size))
/-- What a stamp's bytes tell. -/
def stRes (s : ByteArray) (c : Bool) : Value :=
  let F := (nums s).getD 0 0
  if stOk s F c = true then .tuple #[.agg #[.int .u8 F, .int .i32 (vk s F c 0), .int .i32 (vk s F c 1), .int .i32 (vk s F c 2)], .int .i64 0] else .tuple #[.agg #[.int .u8 0, .int .i32 0, .int .i32 0, .int .i32 0], .int .i64 24]
theorem stRes_yes {s : ByteArray} {F : Nat} {c : Bool} (hF : (nums s).getD 0 0 = F) (h : 1 ≤ s.size ∧ F ≤ 7 ∧ pk F c 3 ≤ s.size ∧ (c = true ∨ pk F c 3 = s.size)) :
    stRes s c = .tuple #[.agg #[.int .u8 F, .int .i32 (vk s F c 0), .int .i32 (vk s F c 1), .int .i32 (vk s F c 2)], .int .i64 0] := by
  subst hF
  exact if_pos (decide_eq_true h)
theorem stRes_no {s : ByteArray} {F : Nat} {c : Bool} (hF : (nums s).getD 0 0 = F) (h : ¬ (1 ≤ s.size ∧ F ≤ 7 ∧ pk F c 3 ≤ s.size ∧ (c = true ∨ pk F c 3 = s.size))) :
    stRes s c = .tuple #[.agg #[.int .u8 0, .int .i32 0, .int .i32 0, .int .i32 0], .int .i64 24] := by
  subst hF
  exact if_neg (by unfold stOk; rw [decide_eq_true_iff]; exact h)

/-- The values that are laid behind k rounds. -/
def lk (s : ByteArray) (F : Nat) (c : Bool) (k j : Nat) : Int := if j < k then vk s F c j else 0
theorem lk_set (s : ByteArray) (F : Nat) (c : Bool) (k : Nat) (hk : k < 3) (T : Value) : (#[T, .int .i32 (lk s F c k 0), .int .i32 (lk s F c k 1), .int .i32 (lk s F c k 2)] : Array Value).setIfInBounds (1 + k) (.int .i32 (vk s F c k)) = #[T, .int .i32 (lk s F c (k + 1) 0), .int .i32 (lk s F c (k + 1) 1), .int .i32 (lk s F c (k + 1) 2)] := by
  have : k = 0 ∨ k = 1 ∨ k = 2 := by omega
  rcases this with rfl | rfl | rfl <;> simp [lk]
theorem lk_same (s : ByteArray) (F : Nat) (c : Bool) (k j : Nat) (h : tk F c k = false) : lk s F c (k + 1) j = lk s F c k j := by
  unfold lk
  by_cases h1 : j < k
  · rw [if_pos h1, if_pos (by omega)]
  · rw [if_neg h1]
    by_cases h2 : j = k
    · subst h2
      rw [if_pos (by omega)]
      unfold vk
      rw [h]
      rfl
    · rw [if_neg (by omega)]

end Go.Proofs.YtmhalkkfpbkafaaDoor
