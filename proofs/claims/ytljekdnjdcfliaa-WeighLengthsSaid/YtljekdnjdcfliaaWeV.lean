/-
  weigh: contract of Cost.
-/
import Derived.Test.YtljekdnjdcfliaaWeA
import Derived.BigQuiet
import Derived.Laws.Externs
namespace Go.Proofs.Ytljekdnjdcfliaa
open Go.RowKit

def costN (f L : Nat → Nat) : Nat → Nat
  | 0 => 0
  | k + 1 => costN f L k + f k * L k
theorem mul_small {x y : Nat} (hx : x < 4294967296) (hy : y < 256) : x * y ≤ 1099511627776 := by
  have h1 : x * y ≤ 4294967296 * 256 := Nat.mul_le_mul (by omega) (by omega)
  omega
theorem costN_le (f L : Nat → Nat) (k : Nat) (h : ∀ i, i < k → f i < 4294967296 ∧ L i < 256) : costN f L k ≤ k * 1099511627776 := by
  induction k with
  | zero => simp [costN]
  | succ k ih =>
    have := ih fun i hi => h i (by omega)
    have h2 := h k (by omega)
    have := mul_small h2.1 h2.2
    rw [costN, Nat.succ_mul]
    omega

theorem add64_at (x y : Int) (hx : 0 ≤ x) (hy : 0 ≤ y) (hxy : x + y < 18446744073709551616) (w : World) : (callFunc 56 #[.int .u64 x, .int .u64 y, .int .u64 0]).run Try.prog w = .ok (.value (.tuple #[.int .u64 (x + y), .int .u64 0])) w := by
  rw [run_callFunc_extern Try.func56 (by kernel_rfl) (by kernel_rfl) (by kernel_rfl) (e := add64Entry) (by kernel_rfl), run_add64 x y 0 hx hy (by omega) (by omega)]
  simp only [Result.andThen]
  rw [show (x + y + 0) % 18446744073709551616 = x + y by omega, show (x + y + 0) / 18446744073709551616 = 0 by omega]

set_option maxRecDepth 100000 in
set_option maxHeartbeats 8000000 in
theorem cost_any (A B : Option Addr) (n capA m capB : Nat) (f L : Nat → Nat) (w : World) (hC : Cts w A n f) (hL : Lens w B m L) (hn : n ≤ 1000) (hm : m ≤ 1000) :
    Calls Try.prog 33 #[.slice A n capA, .slice B m capB] w fun e w' => e = .returned (.int .u64 (costN f L (min n m) : Nat)) ∧ Below w.heap.size w w' := by
  have HC := Lib.hid hC
  have HL := Lib.hid hL
  clear hC hL
  go_enter Try.func33, Try.ntmps33
  by_cases hmn : m < n
  · rw [show min n m = m by omega]
    go_wp2
    go_loopw [5, 14] (fun c i wr => ∃ k : Nat, k ≤ m ∧ i = .int .i64 k ∧ c = .int .u64 (costN f L k : Nat) ∧ Below w.heap.size w wr) (fun _ i _ => m - (intOf i).toNat)
    case atStart => exact ⟨0, Nat.zero_le _, rfl, rfl, Below.refl _ _⟩
    case round =>
      obtain ⟨k, hk, rfl, rfl, hb⟩ := hrel
      have HB := Lib.hid hb
      clear hb
      by_cases hlt : k < m
      · obtain ⟨bk, off, rfl, hbl, hcc⟩ := HC.out (by omega)
        obtain ⟨bk2, off2, rfl, hbl2, hcc2⟩ := HL.out (by omega)
        have c1 := (HB.out.cell (p := ⟨bk, off + k, none⟩) hbl).trans (hcc k (by omega)).1
        have c2 := (HB.out.cell (p := ⟨bk2, off2 + k, none⟩) hbl2).trans (hcc2 k (by omega)).1
        have hcl := costN_le f L k (fun i hi => ⟨(hcc i (by omega)).2, (hcc2 i (by omega)).2⟩)
        have hml := mul_small (hcc k (by omega)).2 (hcc2 k (by omega)).2
        have HST : Hid (costN f L (k + 1) = costN f L k + f k * L k) := rfl
        have hfx := (hcc k (by omega)).2
        have hlx := (hcc2 k (by omega)).2
        clear hcc hcc2
        generalize f k = x at *
        generalize L k = y at *
        generalize costN f L k = c at *
        have hyI : ((x : Int) * (y : Int)) = ((x * y : Nat) : Int) := by push_cast; rfl
        have hw1 : IntKind.u64.wrap ((x : Int) * (y : Int)) = (x : Int) * y := by rw [IntKind.wrap_u64, hyI]; omega
        have HADD : ∀ d, (callFunc 56 #[.int .u64 (c : Int), .int .u64 ((x : Int) * y), .int .u64 0]).run Try.prog (wr.drewN d) = .ok (.value (.tuple #[.int .u64 ((c : Int) + (x : Int) * y), .int .u64 0])) (wr.drewN d) := fun d => add64_at _ _ (by omega) (by rw [hyI]; omega) (by rw [hyI]; omega) _
        have hI1 : (k : Int) < n := by omega
        have hI2 : (k : Int) < m := by omega
        clear hyI
        go_wp2
        go_quiet (fail)
        go_wp2
        go_roundw
        case rel => exact ⟨k + 1, by omega, by go_num, by rw [HST.out]; go_num, below_drewN HB.out _⟩
        case measure => simp [intOf]; omega
      · obtain rfl : k = m := by omega
        go_wp2
        go_ret
        exact ⟨rfl, HB.out⟩
  · rw [show min n m = n by omega]
    go_wp2
    go_loopw [5, 14] (fun c i wr => ∃ k : Nat, k ≤ n ∧ i = .int .i64 k ∧ c = .int .u64 (costN f L k : Nat) ∧ Below w.heap.size w wr) (fun _ i _ => n - (intOf i).toNat)
    case atStart => exact ⟨0, Nat.zero_le _, rfl, rfl, Below.refl _ _⟩
    case round =>
      obtain ⟨k, hk, rfl, rfl, hb⟩ := hrel
      have HB := Lib.hid hb
      clear hb
      by_cases hlt : k < n
      · obtain ⟨bk, off, rfl, hbl, hcc⟩ := HC.out (by omega)
        obtain ⟨bk2, off2, rfl, hbl2, hcc2⟩ := HL.out (by omega)
        have c1 := (HB.out.cell (p := ⟨bk, off + k, none⟩) hbl).trans (hcc k (by omega)).1
        have c2 := (HB.out.cell (p := ⟨bk2, off2 + k, none⟩) hbl2).trans (hcc2 k (by omega)).1
        have hcl := costN_le f L k (fun i hi => ⟨(hcc i (by omega)).2, (hcc2 i (by omega)).2⟩)
        have hml := mul_small (hcc k (by omega)).2 (hcc2 k (by omega)).2
        have HST : Hid (costN f L (k + 1) = costN f L k + f k * L k) := rfl
        have hfx := (hcc k (by omega)).2
        have hlx := (hcc2 k (by omega)).2
        clear hcc hcc2
        generalize f k = x at *
        generalize L k = y at *
        generalize costN f L k = c at *
        have hyI : ((x : Int) * (y : Int)) = ((x * y : Nat) : Int) := by push_cast; rfl
        have hw1 : IntKind.u64.wrap ((x : Int) * (y : Int)) = (x : Int) * y := by rw [IntKind.wrap_u64, hyI]; omega
        have HADD : ∀ d, (callFunc 56 #[.int .u64 (c : Int), .int .u64 ((x : Int) * y), .int .u64 0]).run Try.prog (wr.drewN d) = .ok (.value (.tuple #[.int .u64 ((c : Int) + (x : Int) * y), .int .u64 0])) (wr.drewN d) := fun d => add64_at _ _ (by omega) (by rw [hyI]; omega) (by rw [hyI]; omega) _
        have hI1 : (k : Int) < n := by omega
        have hI2 : (k : Int) < m := by omega
        clear hyI
        go_wp2
        go_quiet (fail)
        go_wp2
        go_roundw
        case rel => exact ⟨k + 1, by omega, by go_num, by rw [HST.out]; go_num, below_drewN HB.out _⟩
        case measure => simp [intOf]; omega
      · obtain rfl : k = n := by omega
        go_wp2
        go_ret
        exact ⟨rfl, HB.out⟩
end Go.Proofs.Ytljekdnjdcfliaa
