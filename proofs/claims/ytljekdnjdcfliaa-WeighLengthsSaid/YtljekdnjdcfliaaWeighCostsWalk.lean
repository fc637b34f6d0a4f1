/-
  The walk of WeighCosts.
-/
import Derived.Test.YtljekdnjdcfliaaWeX
import Derived.Test.YtljekdnjdcfliaaWeI
namespace Go.Proofs.Ytljekdnjdcfliaa
open Go.RowKit

set_option maxRecDepth 100000 in
set_option maxHeartbeats 8000000 in
theorem rcost_any (A B : Option Addr) (n capA m capB : Nat) (f L : Nat → Nat) (w : World) (hC : Cts w A n f) (hL : Lens w B m L) (hn : n ≤ 1000) (hm : m ≤ 1000) :
    Calls Try.prog 35 #[.slice A n capA, .slice B m capB] w fun e w' => e = .returned (.int .u64 (costN f L (min n m) : Nat)) ∧ Below w.heap.size w w' := by
  have HC := Lib.hid hC
  have HL := Lib.hid hL
  clear hC hL
  go_enter Try.func35, Try.ntmps35
  go_wp2
  go_loopw [5, 6] (fun c i wr => ∃ k : Nat, k ≤ min n m ∧ i = .int .i64 k ∧ c = .int .u64 (costN f L k : Nat) ∧ Below w.heap.size w wr) (fun _ i _ => min n m - (intOf i).toNat)
  case atStart => exact ⟨0, Nat.zero_le _, rfl, rfl, Below.refl _ _⟩
  case round =>
    obtain ⟨k, hk, rfl, rfl, hb⟩ := hrel
    have HB := Lib.hid hb
    clear hb
    by_cases hlt : k < min n m
    · obtain ⟨bk, off, rfl, hbl, hcc⟩ := HC.out (by omega)
      obtain ⟨bk2, off2, rfl, hbl2, hcc2⟩ := HL.out (by omega)
      have c1 := (HB.out.cell (p := ⟨bk, off + k, none⟩) hbl).trans (hcc k (by omega)).1
      have c2 := (HB.out.cell (p := ⟨bk2, off2 + k, none⟩) hbl2).trans (hcc2 k (by omega)).1
      have hcl := costN_le f L k (fun i hi => ⟨(hcc i (by omega)).2, (hcc2 i (by omega)).2⟩)
      have hml := mul_small (hcc k (by omega)).2 (hcc2 k (by omega)).2
      have HST : Hid (costN f L (k + 1) = costN f L k + f k * L k) := rfl
      have hfx := (hcc k (by omega)).2
      have hlx := (hcc2 k (by omega)).2
      clear hcc hcc2
      generalize f k = x at *
      generalize L k = y at *
      generalize costN f L k = c at *
      have hyI : ((x : Int) * (y : Int)) = ((x * y : Nat) : Int) := by push_cast; rfl
      have hw1 : IntKind.u64.wrap ((x : Int) * (y : Int)) = (x : Int) * y := by rw [IntKind.wrap_u64, hyI]; omega
      have hw2 : IntKind.u64.wrap ((c : Int) + (x : Int) * (y : Int)) = (c : Int) + (x : Int) * y := by rw [IntKind.wrap_u64, hyI]; omega
      have hI1 : (k : Int) < n := by omega
      have hI2 : (k : Int) < m := by omega
      clear hyI
      go_wp2
      go_quiet (fail)
      go_wp2
      go_roundw
      case rel => exact ⟨k + 1, by omega, by go_num, by rw [HST.out]; go_num, below_drewN HB.out _⟩
      case measure => simp [intOf]; omega
    · have HK : Hid (k = min n m) := by rw [Hid]; omega
      by_cases hkn : k < n
      · have hkm : ¬ k < m := by omega
        go_wp2
        go_ret
        exact ⟨by rw [← HK.out]; rfl, HB.out⟩
      · go_wp2
        go_ret
        exact ⟨by rw [← HK.out]; rfl, HB.out⟩

set_option maxRecDepth 100000 in
set_option maxHeartbeats 4000000 in
theorem weighCosts_walk (a0 : Option Addr) (len0 cap0 : Nat) (z0 : List Int) (a1 : Option Addr) (len1 cap1 : Nat) (z1 : List Int) (w : World)
    (w0 : (a0 = none ∧ len0 = 0 ∧ cap0 = 0 ∧ z0 = []) ∨ ∃ x, a0 = some x ∧ len0 ≤ cap0 ∧ cap0 ≤ maxLen ∧ z0.length = cap0 ∧ (∀ i, i < z0.length → w.cell? (x.add i) = some (.int .u32 (z0.getD i 0))) ∧ ∀ n ∈ z0, (Lit.int .u32 n).wf = true)
    (w1 : (a1 = none ∧ len1 = 0 ∧ cap1 = 0 ∧ z1 = []) ∨ ∃ x, a1 = some x ∧ len1 ≤ cap1 ∧ cap1 ≤ maxLen ∧ z1.length = cap1 ∧ (∀ i, i < z1.length → w.cell? (x.add i) = some (.int .u8 (z1.getD i 0))) ∧ ∀ n ∈ z1, (Lit.int .u8 n).wf = true) :
    Calls Try.prog 6 #[.slice a0 len0 cap0, .slice a1 len1 cap1] w fun e w' => e = .returned (.bool true) ∧ Below w.heap.size w w' := by
  have hC := cts_row w0
  have hL := len_row w1
  generalize (fun i => (z0.getD i 0).toNat) = f at hC
  generalize (fun i => (z1.getD i 0).toNat) = L at hL
  clear w0 w1
  go_enter Try.func6, Try.ntmps6
  go_wp2_with fail
  refine (awake_any w).mono ?_
  rintro e w2 ⟨rfl, hb2⟩
  have hC2 := hC.below (Nat.le_refl _) hb2
  have hL2 := hL.below (Nat.le_refl _) hb2
  have HB2 := Lib.hid hb2
  by_cases h0 : 1000 < len0
  · go_wp2_with fail
    go_ret
    exact ⟨rfl, hb2⟩
  · by_cases h1 : 1000 < len1
    · go_wp2_with fail
      go_ret
      exact ⟨rfl, hb2⟩
    · have HC1 := Lib.hid (cost_any a0 a1 len0 cap0 len1 cap1 f L w2 hC2 hL2 (by omega) (by omega))
      have HC2 := Lib.hid (fun w3 (h : Below w2.heap.size w2 w3) => rcost_any a0 a1 len0 cap0 len1 cap1 f L w3 (hC2.below (Nat.le_refl _) h) (hL2.below (Nat.le_refl _) h) (by omega) (by omega))
      clear hC hL hC2 hL2 hb2
      go_wp2_with fail
      refine (HC1.out).mono ?_
      rintro e w3 ⟨rfl, hb3⟩
      go_wp2_with fail
      refine (HC2.out w3 hb3).mono ?_
      rintro e w4 ⟨rfl, hb4⟩
      have HB4 := Lib.hid (below_then' (below_then' HB2.out hb3) hb4)
      clear hb3 hb4
      go_wp2_with fail
      go_ret
      exact ⟨rfl, HB4.out⟩
end Go.Proofs.Ytljekdnjdcfliaa
