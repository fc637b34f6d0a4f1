/-
  The walk of CrcShifts: it returns true, whatever the sums and counts.
-/
import Derived.Test.YtcfpkmonbnfehaaCrcD
namespace Go.Proofs.Ytcfpkmonbnfehaa
open Go.RowKit

theorem crcShifts_walk (a0 : Int) (a1 : Int) (a2 : Int) (a3 : Int) (w0 : (Lit.int .u32 a0).wf = true) (w1 : (Lit.int .u32 a1).wf = true) (w2 : (Lit.int .u64 a2).wf = true) (w3 : (Lit.int .u64 a3).wf = true) (w : World) :
    Calls Try.prog 10 #[.int .u32 a0, .int .u32 a1, .int .u64 a2, .int .u64 a3] w fun e w' => e = .returned (.bool true) ∧ Below w.heap.size w w' := by
  obtain ⟨s, rfl, hs⟩ := nat_u32 w0
  obtain ⟨t, rfl, ht⟩ := nat_u32 w1
  obtain ⟨a, rfl, ha⟩ := nat_u64 w2
  obtain ⟨b, rfl, hb⟩ := nat_u64 w3
  clear w0 w1 w2 w3
  have l1 := Crc.shift_lt a s hs
  have l2 := Crc.shift_lt a t ht
  have l3 : s ^^^ t < 4294967296 := Nat.xor_lt_two_pow (n := 32) hs ht
  have X1 := xor32 s t hs ht
  have X2 := xor32 _ _ l1 l2
  rw [← Crc.shift_xor] at X2
  by_cases hab : a + b < 18446744073709551616
  · have hc := fun w => shift_any s (a + b) hs hab w
    rw [Int.natCast_add, Crc.shift_add] at hc
    have HC := Lib.hid hc
    clear hc
    go_enter Try.func10, Try.ntmps10
    go_wp2_with (go_at_call 33; refine (awake2_any _).mono ?_; rintro e w1 ⟨rfl, hb1⟩)
    refine (shift_any _ _ hs ha _).mono ?_; rintro e w2 ⟨rfl, rfl⟩
    go_wp2_with fail
    refine (shift_any _ _ l1 hb _).mono ?_; rintro e w2 ⟨rfl, rfl⟩
    go_wp2_with fail
    refine (HC.out _).mono ?_; rintro e w2 ⟨rfl, rfl⟩
    go_wp2_with fail
    refine (shift_any _ _ l3 ha _).mono ?_; rintro e w2 ⟨rfl, rfl⟩
    go_wp2_with fail
    refine (shift_any _ _ hs ha _).mono ?_; rintro e w2 ⟨rfl, rfl⟩
    go_wp2_with fail
    refine (shift_any _ _ ht ha _).mono ?_; rintro e w2 ⟨rfl, rfl⟩
    go_wp2_with fail
    refine (shift_any _ 0 hs (by omega) _).mono ?_; rintro e w2 ⟨rfl, rfl⟩
    rw [Crc.shift_zero]
    go_wp2_with fail
    go_ret
    exact ⟨rfl, hb1⟩
  · have hw : IntKind.u64.wrap ((a : Int) + (b : Int)) < (a : Int) := by
      simp only [IntKind.wrap, IntKind.bits, IntKind.signed]
      simp
      omega
    go_enter Try.func10, Try.ntmps10
    go_wp2_with (go_at_call 33; refine (awake2_any _).mono ?_; rintro e w1 ⟨rfl, hb1⟩)
    go_ret
    exact ⟨rfl, hb1⟩
end Go.Proofs.Ytcfpkmonbnfehaa
