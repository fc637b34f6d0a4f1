/-
  Contracts: byteOf; the document's table.
-/
import Derived.Test.YtalfmepimhneoaaDoorNamT
namespace Go.Proofs.YtalfmepimhneoaaDoor
set_option maxRecDepth 100000
open Go.RowKit Go.Deep Go.Joins Go.Lib

theorem run_index_up (W : World) : ∀ k : Nat, k < 128 → (Instr.index 114 (.agg upV) (.int .i64 (k : Nat))).run Tryd.prog W = .ok (.int .i32 ((cpL.getD k 0 : Nat) : Int)) W
  | 0, _ => by kernel_rfl
  | 1, _ => by kernel_rfl
  | 2, _ => by kernel_rfl
  | 3, _ => by kernel_rfl
  | 4, _ => by kernel_rfl
  | 5, _ => by kernel_rfl
  | 6, _ => by kernel_rfl
  | 7, _ => by kernel_rfl
  | 8, _ => by kernel_rfl
  | 9, _ => by kernel_rfl
  | 10, _ => by kernel_rfl
  | 11, _ => by kernel_rfl
  | 12, _ => by kernel_rfl
  | 13, _ => by kernel_rfl
  | 14, _ => by kernel_rfl
  | 15, _ => by kernel_rfl
  | 16, _ => by kernel_rfl
  | 17, _ => by kernel_rfl
  | 18, _ => by kernel_rfl
  | 19, _ => by kernel_rfl
  | 20, _ => by kernel_rfl
  | 21, _ => by kernel_rfl
  | 22, _ => by kernel_rfl
  | 23, _ => by kernel_rfl
  | 24, _ => by kernel_rfl
  | 25, _ => by kernel_rfl
  | 26, _ => by kernel_rfl
  | 27, _ => by kernel_rfl
  | 28, _ => by kernel_rfl
  | 29, _ => by kernel_rfl
  | 30, _ => by kernel_rfl
  | 31, _ => by kernel_rfl
  | 32, _ => by kernel_rfl
  | 33, _ => by kernel_rfl
  | 34, _ => by kernel_rfl
  | 35, _ => by kernel_rfl
  | 36, _ => by kernel_rfl
  | 37, _ => by kernel_rfl
  | 38, _ => by kernel_rfl
  | 39, _ => by kernel_rfl
  | 40, _ => by kernel_rfl
  | 41, _ => by kernel_rfl
  | 42, _ => by kernel_rfl
  | 43, _ => by kernel_rfl
  | 44, _ => by kernel_rfl
  | 45, _ => by kernel_rfl
  | 46, _ => by kernel_rfl
  | 47, _ => by kernel_rfl
  | 48, _ => by kernel_rfl
  | 49, _ => by kernel_rfl
  | 50, _ => by kernel_rfl
  | 51, _ => by kernel_rfl
  | 52, _ => by kernel_rfl
  | 53, _ => by kernel_rfl
  | 54, _ => by kernel_rfl
  | 55, _ => by kernel_rfl
  | 56, _ => by kernel_rfl
  | 57, _ => by kernel_rfl
  | 58, _ => by kernel_rfl
  | 59, _ => by kernel_rfl
  | 60, _ => by kernel_rfl
  | 61, _ => by kernel_rfl
  | 62, _ => by kernel_rfl
  | 63, _ => by kernel_rfl
  | 64, _ => by kernel_rfl
  | 65, _ => by kernel_rfl
  | 66, _ => by kernel_rfl
  | 67, _ => by kernel_rfl
  | 68, _ => by kernel_rfl
  | 69, _ => by kernel_rfl
  | 70, _ => by kernel_rfl
  | 71, _ => by kernel_rfl
  | 72, _ => by kernel_rfl
  | 73, _ => by kernel_rfl
  | 74, _ => by kernel_rfl
  | 75, _ => by kernel_rfl
  | 76, _ => by kernel_rfl
  | 77, _ => by kernel_rfl
  | 78, _ => by kernel_rfl
  | 79, _ => by kernel_rfl
  | 80, _ => by kernel_rfl
  | 81, _ => by kernel_rfl
  | 82, _ => by kernel_rfl
  | 83, _ => by kernel_rfl
  | 84, _ => by kernel_rfl
  | 85, _ => by kernel_rfl
  | 86, _ => by kernel_rfl
  | 87, _ => by kernel_rfl
  | 88, _ => by kernel_rfl
  | 89, _ => by kernel_rfl
  | 90, _ => by kernel_rfl
  | 91, _ => by kernel_rfl
  | 92, _ => by kernel_rfl
  | 93, _ => by kernel_rfl
  | 94, _ => by kernel_rfl
  | 95, _ => by kernel_rfl
  | 96, _ => by kernel_rfl
  | 97, _ => by kernel_rfl
  | 98, _ => by kernel_rfl
  | 99, _ => by kernel_rfl
  | 100, _ => by kernel_rfl
  | 101, _ => by kernel_rfl
  | 102, _ => by kernel_rfl
  | 103, _ => by kernel_rfl
  | 104, _ => by kernel_rfl
  | 105, _ => by kernel_rfl
  | 106, _ => by kernel_rfl
  | 107, _ => by kernel_rfl
  | 108, _ => by kernel_rfl
  | 109, _ => by kernel_rfl
  | 110, _ => by kernel_rfl
  | 111, _ => by kernel_rfl
  | 112, _ => by kernel_rfl
  | 113, _ => by kernel_rfl
  | 114, _ => by kernel_rfl
  | 115, _ => by kernel_rfl
  | 116, _ => by kernel_rfl
  | 117, _ => by kernel_rfl
  | 118, _ => by kernel_rfl
  | 119, _ => by kernel_rfl
  | 120, _ => by kernel_rfl
  | 121, _ => by kernel_rfl
  | 122, _ => by kernel_rfl
  | 123, _ => by kernel_rfl
  | 124, _ => by kernel_rfl
  | 125, _ => by kernel_rfl
  | 126, _ => by kernel_rfl
  | 127, _ => by kernel_rfl
  | k + 128, h => absurd h (by omega)
theorem cp_inj {i j : Nat} (hi : i < 128) (hj : j < 128) (h : cpL.getD i 0 = cpL.getD j 0) : i = j := by
  have li : i < cpL.length := by rw [cpL_len]; exact hi
  have lj : j < cpL.length := by rw [cpL_len]; exact hj
  rw [List.getD_eq_getElem?_getD, List.getD_eq_getElem?_getD, List.getElem?_eq_getElem li, List.getElem?_eq_getElem lj] at h
  have hp := List.pairwise_iff_getElem.1 cpL_nodup
  rcases Nat.lt_trichotomy i j with hl | hl | hl
  · exact absurd h (hp i j li lj hl)
  · exact hl
  · exact absurd h.symm (hp j i lj li hl)
theorem info_up : (Tryd.prog.info? 114).map (·.size) = some upV.size := by kernel_rfl
theorem byteOf_low (r : Nat) (hr : r < 128) (w : World) :
    Calls Tryd.prog 49 #[.int .i32 (r : Nat)] w fun e w' => e = .returned (.tuple #[.int .u8 (r : Nat), .bool true]) ∧ w' = w := by
  have hw : IntKind.u8.wrap (r : Int) = (r : Int) := by unfold IntKind.wrap; simp [IntKind.bits, IntKind.signed]; omega
  go_enter Tryd.func49, Tryd.ntmps49
  go_wp2_with fail
  go_ret2
  exact ⟨rfl, rfl⟩
set_option maxHeartbeats 4000000 in
theorem byteOf_hit (r k : Nat) (hr : 128 ≤ r) (hk : k < 128) (hc : cpL.getD k 0 = r) (w : World) (hU : Upper w) :
    Calls Tryd.prog 49 #[.int .i32 (r : Nat)] w fun e w' => e = .returned (.tuple #[.int .u8 ((128 + k : Nat) : Int), .bool true]) ∧ w' = w := by
  obtain ⟨t, fr, hU⟩ := hU
  have HU := Lib.hid hU
  have HC := Lib.hid hc
  have HIX := Lib.hid run_index_up
  clear hc hU
  go_enter Tryd.func49, Tryd.ntmps49
  go_wp2_with (refine wpList_load_row rfl 114 (.global 2) rfl 2 rfl t upV fr _ HU.out Tryd.underlying114 rfl info_up ?_)
  have hup : Hid True := trivial
  go_loopw [11] (fun i wr => ∃ q : Nat, q ≤ k ∧ i = .int .i64 (q : Nat) ∧ wr = w) (fun i _ => k - (intOf i).toNat)
  case atStart => exact ⟨0, Nat.zero_le _, rfl, rfl⟩
  case round =>
    obtain ⟨q, hq, rfl, rfl⟩ := hrel
    have hq1 : q < 128 := by omega
    have hix := fun W => HIX.out W q hq1
    by_cases e : q = k
    · subst e
      have hcq : cpL.getD q 0 = r := HC.out
      rw [hcq] at hix
      obtain ⟨z, hz, hs⟩ : ∃ z : Nat, 128 + q = z ∧ ((128 : Int) + (q : Int)) = (z : Int) := ⟨128 + q, rfl, by omega⟩
      have hw : IntKind.u8.wrap (z : Int) = (z : Int) := by unfold IntKind.wrap; simp [IntKind.bits, IntKind.signed]; omega
      have HZ := Lib.hid hz
      clear hcq hz
      go_wp2_with fail
      go_ret2
      rw [HZ.out]
      exact ⟨rfl, rfl⟩
    · have hne : cpL.getD q 0 ≠ r := fun h => e (cp_inj hq1 hk (h.trans HC.out.symm))
      have hqk : q + 1 ≤ k := by omega
      generalize cpL.getD q 0 = x at *
      have hb : ((x : Int) == (r : Int)) = false := by rw [beq_eq_false_iff_ne]; omega
      clear hne e
      go_wp2_with fail
      go_roundw
      case rel => exact ⟨q + 1, hqk, by go_num, by first | rfl | trivial⟩
      case measure => simp [intOf]; omega
set_option maxHeartbeats 4000000 in
theorem byteOf_miss (r : Nat) (hr : 128 ≤ r) (hr2 : r ≤ 2147483647) (hc : ∀ k, k < 128 → cpL.getD k 0 ≠ r) (w : World) (hU : Upper w) :
    Calls Tryd.prog 49 #[.int .i32 (r : Nat)] w fun e w' => e = .returned (.tuple #[.int .u8 0, .bool false]) ∧ w' = w := by
  obtain ⟨t, fr, hU⟩ := hU
  have HU := Lib.hid hU
  have HC := Lib.hid hc
  have HIX := Lib.hid run_index_up
  clear hc hU
  go_enter Tryd.func49, Tryd.ntmps49
  go_wp2_with (refine wpList_load_row rfl 114 (.global 2) rfl 2 rfl t upV fr _ HU.out Tryd.underlying114 rfl info_up ?_)
  go_loopw [11] (fun i wr => ∃ q : Nat, q ≤ 128 ∧ i = .int .i64 (q : Nat) ∧ wr = w) (fun i _ => 128 - (intOf i).toNat)
  case atStart => exact ⟨0, Nat.zero_le _, rfl, rfl⟩
  case round =>
    obtain ⟨q, hq, rfl, rfl⟩ := hrel
    by_cases hq1 : q < 128
    · have hix := fun W => HIX.out W q hq1
      have hne := HC.out q hq1
      generalize cpL.getD q 0 = x at *
      have hb : ((x : Int) == (r : Int)) = false := by rw [beq_eq_false_iff_ne]; omega
      clear hne
      go_wp2_with fail
      go_roundw
      case rel => exact ⟨q + 1, by omega, by go_num, by first | rfl | trivial⟩
      case measure => simp [intOf]; omega
    · obtain rfl : q = 128 := by omega
      have e128 : ((128 : Nat) : Int) = 128 := rfl
      go_wp2_with fail
      go_ret2
      exact ⟨rfl, rfl⟩
end Go.Proofs.YtalfmepimhneoaaDoor
