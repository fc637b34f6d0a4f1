/-
  Contracts: what bytes are as a number, of the program and of the document; numbers in two, four, eight bytes.
-/
import Derived.Test.YtlojhklhhdgkcaaCurA
namespace Go.Proofs.Ytlojhklhhdgkcaa
set_option maxRecDepth 100000
open Go.RowKit Go.Joins

theorem nums_take_lt (s : ByteArray) (k : Nat) : ∀ x ∈ (nums s).take k, x < 256 := fun x hx => nums_lt s x (List.mem_of_mem_take hx)
theorem or_step8 (N x k : Nat) (hN : N < 256 ^ k) : N ||| x * 2 ^ (8 * k) = N + x * 256 ^ k := by
  have e : (256 : Nat) ^ k = 2 ^ (8 * k) := by rw [Nat.pow_mul]
  rw [e] at hN ⊢
  have h := Nat.shiftLeft_add_eq_or_of_lt hN x
  rw [Nat.shiftLeft_eq] at h
  rw [Nat.or_comm, ← h, Nat.add_comm]

theorem pow_up (k : Nat) (hk : k < 8) : (256 : Nat) ^ (k + 1) ≤ 18446744073709551616 := by
  have h := Nat.pow_le_pow_right (n := 256) (by omega) (show k + 1 ≤ 8 by omega)
  exact h
theorem or_walk (X x k : Nat) (hX : X < 256 ^ k) (hx : x < 256) (hk : k < 8) : bits .or .u64 (X : Int) (IntKind.u64.wrap ((x : Int) * 2 ^ (8 * k))) = ((X + x * 256 ^ k : Nat) : Int) := by
  have hp := pow_up k hk
  rw [Nat.pow_succ] at hp
  have e : (2 : Nat) ^ (8 * k) = 256 ^ k := by rw [Nat.pow_mul]
  have hpos : 0 < (256 : Nat) ^ k := Nat.pow_pos (by omega)
  have h1 : x * 256 ^ k < 18446744073709551616 := by
    have : x * 256 ^ k < 256 ^ k * 256 := by rw [Nat.mul_comm]; exact Nat.mul_lt_mul_of_pos_left hx hpos
    omega
  have e2 : ((x : Int) * 2 ^ (8 * k)) = ((x * 2 ^ (8 * k) : Nat) : Int) := by simp
  have h2 : IntKind.u64.wrap ((x : Int) * 2 ^ (8 * k)) = ((x * 2 ^ (8 * k) : Nat) : Int) := by
    rw [e2, IntKind.wrap_u64, e]
    omega
  rw [h2, u64_or_nat X _ (by omega) (by rw [e]; exact h1), or_step8 X x k hX]

theorem number_long (s : ByteArray) (hs : s.size ≤ maxLen) (h8 : 8 < s.size) (w : World) :
    Calls Try.prog 25 #[.string s] w fun e w' => e = .returned (.tuple #[.int .u64 0, .int .i64 5]) ∧ w = w' := by
  unfold maxLen at hs
  go_enter Try.func25, Try.ntmps25
  go_wp2
  go_ret2
  exact ⟨rfl, rfl⟩

theorem number_any (s : ByteArray) (h8 : s.size ≤ 8) (w : World) :
    Calls Try.prog 25 #[.string s] w fun e w' => e = .returned (.tuple #[.int .u64 (numL (nums s) : Nat), .int .i64 0]) ∧ w = w' := by
  go_enter Try.func25, Try.ntmps25
  go_wp2
  go_loop [4, 11] (fun x i => ∃ k : Nat, k ≤ s.size ∧ i = .int .i64 k ∧ x = .int .u64 (numL ((nums s).take k) : Nat)) (fun _ i => s.size - (intOf i).toNat)
  case atStart => exact ⟨0, Nat.zero_le _, rfl, rfl⟩
  case round =>
    obtain ⟨k, hk, rfl, rfl⟩ := hrel
    have hN := numL_lt _ (nums_take_lt s k)
    rw [List.length_take, nums_len, Nat.min_eq_left hk] at hN
    generalize hNN : numL ((nums s).take k) = X at hN
    have HN := Lib.hid hN
    have HX := Lib.hid hNN
    clear hNN hN
    by_cases hlt : k < s.size
    · have hsk : s[k].toNat < 256 := s[k].toNat_lt
      go_wp2
      go_round
      case rel =>
        refine ⟨k + 1, by omega, by go_num, ?_⟩
        rw [nums_snoc s k hlt, numL_snoc, HX.out, List.length_take, nums_len, Nat.min_eq_left hk, or_walk X s[k].toNat k HN.out hsk (by omega)]
      case measure => simp [intOf]; omega
    · obtain rfl : k = s.size := by omega
      go_wp2
      go_ret2
      have h := HX.out
      rw [← nums_len, List.take_length] at h
      subst h
      exact ⟨rfl, rfl⟩

theorem nums_drop (s : ByteArray) (j : Nat) (h : j < s.size) : (nums s).drop j = s[j].toNat :: (nums s).drop (j + 1) := by
  rw [List.drop_eq_getElem_cons (by rw [nums_len]; exact h)]
  congr 1
  unfold nums
  simp
  rfl
theorem numL_small (s : ByteArray) (k : Nat) (hk : 1 ≤ k) (h8 : s.size ≤ 8) : numL ((nums s).drop k) < 72057594037927936 := by
  have h := numL_lt ((nums s).drop k) (fun x hx => nums_lt s x (List.mem_of_mem_drop hx))
  rw [List.length_drop, nums_len] at h
  exact Nat.lt_of_lt_of_le h (Nat.pow_le_pow_right (n := 256) (by omega) (show s.size - k ≤ 7 by omega))

theorem le_mod (n k : Nat) : ∀ j, j ≤ k → le (n % 256 ^ k) j = le n j := by
  intro j
  induction j with
  | zero => intro _; rfl
  | succ j ih =>
    intro hj
    rw [le, le, ih (by omega)]
    have e : n % 256 ^ k / 256 ^ j % 256 = n / 256 ^ j % 256 := by
      obtain ⟨d, rfl⟩ : ∃ d, k = j + (d + 1) := ⟨k - j - 1, by omega⟩
      rw [Nat.pow_add, Nat.mod_mul_right_div_self, Nat.pow_succ, Nat.mul_comm (256 ^ d), Nat.mod_mul_right_mod]
    rw [e]

theorem two_any (n : Nat) (hn : n < 65536) (w : World) :
    Calls Try.prog 20 #[.int .u16 n] w fun e w' => e = .returned (.string (text (le n 2))) ∧ Below w.heap.size w w' := by
  have h := of_any n (by omega) 2 w
  have H := Lib.hid h
  clear h
  go_enter Try.func20, Try.ntmps20
  go_wp2_with (go_at_call 32; refine (H.out).mono ?_; rintro e w' ⟨rfl, hb⟩)
  go_ret
  exact ⟨rfl, hb⟩
theorem four_any (n : Nat) (hn : n < 4294967296) (w : World) :
    Calls Try.prog 22 #[.int .u32 n] w fun e w' => e = .returned (.string (text (le n 4))) ∧ Below w.heap.size w w' := by
  have h := of_any n (by omega) 4 w
  have H := Lib.hid h
  clear h
  go_enter Try.func22, Try.ntmps22
  go_wp2_with (go_at_call 32; refine (H.out).mono ?_; rintro e w' ⟨rfl, hb⟩)
  go_ret
  exact ⟨rfl, hb⟩
theorem eight_any (n : Nat) (hn : n < 18446744073709551616) (w : World) :
    Calls Try.prog 18 #[.int .u64 n] w fun e w' => e = .returned (.string (text (le n 8))) ∧ Below w.heap.size w w' := by
  have h := of_any n (by omega) 8 w
  have H := Lib.hid h
  clear h
  go_enter Try.func18, Try.ntmps18
  go_wp2_with (go_at_call 32; refine (H.out).mono ?_; rintro e w' ⟨rfl, hb⟩)
  go_ret
  exact ⟨rfl, hb⟩
end Go.Proofs.Ytlojhklhhdgkcaa
