/-
  Contracts of the sum that goes on, by a table and by none.
-/
import Derived.Test.YtmhalkkfpbkafaaDoorCrcB
import Derived.Test.YtmhalkkfpbkafaaDoorCurB
import Derived.Deep.QuietTactic
import Derived.BigQuiet
namespace Go.Proofs.YtmhalkkfpbkafaaDoor
open Go.RowKit

theorem through_lt (f : Nat → Nat) (hf : ∀ i, i < 256 → f i < 4294967296) (c : Nat) (l : List Nat) (hc : c < 4294967296) (hl : ∀ s ∈ l, s < 256) : Crc.through f c l < 4294967296 := by
  induction l generalizing c with
  | nil => exact hc
  | cons x l ih =>
    have hx := hl x (by simp)
    refine ih _ (Nat.xor_lt_two_pow (n := 32) (hf _ (Nat.xor_lt_two_pow (n := 8) (by omega) (by omega))) (by omega)) fun s hs => hl s (by simp [hs])

theorem update_tab (f : Nat → Nat) (hf : ∀ i, i < 256 → f i < 4294967296) (g c : Nat) (hc : c < 4294967296) (s : ByteArray) (hs : s.size ≤ maxLen) (w : World) (ht : IsTab w g f) :
    Calls Tryd.prog 84 #[.pointer (some ⟨g, 0, none⟩), .int .u32 c, .string s] w fun e w' => e = .returned (.int .u32 (Crc.neg (Crc.through f (Crc.neg c) (nums s)) : Nat)) ∧ ∃ n, w' = w.drewN n := by
  unfold maxLen at hs
  have HT := Lib.hid ht
  clear ht
  go_enter Tryd.func84, Tryd.ntmps84
  go_wp2
  have e0 : bits BinOp.xor IntKind.u32 IntKind.u32.max (c : Int) = ((Crc.neg c : Nat) : Int) := by
    rw [Crc.neg_xor c hc, Nat.xor_comm]
    exact u32_xor_nat 4294967295 c (by omega) hc
  rw [e0]
  clear e0
  go_loopw [1, 16] (fun x i wr => ∃ k : Nat, k ≤ s.size ∧ i = .int .i64 k ∧ x = .int .u32 (Crc.through f (Crc.neg c) ((nums s).take k) : Nat) ∧ ∃ n, wr = w.drewN n) (fun _ i _ => s.size - (intOf i).toNat)
  case atStart => exact ⟨0, Nat.zero_le _, rfl, rfl, 0, rfl⟩
  case round =>
    obtain ⟨k, hk, rfl, rfl, nd, rfl⟩ := hrel
    have hX := through_lt f hf (Crc.neg c) _ (Crc.neg_lt c) (nums_take_lt s k)
    generalize hXX : Crc.through f (Crc.neg c) ((nums s).take k) = X at hX
    have HX := Lib.hid hXX
    clear hXX
    by_cases hlt : k < s.size
    · have hsk : s[k].toNat < 256 := s[k].toNat_lt
      have hxx : bits .xor .u8 ((X : Int) % 256) (s[k].toNat : Int) = (((X % 256) ^^^ s[k].toNat : Nat) : Int) := u8_xor_nat (X % 256) _ (by omega) hsk
      have hJ : (X % 256) ^^^ s[k].toNat < 256 := Nat.xor_lt_two_pow (n := 8) (by omega) hsk
      have hcell := HT.out.cell _ hJ
      go_wp2
      go_quiet (fail)
      go_wp2
      go_roundw
      case rel =>
        refine ⟨k + 1, by omega, by go_num, ?_, nd + nq, rfl⟩
        rw [nums_snoc s k hlt, Crc.through_snoc, HX.out]
        congr 1
        exact xor32 _ (X / 256) (hf _ hJ) (by omega)
      case measure => simp [intOf]; omega
    · obtain rfl : k = s.size := by omega
      go_wp2
      go_ret
      refine ⟨ret_eq ?_, nd, rfl⟩
      have h := HX.out
      rw [← nums_len, List.take_length] at h
      rw [h, Crc.neg_xor X hX, Nat.xor_comm]
      exact u32_xor_nat 4294967295 X (by omega) hX

theorem it8_lt (i : Nat) (hi : i < 256) : Crc.it 8 i < 4294967296 := Crc.it_lt 8 i (by omega)

theorem update_nil (c : Nat) (hc : c < 4294967296) (s : ByteArray) (hs : s.size ≤ maxLen) (w : World) :
    Calls Tryd.prog 84 #[.pointer none, .int .u32 c, .string s] w fun e w' => e = .returned (.int .u32 (Crc.neg (Crc.raw (Crc.neg c) (nums s)) : Nat)) ∧ Below w.heap.size w w' := by
  unfold maxLen at hs
  have hz := zero_table
  go_enter Tryd.func84, Tryd.ntmps84
  go_wp2_with (first | (go_at_call 72; refine (make_any _).mono ?_; rintro e w1 ⟨rfl, hb1⟩) | (refine wpList_store_row rfl 136 (.tmp 7) (.tmp 11) rfl w1.heap.size (tab (Crc.it 8)) rfl rfl 136 (tab fun _ => 0) (heap_alloc_new _ _) (by rw [tab_size]; exact info_table) (by rw [tab_size, tab_size]) (tab_one _) ?_))
  have ht : IsTab ((w1.alloc (.cells (tab fun _ => 0) 136)).setRow w1.heap.size (tab (Crc.it 8))) w1.heap.size (Crc.it 8) := setRow_heap _ _ _ _ _ _ (heap_alloc_new _ _)
  have hb : Below w.heap.size w ((w1.alloc (.cells (tab fun _ => 0) 136)).setRow w1.heap.size (tab (Crc.it 8))) := below_setRow (hb1.alloc hb1.size _) hb1.size _
  generalize (w1.alloc (.cells (tab fun _ => 0) 136)).setRow w1.heap.size (tab (Crc.it 8)) = W1 at *
  generalize w1.heap.size = g at *
  have HT := Lib.hid ht
  have HB := Lib.hid hb
  clear ht hb hb1 hz
  have e0 : bits BinOp.xor IntKind.u32 IntKind.u32.max (c : Int) = ((Crc.neg c : Nat) : Int) := by
    rw [Crc.neg_xor c hc, Nat.xor_comm]
    exact u32_xor_nat 4294967295 c (by omega) hc
  rw [e0]
  clear e0
  go_loopw [1, 16] (fun x i wr => ∃ k : Nat, k ≤ s.size ∧ i = .int .i64 k ∧ x = .int .u32 (Crc.through (Crc.it 8) (Crc.neg c) ((nums s).take k) : Nat) ∧ ∃ n, wr = W1.drewN n) (fun _ i _ => s.size - (intOf i).toNat)
  case atStart => exact ⟨0, Nat.zero_le _, rfl, rfl, 0, rfl⟩
  case round =>
    obtain ⟨k, hk, rfl, rfl, nd, rfl⟩ := hrel
    have hX := through_lt (Crc.it 8) it8_lt (Crc.neg c) _ (Crc.neg_lt c) (nums_take_lt s k)
    generalize hXX : Crc.through (Crc.it 8) (Crc.neg c) ((nums s).take k) = X at hX
    have HX := Lib.hid hXX
    clear hXX
    by_cases hlt : k < s.size
    · have hsk : s[k].toNat < 256 := s[k].toNat_lt
      have hxx : bits .xor .u8 ((X : Int) % 256) (s[k].toNat : Int) = (((X % 256) ^^^ s[k].toNat : Nat) : Int) := u8_xor_nat (X % 256) _ (by omega) hsk
      have hJ : (X % 256) ^^^ s[k].toNat < 256 := Nat.xor_lt_two_pow (n := 8) (by omega) hsk
      have hcell := HT.out.cell _ hJ
      go_wp2
      go_quiet (fail)
      go_wp2
      go_roundw
      case rel =>
        refine ⟨k + 1, by omega, by go_num, ?_, nd + nq, rfl⟩
        rw [nums_snoc s k hlt, Crc.through_snoc, HX.out]
        congr 1
        exact xor32 _ (X / 256) (it8_lt _ hJ) (by omega)
      case measure => simp [intOf]; omega
    · obtain rfl : k = s.size := by omega
      go_wp2
      go_ret
      refine ⟨ret_eq ?_, below_drewN HB.out nd⟩
      have h := HX.out
      rw [← nums_len, List.take_length] at h
      rw [Crc.through_it _ _ (nums_lt s)] at h
      rw [h, Crc.neg_xor X hX, Nat.xor_comm]
      exact u32_xor_nat 4294967295 X (by omega) hX


end Go.Proofs.YtmhalkkfpbkafaaDoor
