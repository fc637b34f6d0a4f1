/-
  Contracts: a text's sum, two sums joined; the document's answers; the chapter's example.
-/
import Derived.Test.YtkiecgcjnlgbnaaDoorCrcC
namespace Go.Proofs.YtkiecgcjnlgbnaaDoor
open Go.RowKit

/-- The sum of a text, by any table's function. -/
def sumBy (f : Nat → Nat) (c : Nat) (s : ByteArray) : Nat := Crc.neg (Crc.through f (Crc.neg c) (nums s))
/-- The sum of a text that goes on from c. -/
def sum (c : Nat) (s : ByteArray) : Nat := Crc.neg (Crc.raw (Crc.neg c) (nums s))
theorem sumBy_it (c : Nat) (s : ByteArray) : sumBy (Crc.it 8) c s = sum c s := by
  unfold sumBy sum
  rw [Crc.through_it _ _ (nums_lt s)]
theorem sum_lt (c : Nat) (s : ByteArray) : sum c s < 4294967296 := Crc.neg_lt _
theorem sumBy_lt (f : Nat → Nat) (c : Nat) (s : ByteArray) : sumBy f c s < 4294967296 := Crc.neg_lt _

theorem sum_tab (g : Nat) (s : ByteArray) (hs : s.size ≤ maxLen) (w : World) (ht : IsTab w g (Crc.it 8)) :
    Calls Tryd.prog 40 #[.pointer (some ⟨g, 0, none⟩), .string s] w fun e w' => e = .returned (.int .u32 (sum 0 s : Nat)) ∧ ∃ n, w' = w.drewN n := by
  have hu := update_tab (Crc.it 8) it8_lt g 0 (by omega) s hs w ht
  have HU := Lib.hid hu
  clear hu ht
  have e := sumBy_it 0 s
  unfold sumBy at e
  have HE := Lib.hid e
  clear e
  go_enter Tryd.func40, Tryd.ntmps40
  go_wp2_with (go_at_call 48; refine (HU.out).mono ?_; rintro e w' ⟨rfl, n, rfl⟩)
  go_ret
  exact ⟨ret_eq (by rw [HE.out]), n, rfl⟩

theorem rstep_any (n : Nat) (hn : n < 4294967296) (w : World) :
    Calls Tryd.prog 56 #[.int .u32 n] w fun e w' => e = .returned (.int .u32 (Crc.st n : Nat)) ∧ w = w' := by
  by_cases h : n % 2 = 1
  · go_enter Tryd.func56, Tryd.ntmps56
    go_wp2
    go_ret
    exact ⟨ret_eq (by rw [Crc.st_odd n h]; exact half_xor n hn), rfl⟩
  · go_enter Tryd.func56, Tryd.ntmps56
    go_wp2
    go_ret
    exact ⟨ret_eq (by rw [Crc.st_even n h]; rfl), rfl⟩

theorem rbyte_any (n : Nat) (hn : n < 4294967296) (w : World) :
    Calls Tryd.prog 52 #[.int .u32 n] w fun e w' => e = .returned (.int .u32 (Crc.it 8 n : Nat)) ∧ w = w' := by
  go_enter Tryd.func52, Tryd.ntmps52
  go_wp2
  go_loop [0, 3] (fun x i => ∃ k : Nat, k ≤ 8 ∧ i = .int .i64 k ∧ x = .int .u32 (Crc.it k n : Nat)) (fun _ i => 8 - (intOf i).toNat)
  case atStart => exact ⟨0, Nat.zero_le _, rfl, rfl⟩
  case round =>
    obtain ⟨k, hk, rfl, rfl⟩ := hrel
    have hl := Crc.it_lt k n hn
    by_cases hlt : k < 8
    · go_wp2_with (go_at_call 56; refine (rstep_any _ hl _).mono ?_; rintro e w' ⟨rfl, rfl⟩)
      go_round
      case rel => exact ⟨k + 1, by omega, by go_num, rfl⟩
      case measure => simp [intOf]; omega
    · obtain rfl : k = 8 := by omega
      go_wp2
      go_ret
      exact ⟨rfl, rfl⟩

theorem neg_int (c : Nat) (hc : c < 4294967296) : (4294967295 : Int) - (c : Int) = ((Crc.neg c : Nat) : Int) := by unfold Crc.neg; omega

theorem rupdate_any (c : Nat) (hc : c < 4294967296) (s : ByteArray) (hs : s.size ≤ maxLen) (w : World) :
    Calls Tryd.prog 45 #[.int .u32 c, .string s] w fun e w' => e = .returned (.int .u32 (sum c s : Nat)) ∧ w = w' := by
  unfold maxLen at hs
  go_enter Tryd.func45, Tryd.ntmps45
  go_wp2
  rw [neg_int c hc]
  go_loop [0, 5] (fun x i => ∃ k : Nat, k ≤ s.size ∧ i = .int .i64 k ∧ x = .int .u32 (Crc.raw (Crc.neg c) ((nums s).take k) : Nat)) (fun _ i => s.size - (intOf i).toNat)
  case atStart => exact ⟨0, Nat.zero_le _, rfl, rfl⟩
  case round =>
    obtain ⟨k, hk, rfl, rfl⟩ := hrel
    have hX := Crc.raw_lt (Crc.neg c) _ (Crc.neg_lt c) (nums_take_lt s k)
    generalize hXX : Crc.raw (Crc.neg c) ((nums s).take k) = X at hX
    have HX := Lib.hid hXX
    clear hXX
    by_cases hlt : k < s.size
    · have hsk : s[k].toNat < 256 := s[k].toNat_lt
      have hxx := xor32 X s[k].toNat hX (by omega)
      have hl : X ^^^ s[k].toNat < 4294967296 := Nat.xor_lt_two_pow (n := 32) hX (by omega)
      go_wp2_with (go_at_call 52; refine (rbyte_any _ hl _).mono ?_; rintro e w' ⟨rfl, rfl⟩)
      go_round
      case rel => exact ⟨k + 1, by omega, by go_num, by rw [nums_snoc s k hlt, Crc.raw_snoc, HX.out]⟩
      case measure => simp [intOf]; omega
    · obtain rfl : k = s.size := by omega
      go_wp2
      go_ret
      refine ⟨ret_eq ?_, rfl⟩
      have h := HX.out
      rw [← nums_len, List.take_length] at h
      rw [neg_int X hX]
      unfold sum
      rw [h]

theorem rsum_any (s : ByteArray) (hs : s.size ≤ maxLen) (w : World) :
    Calls Tryd.prog 25 #[.string s] w fun e w' => e = .returned (.int .u32 (sum 0 s : Nat)) ∧ w = w' := by
  have hu := rupdate_any 0 (by omega) s hs w
  have HU := Lib.hid hu
  clear hu
  go_enter Tryd.func25, Tryd.ntmps25
  go_wp2_with (go_at_call 45; refine (HU.out).mono ?_; rintro e w' ⟨rfl, rfl⟩)
  go_ret
  exact ⟨rfl, rfl⟩

def nine : ByteArray := ⟨#[49, 50, 51, 52, 53, 54, 55, 56, 57]⟩
theorem sum_nine : sum 0 nine = 3421780262 := by decide +kernel

theorem nine_calls (g : Nat) (w : World) (ht : IsTab w g (Crc.it 8)) :
    Calls Tryd.prog 40 #[.pointer (some ⟨g, 0, none⟩), .string ⟨#[49, 50, 51, 52, 53, 54, 55, 56, 57]⟩] w fun e w' => e = .returned (.int .u32 3421780262) ∧ ∃ n, w' = w.drewN n := by
  have h := sum_tab g nine (by decide) w ht
  rw [sum_nine] at h
  exact h

theorem made_tab (w1 : World) : IsTab ((w1.alloc (.cells (tab fun _ => 0) 75)).setRow w1.heap.size (tab (Crc.it 8))) w1.heap.size (Crc.it 8) := setRow_heap _ _ _ _ _ _ (heap_alloc_new _ _)
theorem made_below {w w1 : World} (hb1 : Below w.heap.size w w1) : Below w.heap.size w ((w1.alloc (.cells (tab fun _ => 0) 75)).setRow w1.heap.size (tab (Crc.it 8))) := below_setRow (hb1.alloc hb1.size _) hb1.size _

end Go.Proofs.YtkiecgcjnlgbnaaDoor
