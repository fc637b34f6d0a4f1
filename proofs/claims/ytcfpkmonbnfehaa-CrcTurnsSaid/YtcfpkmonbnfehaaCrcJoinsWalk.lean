/-
  The walk of CrcJoins: it returns true, whatever the texts, the sum and the count.
-/
import Derived.Test.YtcfpkmonbnfehaaCrcD
namespace Go.Proofs.Ytcfpkmonbnfehaa
open Go.RowKit

theorem IsTab.drewN {w : World} {g : Nat} {f : Nat → Nat} (h : IsTab w g f) (n : Nat) : IsTab (w.drewN n) g f := h

theorem nums_append (a b : ByteArray) : nums (a ++ b) = nums a ++ nums b := by
  unfold nums
  rw [ByteArray.data_append]
  simp
/-- The sum of two texts: the second's goes on behind the first's. -/
theorem sum_on (a b : ByteArray) : sum (sum 0 a) b = sum 0 (a ++ b) := by
  unfold sum
  rw [nums_append, Crc.raw_append, Crc.neg_neg _ (Crc.raw_lt _ _ (Crc.neg_lt 0) (nums_lt a))]
/-- The sum of two texts by theirs. -/
theorem sum_join (a b : ByteArray) : Crc.shift b.size (sum 0 a) ^^^ sum 0 b = sum 0 (a ++ b) := by
  rw [← sum_on]
  have hr := Crc.raw_lt (Crc.neg 0) _ (Crc.neg_lt 0) (nums_lt b)
  have hx : Crc.neg (sum 0 a) = Crc.neg 0 ^^^ sum 0 a := by
    rw [Crc.neg_xor _ (sum_lt 0 a), Nat.xor_comm]
    rfl
  have h2 : sum (sum 0 a) b = Crc.neg (Crc.raw (Crc.neg (sum 0 a)) (nums b)) := rfl
  have hl : Crc.it (8 * (nums b).length) (sum 0 a) < 4294967296 := Crc.it_lt _ _ (sum_lt 0 a)
  rw [h2, hx, Crc.raw_xor, Crc.neg_xor _ (Nat.xor_lt_two_pow (n := 32) hr hl)]
  unfold Crc.shift
  have h3 : sum 0 b = Crc.raw (Crc.neg 0) (nums b) ^^^ 4294967295 := by
    unfold sum
    rw [Crc.neg_xor _ hr]
  rw [h3, nums_len, Nat.xor_comm (Crc.raw _ _) (Crc.it _ _), Nat.xor_assoc]

theorem upd_tab (g c : Nat) (hc : c < 4294967296) (s : ByteArray) (hs : s.size ≤ maxLen) (w : World) (ht : IsTab w g (Crc.it 8)) :
    Calls Try.prog 37 #[.pointer (some ⟨g, 0, none⟩), .int .u32 c, .string s] w fun e w' => e = .returned (.int .u32 (sum c s : Nat)) ∧ ∃ n, w' = w.drewN n := by
  have h := update_tab (Crc.it 8) it8_lt g c hc s hs w ht
  rw [show Crc.neg (Crc.through (Crc.it 8) (Crc.neg c) (nums s)) = sum c s from sumBy_it c s] at h
  exact h

theorem crcJoins_walk (a0 : ByteArray) (a1 : ByteArray) (a2 : Int) (a3 : Int) (w0 : a0.size ≤ maxLen) (w1 : a1.size ≤ maxLen) (w2 : (Lit.int .u32 a2).wf = true) (w3 : (Lit.int .u16 a3).wf = true) (w : World) :
    Calls Try.prog 9 #[.string a0, .string a1, .int .u32 a2, .int .u16 a3] w fun e w' => e = .returned (.bool true) ∧ Below w.heap.size w w' := by
  obtain ⟨s, rfl, hs⟩ := nat_u32 w2
  obtain ⟨n, rfl, hn⟩ := nat_u16 w3
  clear w2 w3
  have hz := zero_table
  by_cases ha : a0.size ≤ 5000
  · by_cases hb : a1.size ≤ 5000
    · have HJ := Lib.hid (sum_join a0 a1)
      have HO := Lib.hid (sum_on a0 a1)
      have hab : (a0 ++ a1).size ≤ maxLen := by rw [ByteArray.size_append]; unfold maxLen; omega
      go_enter Try.func9, Try.ntmps9
      go_wp2_with (first | (go_at_call 33; refine (awake2_any _).mono ?_; rintro e wA ⟨rfl, hb1⟩) | (go_at_call 34; refine (make_any _).mono ?_; rintro e w2 ⟨rfl, hb2⟩) | (refine wpList_store_row rfl 55 (.tmp 9) (.tmp 20) rfl w2.heap.size (tab (Crc.it 8)) rfl rfl 55 (tab fun _ => 0) (heap_alloc_new _ _) (by rw [tab_size]; exact info_table) (by rw [tab_size, tab_size]) (tab_one _) ?_))
      have ht := made_tab w2
      have hbb := below_then hb1 (made_below hb2)
      generalize (w2.alloc (.cells (tab fun _ => 0) 55)).setRow w2.heap.size (tab (Crc.it 8)) = W1 at *
      generalize w2.heap.size = g at *
      have HT := Lib.hid ht
      have HB := Lib.hid hbb
      clear ht hbb hb1 hb2 hz
      refine (sum_tab g a0 w0 _ HT.out).mono ?_; rintro e w' ⟨rfl, n1, rfl⟩
      go_wp2_with fail
      refine (sum_tab g a1 w1 _ (HT.out.drewN _)).mono ?_; rintro e w' ⟨rfl, n2, rfl⟩
      go_wp2_with fail
      refine (join_any _ _ _ _ (sum_lt _ _) (sum_lt _ _) (by omega) _).mono ?_; rintro e w' ⟨rfl, rfl⟩
      rw [HJ.out]
      go_wp2_with fail
      refine (sum_tab g (a0 ++ a1) hab _ (HT.out.drewN _)).mono ?_; rintro e w' ⟨rfl, n3, rfl⟩
      go_wp2_with fail
      refine (sum_tab g a0 w0 _ (HT.out.drewN _)).mono ?_; rintro e w' ⟨rfl, n4, rfl⟩
      go_wp2_with fail
      refine (upd_tab g _ (sum_lt _ _) a1 w1 _ (HT.out.drewN _)).mono ?_; rintro e w' ⟨rfl, n5, rfl⟩
      rw [HO.out]
      go_wp2_with fail
      refine (sum_tab g (a0 ++ a1) hab _ (HT.out.drewN _)).mono ?_; rintro e w' ⟨rfl, n6, rfl⟩
      go_wp2_with fail
      refine (shift_any _ _ hs (by omega) _).mono ?_; rintro e w' ⟨rfl, rfl⟩
      go_wp2_with fail
      refine (rshift_any _ _ hs (by omega) _).mono ?_; rintro e w' ⟨rfl, rfl⟩
      go_wp2_with fail
      go_ret
      exact ⟨rfl, below_drewN HB.out _⟩
    · go_enter Try.func9, Try.ntmps9
      go_wp2_with (go_at_call 33; refine (awake2_any _).mono ?_; rintro e wA ⟨rfl, hb1⟩)
      go_ret
      exact ⟨rfl, hb1⟩
  · go_enter Try.func9, Try.ntmps9
    go_wp2_with (go_at_call 33; refine (awake2_any _).mono ?_; rintro e wA ⟨rfl, hb1⟩)
    go_ret
    exact ⟨rfl, hb1⟩
end Go.Proofs.Ytcfpkmonbnfehaa
