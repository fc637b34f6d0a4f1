/-
  The walk of CrcTurns: it returns true, whatever the text, the place and the turn.
-/
import Derived.Test.YtcfpkmonbnfehaaCrcJoinsWalk
import Derived.Test.YtcfpkmonbnfehaaCrcTurnMath
import Derived.Laws.IdiomStrings
namespace Go.Proofs.Ytcfpkmonbnfehaa
open Go.RowKit

/-- A text's byte at a place. -/
def bAt (s : ByteArray) (j : Nat) : Nat := (nums s).getD j 0
/-- It, turned from k on, for i bytes. -/
def tAt (s : ByteArray) (k turn i j : Nat) : Nat := if k ≤ j ∧ j < k + i then bAt s j ^^^ (turn / 2 ^ (8 * (j - k)) % 256) else bAt s j

theorem bAt_lt (s : ByteArray) (j : Nat) : bAt s j < 256 := by
  unfold bAt
  rw [List.getD_eq_getElem?_getD]
  cases h : (nums s)[j]? with
  | none => simp
  | some x => exact nums_lt s x (List.mem_of_getElem? h)

theorem bAt_eq (s : ByteArray) (j : Nat) (h : j < s.size) : bAt s j = s[j].toNat := by
  unfold bAt
  rw [List.getD_eq_getElem?_getD, List.getElem?_eq_getElem (by rw [nums_len]; exact h)]
  unfold nums
  simp
  rfl

theorem place (a1 : Int) (n : Nat) (h4 : 4 ≤ n) (h5 : n ≤ 5000) : ∃ k : Nat, wrap64 ((IntKind.u64.wrap a1).tmod ((n : Int) - 3)) = k ∧ k + 3 < n := by
  have h0 : 0 ≤ IntKind.u64.wrap a1 := wrap_u64_nonneg a1
  generalize IntKind.u64.wrap a1 = x at *
  obtain ⟨X, rfl⟩ := Int.eq_ofNat_of_zero_le h0
  have e : ((X : Int).tmod ((n : Int) - 3)) = ((X % (n - 3) : Nat) : Int) := by
    rw [show ((n : Int) - 3) = ((n - 3 : Nat) : Int) from by omega]
    exact (Int.ofNat_tmod X (n - 3)).symm
  have hlt : X % (n - 3) < n - 3 := Nat.mod_lt _ (by omega)
  refine ⟨X % (n - 3), ?_, by omega⟩
  rw [e]
  unfold wrap64
  omega

theorem tAt_new (s : ByteArray) (k t m : Nat) : tAt s k t (m + 1) (k + m) = bAt s (k + m) ^^^ (t / 2 ^ (8 * m) % 256) := by
  unfold tAt
  rw [if_pos ⟨by omega, by omega⟩, show k + m - k = m by omega]
/-- The turned text. -/
def tText (s : ByteArray) (k t : Nat) : List UInt8 := (List.range s.size).map fun j => UInt8.ofNat (tAt s k t 4 j)
theorem tText_len (s : ByteArray) (k t : Nat) : (tText s k t).length = s.size := by simp [tText]
theorem tAt_lt (s : ByteArray) (k t m j : Nat) : tAt s k t m j < 256 := by
  unfold tAt
  split
  · exact Nat.xor_lt_two_pow (n := 8) (bAt_lt s j) (by omega)
  · exact bAt_lt s j
theorem tText_at (s : ByteArray) (k t j : Nat) (h : j < (tText s k t).length) : (tText s k t)[j].toNat = tAt s k t 4 j := by
  have hj : j < s.size := by rw [tText_len] at h; exact h
  have e : (tText s k t)[j]? = some (UInt8.ofNat (tAt s k t 4 j)) := by
    unfold tText
    rw [List.getElem?_map, List.getElem?_range hj]
    rfl
  rw [List.getElem?_eq_getElem h] at e
  rw [Option.some.inj e]
  exact Nat.mod_eq_of_lt (tAt_lt s k t 4 j)
theorem bAt_get (s : ByteArray) (j : Nat) (h : j < s.size) : (nums s)[j]? = some (bAt s j) := by
  unfold bAt
  rw [List.getD_eq_getElem?_getD, List.getElem?_eq_getElem (by rw [nums_len]; exact h)]
  rfl
theorem nums_turned (s : ByteArray) (k t : Nat) (h : k + 3 < s.size) :
    nums ⟨(tText s k t).toArray⟩ = (nums s).take k ++ Crc.turn t (((nums s).drop k).take 4) ++ (nums s).drop (k + 4) := by
  have hl : (((nums s).drop k).take 4).length = 4 := by simp [nums_len]; omega
  have hk : ((nums s).take k).length = k := by simp [nums_len]; omega
  have e : nums ⟨(tText s k t).toArray⟩ = (List.range s.size).map (tAt s k t 4) := by
    unfold nums tText
    simp
    intro j _
    exact tAt_lt s k t 4 j
  rw [e]
  apply List.ext_getElem?
  intro j
  by_cases h1 : j < k
  · rw [List.append_assoc, List.getElem?_append_left (by rw [hk]; exact h1), List.getElem?_take_of_lt h1, bAt_get s j (by omega)]
    simp only [List.getElem?_map, List.getElem?_range (show j < s.size by omega), Option.map_some]
    rw [show tAt s k t 4 j = bAt s j from if_neg (by omega)]
  · by_cases h2 : j < k + 4
    · rw [List.append_assoc, List.getElem?_append_right (by rw [hk]; omega), hk, List.getElem?_append_left (by rw [Crc.turn_len, hl]; omega), Crc.turn_at]
      rw [List.getElem?_take_of_lt (by omega), List.getElem?_drop, show k + (j - k) = j by omega, bAt_get s j (by omega)]
      simp only [List.getElem?_map, List.getElem?_range (show j < s.size by omega), Option.map_some]
      rw [show tAt s k t 4 j = _ from if_pos ⟨by omega, h2⟩, Nat.pow_mul]
    · rw [List.getElem?_append_right (by rw [List.length_append, hk, Crc.turn_len, hl]; omega), List.length_append, hk, Crc.turn_len, hl, List.getElem?_drop, show k + 4 + (j - (k + 4)) = j by omega]
      by_cases h3 : j < s.size
      · rw [bAt_get s j h3]
        simp only [List.getElem?_map, List.getElem?_range h3, Option.map_some]
        rw [show tAt s k t 4 j = bAt s j from if_neg (by omega)]
      · rw [List.getElem?_eq_none (by simp; omega), List.getElem?_eq_none (by rw [nums_len]; omega)]
theorem sum_other (s : ByteArray) (k t : Nat) (h : k + 3 < s.size) (ht : t < 4294967296) (h0 : 0 < t) : sum 0 ⟨(tText s k t).toArray⟩ ≠ sum 0 s := by
  intro he
  have hl : (((nums s).drop k).take 4).length = 4 := by simp [nums_len]; omega
  have hs : nums s = (nums s).take k ++ ((nums s).drop k).take 4 ++ (nums s).drop (k + 4) := by
    rw [List.append_assoc]
    have h2 : (nums s).drop (k + 4) = ((nums s).drop k).drop 4 := by rw [List.drop_drop]
    rw [h2, List.take_append_drop, List.take_append_drop]
  have r1 := Crc.raw_lt (Crc.neg 0) _ (Crc.neg_lt 0) (nums_lt s)
  have r2 := Crc.raw_lt (Crc.neg 0) _ (Crc.neg_lt 0) (nums_lt ⟨(tText s k t).toArray⟩)
  unfold sum at he
  have hr : Crc.raw (Crc.neg 0) (nums ⟨(tText s k t).toArray⟩) = Crc.raw (Crc.neg 0) (nums s) := by
    unfold Crc.neg at he r1 r2 ⊢
    omega
  rw [nums_turned s k t h] at hr
  conv at hr => rhs; rw [hs]
  exact Crc.raw_other _ _ _ _ t hl ht (by omega) hr

theorem crcTurns_main (a0 : ByteArray) (a1 : Int) (t : Nat) (h4 : 4 ≤ a0.size) (h5 : a0.size ≤ 5000) (ht : t < 4294967296) (h0 : 0 < t) (w : World) :
    Calls Try.prog 11 #[.string a0, .int .i64 a1, .int .u32 t] w fun e w' => e = .returned (.bool true) ∧ Below w.heap.size w w' := by
  have hconv := fun w => run_bytes_of_string (P := Try.prog) w 9 68 5 a0 Try.underlying9 Try.underlying68 Try.underlying5
  have hz := zero_table
  obtain ⟨k, hk, hk3⟩ := place a1 a0.size h4 h5
  have htz : ((t : Int) == 0) = false := by rw [beq_eq_false_iff_ne]; omega
  go_enter Try.func11, Try.ntmps11
  go_wp2_with (go_at_call 33; refine (awake2_any _).mono ?_; rintro e wA ⟨rfl, hb1⟩)
  obtain ⟨W1, hW1⟩ : ∃ W, W = (wA.alloc (.cells (bytesRow a0 (grownCap wA a0.size 0 5)) 5 ((bytesRow a0 (grownCap wA a0.size 0 5)).size, (bytesRow a0 (grownCap wA a0.size 0 5)).size + 1))).drew := ⟨_, rfl⟩
  have hcells : ∀ j, j < a0.size → W1.cell? ⟨wA.heap.size, j, none⟩ = some (.int .u8 (bAt a0 j : Nat)) ∧ W1.frozen? ⟨wA.heap.size, j, none⟩ = false := by
    intro j hj
    subst hW1
    refine ⟨?_, ?_⟩
    · rw [World.cell?_drew, World.cell?_alloc_mark, bytesRow_at a0 _ j (by exact hj), bAt_eq a0 j hj]
      rfl
    · rw [World.frozen?_drew, World.frozen?_alloc_mark]
      have hs : j < (bytesRow a0 (grownCap wA a0.size 0 5)).size := by
        unfold bytesRow
        simp
        omega
      simp
      omega
  have hbW : Below w.heap.size w W1 := by
    subst hW1
    exact (hb1.alloc hb1.size _).drew
  rw [← hW1]
  clear hW1 hconv
  generalize grownCap wA a0.size 0 5 = cap at *
  have HC := Lib.hid hcells
  have HG := Lib.hid hb1.size
  have HB := Lib.hid hbW
  clear hcells hbW hb1
  go_loopw [35] (fun i wr => ∃ m : Nat, m ≤ 4 ∧ i = .int .i64 m ∧ (∀ j, j < a0.size → wr.cell? ⟨wA.heap.size, j, none⟩ = some (.int .u8 (tAt a0 k t m j : Nat)) ∧ wr.frozen? ⟨wA.heap.size, j, none⟩ = false) ∧ Below w.heap.size w wr) (fun i _ => 4 - (intOf i).toNat)
  case atStart => exact ⟨0, Nat.zero_le _, rfl, fun j hj => by rw [show tAt a0 k t 0 j = bAt a0 j from if_neg (by omega)]; exact HC.out j hj, HB.out⟩
  case round =>
    obtain ⟨m, hm, rfl, hc, hb⟩ := hrel
    have HC1 := Lib.hid hc
    have HB1 := Lib.hid hb
    clear hc hb
    by_cases hlt : m < 4
    · obtain ⟨hc1, hf1⟩ := HC1.out (k + m) (by omega)
      have hd : decide ((m : Int) < 4) = true := decide_eq_true (by omega)
      go_wp2
      go_region
      go_wp2
      go_roundw
      case rel =>
        refine ⟨m + 1, by omega, by go_num, fun j hj => ?_, (HB1.out.setCell (by exact HG.out) _).drew⟩
        obtain ⟨hcj, hfj⟩ := HC1.out j hj
        by_cases he : j = k + m
        · subst he
          refine ⟨?_, ?_⟩
          · rw [World.cell?_drew, World.cell?_setCell_same _ _ _ hcj]
            have e0 : tAt a0 k t m (k + m) = bAt a0 (k + m) := if_neg (by omega)
            have e1 := tAt_new a0 k t m
            have e2 : ((t : Int) / 2 ^ (8 * m) % 256) = ((t / 2 ^ (8 * m) % 256 : Nat) : Int) := by simp
            rw [e0, e1, e2, u8_xor_nat _ _ (bAt_lt a0 _) (by omega)]
          · rw [World.frozen?_drew, World.frozen?_setCell]
            exact hfj
        · refine ⟨?_, ?_⟩
          · rw [World.cell?_drew, World.cell?_setCell_other _ _ _ _ (by intro h; injection h with _ h2; exact he h2.symm), hcj]
            have e3 : tAt a0 k t (m + 1) j = tAt a0 k t m j := by
              unfold tAt
              by_cases h1 : k ≤ j ∧ j < k + m
              · rw [if_pos h1, if_pos ⟨h1.1, by omega⟩]
              · rw [if_neg h1, if_neg (by omega)]
            rw [e3]
          · rw [World.frozen?_drew, World.frozen?_setCell]
            exact hfj
      case measure => simp [intOf]; omega
    · obtain rfl : m = 4 := by omega
      have hcb := fun j (hj : j < a0.size) => (HC1.out j hj).1
      have HCB := Lib.hid hcb
      have hglt : wA.heap.size < wr.heap.size := block_lt_of_cell (hcb 0 (by omega))
      have HGL := Lib.hid hglt
      clear hcb hglt
      go_wp2_with fail
      refine (make_any _).mono ?_; rintro e w2 ⟨rfl, hb2⟩
      have ht2 := made_tab w2
      have hb3 := below_then HB1.out (made_below hb2)
      have hcv : (convert 68 9 (.slice (some ⟨wA.heap.size, 0, none⟩) a0.size cap)).run Try.prog ((w2.alloc (.cells (tab fun _ => 0) 55)).setRow w2.heap.size (tab (Crc.it 8))) = .ok (.string ⟨(tText a0 k t).toArray⟩) ((w2.alloc (.cells (tab fun _ => 0) 55)).setRow w2.heap.size (tab (Crc.it 8))) := by
        have h := run_convert_bytes_back (P := Try.prog) ((w2.alloc (.cells (tab fun _ => 0) 55)).setRow w2.heap.size (tab (Crc.it 8))) 68 9 5 ⟨wA.heap.size, 0, none⟩ cap (tText a0 k t) Try.underlying68 Try.underlying5 Try.underlying9 (fun j hj => by
          have hj' : j < a0.size := by rw [tText_len] at hj; exact hj
          rw [Addr.add_lit, Nat.zero_add, (made_below hb2).cell (p := ⟨wA.heap.size, j, none⟩) HGL.out, HCB.out j hj', tText_at a0 k t j hj])
        rw [tText_len] at h
        exact h
      go_wp2_with (refine wpList_store_row rfl 55 (.tmp 10) (.tmp 52) rfl w2.heap.size (tab (Crc.it 8)) rfl rfl 55 (tab fun _ => 0) (heap_alloc_new _ _) (by rw [tab_size]; exact info_table) (by rw [tab_size, tab_size]) (tab_one _) ?_)
      have hT : (⟨(tText a0 k t).toArray⟩ : ByteArray).size ≤ maxLen := by
        show (tText a0 k t).toArray.size ≤ maxLen
        simp only [List.size_toArray, tText_len]
        unfold maxLen
        omega
      have hne := sum_other a0 k t hk3 ht h0
      have HN : Hid ((((sum 0 ⟨(tText a0 k t).toArray⟩ : Nat) : Int) != ((sum 0 a0 : Nat) : Int)) = true) := by
        show (_ != _) = true
        rw [bne_iff_ne]
        omega
      refine (sum_tab w2.heap.size _ hT _ ht2).mono ?_; rintro e w' ⟨rfl, n1, rfl⟩
      go_wp2_with fail
      refine (sum_tab w2.heap.size a0 (by unfold maxLen; omega) _ (ht2.drewN _)).mono ?_; rintro e w' ⟨rfl, n2, rfl⟩
      go_wp2_with fail
      go_ret
      refine ⟨?_, below_drewN hb3 _⟩
      show Ending.returned (.bool (((sum 0 ⟨(tText a0 k t).toArray⟩ : Nat) : Int) != ((sum 0 a0 : Nat) : Int))) = _
      rw [HN.out]

theorem crcTurns_walk (a0 : ByteArray) (a1 : Int) (a2 : Int) (_w0 : a0.size ≤ maxLen) (_w1 : (Lit.int .i64 a1).wf = true) (w2 : (Lit.int .u32 a2).wf = true) (w : World) :
    Calls Try.prog 11 #[.string a0, .int .i64 a1, .int .u32 a2] w fun e w' => e = .returned (.bool true) ∧ Below w.heap.size w w' := by
  obtain ⟨t, rfl, ht⟩ := nat_u32 w2
  clear w2
  by_cases h4 : 4 ≤ a0.size
  · by_cases h5 : a0.size ≤ 5000
    · by_cases h0 : 0 < t
      · exact crcTurns_main a0 a1 t h4 h5 ht h0 w
      · obtain rfl : t = 0 := by omega
        go_enter Try.func11, Try.ntmps11
        go_wp2_with (go_at_call 33; refine (awake2_any _).mono ?_; rintro e wA ⟨rfl, hb1⟩)
        go_ret
        exact ⟨rfl, hb1⟩
    · go_enter Try.func11, Try.ntmps11
      go_wp2_with (go_at_call 33; refine (awake2_any _).mono ?_; rintro e wA ⟨rfl, hb1⟩)
      go_ret
      exact ⟨rfl, hb1⟩
  · go_enter Try.func11, Try.ntmps11
    go_wp2_with (go_at_call 33; refine (awake2_any _).mono ?_; rintro e wA ⟨rfl, hb1⟩)
    go_ret
    exact ⟨rfl, hb1⟩
end Go.Proofs.Ytcfpkmonbnfehaa
