/-
  The walk of CursorBack: it returns true, whatever the numbers and the text.
-/
import Derived.Test.YtcfpkmonbnfehaaCurD
namespace Go.Proofs.Ytcfpkmonbnfehaa
open Go.RowKit Go.Joins

theorem text_size (l : List Nat) : (text l).size = l.length := by
  show (l.map UInt8.ofNat).toArray.size = _
  simp
theorem nums_text (l : List Nat) (hl : ∀ x ∈ l, x < 256) : nums (text l) = l := by
  unfold nums text
  simp only [List.map_map]
  conv => rhs; rw [← List.map_id l]
  apply List.map_congr_left
  intro x hx
  exact Nat.mod_eq_of_lt (hl x hx)
theorem nums_append (a b : ByteArray) : nums (a ++ b) = nums a ++ nums b := by
  unfold nums
  rw [ByteArray.data_append]
  simp
theorem map_inj : ∀ (l m : List UInt8), l.map UInt8.toNat = m.map UInt8.toNat → l = m
  | [], [], _ => rfl
  | [], _ :: _, h => by simp at h
  | _ :: _, [], h => by simp at h
  | x :: l, y :: m, h => by
    simp only [List.map_cons, List.cons.injEq] at h
    rw [UInt8.toNat_inj.1 h.1, map_inj l m h.2]
theorem nums_inj (a b : ByteArray) (h : nums a = nums b) : a = b := by
  have h2 : a.data.toList = b.data.toList := map_inj _ _ h
  cases a with
  | mk x => cases b with
    | mk y => exact congrArg ByteArray.mk (Array.toList_inj.1 h2)
theorem numL_le (n k : Nat) : numL (le n k) = n % 256 ^ k := by
  induction k with
  | zero => simp [le, numL, Nat.mod_one]
  | succ k ih =>
    rw [le, numL_snoc, ih, le_len, Nat.pow_succ, Nat.mod_mul, Nat.mul_comm (256 ^ k)]

theorem mayB_yes (s : ByteArray) (a k : Nat) (h : a + k ≤ s.size) : mayB s a 0 (k : Nat) = true := by
  unfold mayB
  exact decide_eq_true ⟨rfl, by omega, by omega⟩
theorem atB_yes (s : ByteArray) (a k : Nat) (h : a + k ≤ s.size) : atB s a 0 (k : Nat) = a + k := if_pos (mayB_yes s a k h)
theorem errB_yes (s : ByteArray) (a k : Nat) (h : a + k ≤ s.size) : errB s a 0 (k : Nat) = 0 := if_pos (mayB_yes s a k h)
theorem nums_piece (s : ByteArray) (a k : Nat) (h : a + k ≤ s.size) : nums (piece s a 0 (k : Nat)) = ((nums s).drop a).take k := by
  unfold piece
  rw [if_pos (mayB_yes s a k h), Int.toNat_natCast]
  unfold nums
  rw [ByteArray.data_extract]
  simp

section
variable (a b n : Nat) (s : ByteArray)
/-- All that is written. -/
def allT : ByteArray := text (le a 2) ++ text (le b 4) ++ s ++ text (le n 8) ++ text (le n 3)
theorem allT_size : (allT a b n s).size = s.size + 17 := by
  unfold allT
  simp only [ByteArray.size_append, text_size, le_len]
  omega
theorem allT_nums : nums (allT a b n s) = le a 2 ++ le b 4 ++ nums s ++ le n 8 ++ le n 3 := by
  unfold allT
  simp only [nums_append, nums_text _ (le_lt _ _)]
theorem get1 : nums (piece (allT a b n s) 0 0 ((2 : Nat) : Int)) = le a 2 := by
  rw [nums_piece _ _ _ (by rw [allT_size]; omega), allT_nums, List.drop_zero]
  simp only [List.append_assoc]
  rw [List.take_left' (le_len a 2)]
theorem get2 : nums (piece (allT a b n s) 2 0 ((4 : Nat) : Int)) = le b 4 := by
  rw [nums_piece _ _ _ (by rw [allT_size]; omega), allT_nums]
  simp only [List.append_assoc]
  rw [List.drop_left' (le_len a 2), List.take_left' (le_len b 4)]
theorem get3 : nums (piece (allT a b n s) 6 0 ((s.size : Nat) : Int)) = nums s := by
  rw [nums_piece _ _ _ (by rw [allT_size]; omega), allT_nums]
  have e : le a 2 ++ le b 4 ++ nums s ++ le n 8 ++ le n 3 = (le a 2 ++ le b 4) ++ (nums s ++ (le n 8 ++ le n 3)) := by simp only [List.append_assoc]
  rw [e, List.drop_left' (by simp [le_len]), List.take_left' (nums_len s)]
theorem get4 : nums (piece (allT a b n s) (6 + s.size) 0 ((8 : Nat) : Int)) = le n 8 := by
  rw [nums_piece _ _ _ (by rw [allT_size]; omega), allT_nums]
  have e : le a 2 ++ le b 4 ++ nums s ++ le n 8 ++ le n 3 = (le a 2 ++ le b 4 ++ nums s) ++ (le n 8 ++ le n 3) := by simp only [List.append_assoc]
  rw [e, List.drop_left' (by simp [le_len, nums_len]; omega), List.take_left' (le_len n 8)]
theorem get5 : nums (piece (allT a b n s) (14 + s.size) 0 ((3 : Nat) : Int)) = le n 3 := by
  rw [nums_piece _ _ _ (by rw [allT_size]; omega), allT_nums]
  have e : le a 2 ++ le b 4 ++ nums s ++ le n 8 ++ le n 3 = (le a 2 ++ le b 4 ++ nums s ++ le n 8) ++ le n 3 := by simp only [List.append_assoc]
  rw [e, List.drop_left' (by simp [le_len, nums_len]; omega), List.take_of_length_le (by rw [le_len]; omega)]
end

theorem cursorBack_walk (a0 : Int) (a1 : Int) (a2 : Int) (a3 : ByteArray) (w0 : (Lit.int .u16 a0).wf = true) (w1 : (Lit.int .u32 a1).wf = true) (w2 : (Lit.int .u64 a2).wf = true) (_w3 : a3.size ≤ maxLen) (w : World) :
    Calls Try.prog 5 #[.int .u16 a0, .int .u32 a1, .int .u64 a2, .string a3] w fun e w' => e = .returned (.bool true) ∧ Below w.heap.size w w' := by
  obtain ⟨a, rfl, ha⟩ := nat_u16 w0
  obtain ⟨b, rfl, hb⟩ := nat_u32 w1
  obtain ⟨n, rfl, hn⟩ := nat_u64 w2
  clear w0 w1 w2
  by_cases h2 : a3.size ≤ 2000
  · have z1 : (text (le a 2)).size ≤ 2 := by rw [text_size, le_len]; omega
    have z2 : (text (le b 4)).size ≤ 4 := by rw [text_size, le_len]; omega
    have z3 : (text (le n 8)).size ≤ 8 := by rw [text_size, le_len]; omega
    have z4 : (text (le n 3)).size ≤ 3 := by rw [text_size, le_len]; omega
    go_enter Try.func5, Try.ntmps5
    go_wp2_with (first | (go_at_call 12; refine (awake1_any _).mono ?_; rintro r wA ⟨rfl, hbA⟩) | (go_at_call 15; refine (two_any a ha _).mono ?_; rintro r wB ⟨rfl, hbB⟩) | (go_at_call 17; refine (four_any b hb _).mono ?_; rintro r wC ⟨rfl, hbC⟩) | (go_at_call 18; refine (eight_any n hn _).mono ?_; rintro r wD ⟨rfl, hbD⟩))
    have HD := Lib.hid (below_then (below_then (below_then hbA hbB) hbC) hbD)
    clear hbA hbB hbC hbD
    refine (of_any n hn 3 _).mono ?_; rintro r wE ⟨rfl, hbE⟩
    rw [show (min (3 : Int) 64).toNat = 3 from rfl]
    have HE := Lib.hid (below_then HD.out hbE)
    clear hbE HD
    go_wp2_with fail
    have hall : text (le a 2) ++ text (le b 4) ++ a3 ++ text (le n 8) ++ text (le n 3) = allT a b n a3 := rfl
    rw [hall]
    clear hall
    have hsz := allT_size a b n a3
    have g1 := get1 a b n a3
    have g2 := get2 a b n a3
    have g3 := nums_inj _ _ (get3 a b n a3)
    have g4 := get4 a b n a3
    have g5 := get5 a b n a3
    generalize allT a b n a3 = All at *
    have N1 : Hid (numB All 0 0 2 = a) := by show numL _ = _; rw [g1, numL_le]; exact Nat.mod_eq_of_lt ha
    have N2 : Hid (numB All 2 0 4 = b) := by show numL _ = _; rw [g2, numL_le]; exact Nat.mod_eq_of_lt hb
    have N4 : Hid (numB All (6 + a3.size) 0 8 = n) := by show numL _ = _; rw [g4, numL_le]; exact Nat.mod_eq_of_lt hn
    have N3 : Hid (piece All 6 0 ((a3.size : Nat) : Int) = a3) := g3
    have G5 : Hid (nums (piece All (14 + a3.size) 0 ((3 : Nat) : Int)) = le n 3) := g5
    have A1 : Hid (atB All 0 0 ((2 : Nat) : Int) = 2 ∧ errB All 0 0 ((2 : Nat) : Int) = 0) := ⟨atB_yes All 0 2 (by omega), errB_yes All 0 2 (by omega)⟩
    have A2 : Hid (atB All 2 0 ((4 : Nat) : Int) = 6 ∧ errB All 2 0 ((4 : Nat) : Int) = 0) := ⟨atB_yes All 2 4 (by omega), errB_yes All 2 4 (by omega)⟩
    have A3 : Hid (atB All 6 0 ((a3.size : Nat) : Int) = 6 + a3.size ∧ errB All 6 0 ((a3.size : Nat) : Int) = 0) := ⟨atB_yes All 6 _ (by omega), errB_yes All 6 _ (by omega)⟩
    have A4 : Hid (atB All (6 + a3.size) 0 ((8 : Nat) : Int) = 14 + a3.size ∧ errB All (6 + a3.size) 0 ((8 : Nat) : Int) = 0) := ⟨(atB_yes All (6 + a3.size) 8 (by omega)).trans (by omega), errB_yes All (6 + a3.size) 8 (by omega)⟩
    have hle : All.size ≤ maxLen := by unfold maxLen; omega
    have HL := Lib.hid hle
    have HS := Lib.hid hsz
    have hs1 : All.size ≤ a3.size + 17 := by omega
    have hs2 : a3.size + 17 ≤ All.size := by omega
    clear g1 g2 g3 g4 g5 hsz hle
    refine (over_any _ _).mono ?_; rintro r wF ⟨rfl, rfl⟩
    have hc : Cur (wE.alloc (.cells #[.string All, .int .i64 0, .int .i64 0] 72)) wE.heap.size All 0 0 := heap_alloc_new _ _
    have HF := Lib.hid (HE.out.alloc HE.out.size (.cells #[.string All, .int .i64 0, .int .i64 0] 72))
    have HG := Lib.hid HE.out.size
    generalize wE.heap.size = g at *
    generalize wE.alloc (.cells #[.string All, .int .i64 0, .int .i64 0] 72) = wF at *
    have HC := Lib.hid hc
    clear hc HE
    go_wp2_with fail
    have grow : ∀ x y : World, Below w.heap.size w x → x.grownBy y (some g) → Below w.heap.size w y := fun _ _ hx hy => hx.grown hy hx.size (fun k hk => by injection hk with hk; subst hk; exact HG.out)
    have GR := Lib.hid grow
    clear grow
    refine (two_of g All 0 0 HL.out (Nat.zero_le _) wF HC.out).mono ?_; rintro r x1 ⟨rfl, hc1, hg1⟩
    rw [N1.out]
    rw [A1.out.1, A1.out.2] at hc1
    have C1 := Lib.hid hc1
    have B1 := Lib.hid (GR.out _ _ HF.out hg1)
    clear hc1 hg1
    go_wp2_with fail
    refine (four_of g All 2 0 HL.out (by omega) x1 C1.out).mono ?_; rintro r x2 ⟨rfl, hc2, hg2⟩
    rw [N2.out]
    rw [A2.out.1, A2.out.2] at hc2
    have C2 := Lib.hid hc2
    have B2 := Lib.hid (GR.out _ _ B1.out hg2)
    clear hc2 hg2
    go_wp2_with fail
    refine (take_any g All 6 0 (a3.size : Nat) HL.out (by omega) (WalkArith.wf_i64 (by omega)) x2 C2.out).mono ?_; rintro r x3 ⟨rfl, hc3, hg3⟩
    rw [N3.out]
    rw [A3.out.1, A3.out.2] at hc3
    have C3 := Lib.hid hc3
    have B3 := Lib.hid (GR.out _ _ B2.out hg3)
    clear hc3 hg3
    go_wp2_with fail
    refine (eight_of g All (6 + a3.size) 0 HL.out (by omega) x3 C3.out).mono ?_; rintro r x4 ⟨rfl, hc4, hg4⟩
    rw [N4.out]
    rw [A4.out.1, A4.out.2] at hc4
    have C4 := Lib.hid hc4
    have B4 := Lib.hid (GR.out _ _ B3.out hg4)
    clear hc4 hg4
    go_wp2_with fail
    refine (left_any g All (14 + a3.size) 0 HL.out (by omega) x4 C4.out).mono ?_; rintro r x5 ⟨rfl, d5, rfl⟩
    rw [show ((All.size : Int) - ((14 + a3.size : Nat) : Int)) = 3 from by omega]
    go_wp2_with fail
    refine (peek_any g All (14 + a3.size) 0 3 HL.out (by omega) (by decide) _ (C4.out.drewN d5)).mono ?_; rintro r x6 ⟨rfl, d6, rfl⟩
    go_wp2_with fail
    have h8 : (piece All (14 + a3.size) 0 3).size ≤ 8 := by
      have := piece_size All (14 + a3.size) 0 3
      omega
    refine (number_any _ h8 _).mono ?_; rintro r x7 ⟨rfl, rfl⟩
    rw [show numL (nums (piece All (14 + a3.size) 0 3)) = n % 16777216 from by rw [show nums (piece All (14 + a3.size) 0 3) = le n 3 from G5.out, numL_le]]
    have hand : bits .and .u64 (n : Int) 16777215 = ((n % 16777216 : Nat) : Int) := by
      have h := u64_and_nat n 16777215 hn (by omega)
      rw [show n &&& 16777215 = n % 16777216 from Nat.and_two_pow_sub_one_eq_mod n 24] at h
      exact h
    clear h8
    go_wp2_with fail
    refine (err_any g All (14 + a3.size) 0 _ (C4.out.drewN (d5 + d6))).mono ?_; rintro r x8 ⟨rfl, rfl⟩
    go_wp2_with fail
    refine (at_any g All (14 + a3.size) 0 _ (C4.out.drewN (d5 + d6))).mono ?_; rintro r x8 ⟨rfl, rfl⟩
    rw [show ((14 + a3.size : Nat) : Int) = (All.size : Int) - 3 from by omega]
    go_wp2_with fail
    go_ret
    exact ⟨rfl, below_drewN B4.out _⟩
  · go_enter Try.func5, Try.ntmps5
    go_wp2_with (go_at_call 12; refine (awake1_any _).mono ?_; rintro r wA ⟨rfl, hbA⟩)
    go_ret
    exact ⟨rfl, hbA⟩
end Go.Proofs.Ytcfpkmonbnfehaa
