/-
  Contract: Find.
-/
import Derived.Test.YtfhbkidceombbaaMatS
namespace Go.Proofs.Ytfhbkidceombbaa
set_option maxRecDepth 100000
open Go.Joins Go.RowKit Go.Deep

/-- What Find answers: the tokens, one behind the other, up to the text's end. -/
def Found (s : ByteArray) (t k : Nat) : Prop := posT (bt s) s.size (befT (bt s) s.size) t k = s.size ∧ ∀ j, j < k → posT (bt s) s.size (befT (bt s) s.size) t j < s.size
theorem tk_ok (s : ByteArray) (t k : Nat) (hs : s.size ≤ 10000) (hp : posT (bt s) s.size (befT (bt s) s.size) t k < s.size) : TokOk (tkT (bt s) s.size (befT (bt s) s.size) t k) ∧ 1 ≤ widT (tkT (bt s) s.size (befT (bt s) s.size) t k) ∧ posT (bt s) s.size (befT (bt s) s.size) t k + widT (tkT (bt s) s.size (befT (bt s) s.size) t k) ≤ s.size := by
  obtain ⟨h1, h2, h3, h4, h5⟩ := tok_ok (bt s) s.size t _ hp (by omega)
  have hw : 1 ≤ widT (tkT (bt s) s.size (befT (bt s) s.size) t k) := by unfold widT; omega
  obtain ⟨g1, g2, _⟩ := fits_zero h1
  refine ⟨?_, hw, ?_⟩
  · have hr := right_pos g1
    by_cases h0 : (tkT (bt s) s.size (befT (bt s) s.size) t k).l = 0
    · have hd := right_byte g1 h0
      have hb := h5 h0
      refine ⟨?_, by omega, by omega, ?_, ?_⟩
      · show (tokT _ _ _ _ _).b < 256; rw [hb]; exact bt_lt s _
      · show _ ≤ (tokT _ _ _ _ _).d; rw [hd]; omega
      · show (tokT _ _ _ _ _).d ≤ _; rw [hd]; omega
    · have hd := right_copy g1 h0
      have hr1 : 0 ≤ (tkT (bt s) s.size (befT (bt s) s.size) t k).l := hr.1
      have hr2 : (tkT (bt s) s.size (befT (bt s) s.size) t k).l ≤ 258 := hr.2
      refine ⟨?_, by omega, by omega, ?_, ?_⟩
      · show (tokT _ _ _ _ _).b < 256; rw [hd.1]; omega
      · show _ ≤ (tokT _ _ _ _ _).d; omega
      · show (tokT _ _ _ _ _).d ≤ _; omega
  · have : ((widT (tkT (bt s) s.size (befT (bt s) s.size) t k)).toNat : Int) = widT (tkT (bt s) s.size (befT (bt s) s.size) t k) := Int.toNat_of_nonneg (by omega)
    have h4' : posT (bt s) s.size (befT (bt s) s.size) t k + (widT (tkT (bt s) s.size (befT (bt s) s.size) t k)).toNat ≤ s.size := h4
    omega
set_option maxHeartbeats 4000000 in
theorem find_arg (s : ByteArray) (level : Int) (hl : level < 0 ∨ 9 < level) (w : World) : Calls Try.prog 42 #[.string s, .int .i64 level] w fun e w' => e = .returned (.tuple #[.slice none 0 0, .int .i64 2]) ∧ w' = w := by
  rcases hl with h | h
  · have g1 : decide (level < 0) = true := decide_eq_true h
    go_enter Try.func42, Try.ntmps42
    go_wp2
    go_ret2
    exact ⟨rfl, rfl⟩
  · have g1 : decide (level < 0) = false := decide_eq_false (by omega)
    have g2 : decide (9 < level) = true := decide_eq_true h
    go_enter Try.func42, Try.ntmps42
    go_wp2
    go_ret2
    exact ⟨rfl, rfl⟩
set_option maxHeartbeats 4000000 in
theorem find_long (s : ByteArray) (hs : 1048576 < s.size) (w : World) : Calls Try.prog 42 #[.string s, .int .i64 1] w fun e w' => e = .returned (.tuple #[.slice none 0 0, .int .i64 5]) ∧ w' = w := by
  go_enter Try.func42, Try.ntmps42
  go_wp2
  go_ret2
  exact ⟨rfl, rfl⟩
set_option maxHeartbeats 8000000 in
theorem find_any (s : ByteArray) (level : Nat) (hs : s.size ≤ 10000) (hl : level ≤ 9) (w : World) : Calls Try.prog 42 #[.string s, .int .i64 (level : Nat)] w fun e w' =>
    ∃ k A c, e = .returned (.tuple #[.slice A k c, .int .i64 0]) ∧ Found s (triesOf level) k ∧ Toks w' A k (tkT (bt s) s.size (befT (bt s) s.size) (triesOf level)) ∧ Below w.heap.size w w' := by
  obtain ⟨i0, hi, hz0, hz1, hz2⟩ := info_parts info_tok3
  have hzs := zero_search
  have hzt := zero_tok
  have ht := tries_le level hl
  have HBG := Lib.hid (fun W => begin_any s level hs hl W)
  generalize triesOf level = t at *
  have g1 : decide ((level : Int) < 0) = false := decide_eq_false (by omega)
  have g2 : decide ((9 : Int) < (level : Int)) = false := decide_eq_false (by omega)
  have g3 : decide (9 < level) = false := decide_eq_false (by omega)
  go_enter Try.func42, Try.ntmps42
  go_wp2_with fail
  refine (HBG.out _).mono ?_
  rintro e w1 ⟨A, nA, cA, rfl, hbef, hb1⟩
  have hx2 := heap_alloc_new w1 (.cells #[.string s, .slice A nA cA, .int .i64 (t : Nat)] 127)
  have hbef2 : Bef (w1.alloc (.cells #[.string s, .slice A nA cA, .int .i64 (t : Nat)] 127)) s A nA t := hbef.below (Nat.le_refl _) ((Below.refl _ _).alloc (Nat.le_refl _) _)
  have hb2 : Below w.heap.size w (w1.alloc (.cells #[.string s, .slice A nA cA, .int .i64 (t : Nat)] 127)) := hb1.alloc hb1.size _
  have hs2 : (w1.alloc (.cells #[.string s, .slice A nA cA, .int .i64 (t : Nat)] 127)).heap.size = w1.heap.size + 1 := by simp
  have HX2 := Lib.hid hx2
  have HBF := Lib.hid hbef2
  have HB2 := Lib.hid hb2
  have HS2 := Lib.hid hs2
  clear hx2 hbef hbef2 hb1 hb2 hs2 HBG
  go_wp2_with fail
  generalize w1.alloc (.cells #[.string s, .slice A nA cA, .int .i64 (t : Nat)] 127) = w2 at *
  go_loopw [6, 8] (fun v i wr => ∃ k : Nat, i = .int .i64 ((posT (bt s) s.size (befT (bt s) s.size) t k : Nat) : Int) ∧ k ≤ posT (bt s) s.size (befT (bt s) s.size) t k ∧ posT (bt s) s.size (befT (bt s) s.size) t k ≤ s.size ∧ Hid (∀ j, j < k → posT (bt s) s.size (befT (bt s) s.size) t j < s.size) ∧ Hid (wr.ownsRow w2.heap.size 43 3 v k (tokCells (tkT (bt s) s.size (befT (bt s) s.size) t) k)) ∧ Hid (Below w2.heap.size w2 wr)) (fun _ i _ => s.size - (intOf i).toNat)
  case atStart => exact ⟨0, rfl, Nat.le_refl _, Nat.zero_le _, fun j h => by omega, World.ownsRow_nil _ _ _ _, Below.refl _ _⟩
  case round =>
    obtain ⟨k, rfl, hkp, hpn, HJ, HO, HB⟩ := hrel
    have HPS : Hid (posT (bt s) s.size (befT (bt s) s.size) t (k + 1) = posT (bt s) s.size (befT (bt s) s.size) t k + (widT (tkT (bt s) s.size (befT (bt s) s.size) t k)).toNat) := rfl
    have HTS : Hid (tokCells (tkT (bt s) s.size (befT (bt s) s.size) t) (k + 1) = tokCells (tkT (bt s) s.size (befT (bt s) s.size) t) k ++ cellT (tkT (bt s) s.size (befT (bt s) s.size) t k)) := rfl
    obtain ⟨A2, cp2, rfl⟩ := row_slice' HO.out
    by_cases hpl : posT (bt s) s.size (befT (bt s) s.size) t k < s.size
    · have hBwr := HBF.out.below (Nat.le_refl _) HB.out
      have HTA : Hid (Calls Try.prog 75 #[.agg #[.string s, .slice A nA cA, .int .i64 (t : Nat)], .int .i64 ((posT (bt s) s.size (befT (bt s) s.size) t k : Nat) : Int)] wr fun e w' => e = .returned (valT (tkT (bt s) s.size (befT (bt s) s.size) t k)) ∧ Below wr.heap.size wr w') := token_any s A nA cA t _ hs hpl ht wr hBwr
      obtain ⟨htok, hw1, hw2⟩ := tk_ok s t k hs hpl
      have hm : Hid (w1.heap.size < w2.heap.size) := by show w1.heap.size < _; have := HS2.out; omega
      have hX := (HB.out.block w1.heap.size hm.out).trans HX2.out
      have c0 := (cell_of_row _ _ 0 _ _ _ hX).trans (show _ = some (Value.string s) from rfl)
      have c1 := (cell_of_row _ _ 1 _ _ _ hX).trans (show _ = some (Value.slice A nA cA) from rfl)
      have c2 := (cell_of_row _ _ 2 _ _ _ hX).trans (show _ = some (Value.int .i64 (t : Nat)) from rfl)
      have HWD := Lib.hid (fun W => wide_any (tkT (bt s) s.size (befT (bt s) s.size) t k) W)
      generalize hP : posT (bt s) s.size (befT (bt s) s.size) t k = P at *
      generalize tkT (bt s) s.size (befT (bt s) s.size) t k = T at *
      have HP := Lib.hid hP
      have hpb : P < 10000 := by omega
      clear hP hX hBwr
      obtain ⟨tb, tl, td⟩ := T
      unfold valT at HTA HWD
      dsimp only at HTA HWD
      generalize hWW : widT ⟨tb, tl, td⟩ = W at *
      clear hWW
      have hW2 : W ≤ 10000 := by omega
      have hsum : (P : Int) + W ≤ 10000 := by omega
      have hsum0 : 0 ≤ (P : Int) + W := by omega
      have hwrap : IntKind.i64.wrap ((P : Int) + W) = (P : Int) + W := by rw [IntKind.wrap_i64]; omega
      go_wp2_with fail
      refine (HTA.out).mono ?_
      rintro e w3 ⟨rfl, hb3⟩
      have hx4 := heap_alloc_new w3 (.cells #[.int .u8 (tb : Nat), .int .i64 tl, .int .i64 td] 43)
      have hs4 : (w3.alloc (.cells #[.int .u8 (tb : Nat), .int .i64 tl, .int .i64 td] 43)).heap.size = w3.heap.size + 1 := by simp
      have hb4 : Below wr.heap.size wr (w3.alloc (.cells #[.int .u8 (tb : Nat), .int .i64 tl, .int .i64 td] 43)) := hb3.alloc hb3.size _
      have HX4 := Lib.hid hx4
      have HS4 := Lib.hid hs4
      have HB4 := Lib.hid hb4
      have HS3 : Hid (wr.heap.size ≤ w3.heap.size) := hb3.size
      clear hx4 hs4 hb4 hb3 HTA
      have hx5 := heap_alloc_new (w3.alloc (.cells #[.int .u8 (tb : Nat), .int .i64 tl, .int .i64 td] 43)) (.cells #[.int .u8 (tb : Nat), .int .i64 tl, .int .i64 td] 43)
      have hx45 := (Below.heap_alloc (w3.alloc (.cells #[.int .u8 (tb : Nat), .int .i64 tl, .int .i64 td] 43)) (.cells #[.int .u8 (tb : Nat), .int .i64 tl, .int .i64 td] 43) w3.heap.size (by rw [HS4.out]; omega)).trans HX4.out
      have hs5 : ((w3.alloc (.cells #[.int .u8 (tb : Nat), .int .i64 tl, .int .i64 td] 43)).alloc (.cells #[.int .u8 (tb : Nat), .int .i64 tl, .int .i64 td] 43)).heap.size = w3.heap.size + 2 := by simp
      have hb5 : Below wr.heap.size wr ((w3.alloc (.cells #[.int .u8 (tb : Nat), .int .i64 tl, .int .i64 td] 43)).alloc (.cells #[.int .u8 (tb : Nat), .int .i64 tl, .int .i64 td] 43)) := HB4.out.alloc HB4.out.size _
      rw [HS4.out] at hx5
      have ho5 := row_kept' HO.out (fun g hg => hb5.block g (HO.out.lt g hg).2)
      have HX5 := Lib.hid hx5
      have HX45 := Lib.hid hx45
      have HS5 := Lib.hid hs5
      have HB5 := Lib.hid hb5
      have HO5 := Lib.hid ho5
      clear hx5 hx45 hs5 hb5 ho5
      have hne : Hid (∀ gg, (Value.slice A2 k cp2).ownBlock = some gg → gg < wr.heap.size ∧ w2.heap.size ≤ gg) := fun gg hg => ⟨(HO.out.lt gg hg).2, (HO.out.lt gg hg).1⟩
      go_wp2_with first
        | (at_builtin; go_must (refine wpList_append_own_at _ rfl (.tmp 29) (.tmp 31) _ rfl w2.heap.size 43 i0 (.agg #[.int .u8 0, .int .i64 0, .int .i64 0]) 3 24 Try.underlying22 hi hz0 hz1 hz2 rfl (by decide) (.slice A2 k cp2) k _ rfl HO5.out ⟨w3.heap.size + 1, 0, none⟩ 1 1 [.int .u8 (tb : Nat), .int .i64 tl, .int .i64 td] rfl rfl (cells3 HX5.out) (cellT_one ⟨tb, tl, td⟩) (by unfold maxLen; omega) (by omega) (by have h1 := HB.out.size; have h2 := HS3.out; have h3 := HS5.out; omega) ?_; intro v' w6 hown' hgrow hnil hloc; have HO6 := Lib.hid hown'; have HB6 := Lib.hid ((HB.out.trans (HB5.out.mono HB.out.size)).grown hgrow (by have h1 := HB.out.size; have h2 := HS3.out; have h3 := HS5.out; omega) (fun j hj => (hne.out j hj).2)); have HX6 := Lib.hid ((hgrow.block w3.heap.size (by rw [HS5.out]; omega) (by intro e; have h1 := (hne.out _ e.symm).1; have h2 := HS3.out; omega)).trans HX45.out); have m0 := (cell_of_row _ _ 0 _ _ _ HX6.out).trans (show _ = some (Value.int .u8 (tb : Nat)) from rfl); have m1 := (cell_of_row _ _ 1 _ _ _ HX6.out).trans (show _ = some (Value.int .i64 tl) from rfl); have m2 := (cell_of_row _ _ 2 _ _ _ HX6.out).trans (show _ = some (Value.int .i64 td) from rfl); clear hown' hgrow hnil hloc))
        | (go_at_call 76; go_must (refine (HWD.out _).mono ?_; rintro e w7 ⟨rfl, hb7⟩; have HO7 := Lib.hid (row_kept' HO6.out (fun g hg => hb7.block g (HO6.out.lt g hg).2)); have HB7 := Lib.hid (HB6.out.trans (hb7.mono HB6.out.size)); clear hb7))
      have hPW : (P : Int) + W = ((posT (bt s) s.size (befT (bt s) s.size) t (k + 1) : Nat) : Int) := by rw [HPS.out]; omega
      go_roundw
      case rel =>
        refine ⟨k + 1, by rw [hPW], by omega, by omega, ?_, ?_, HB7⟩
        · intro j hj
          by_cases e : j = k
          · subst e; rw [HP.out]; omega
          · exact HJ.out j (by omega)
        · show World.ownsRow _ _ _ _ _ _ _
          rw [HTS.out]
          exact HO7.out
      case measure => simp [intOf]; omega
    · have hfd : Found s t k := ⟨by omega, HJ.out⟩
      have hT := toks_of_own HO.out (fun i hi => (tk_ok s t i hs (HJ.out i hi)).1)
      have HFD := Lib.hid hfd
      have HTT := Lib.hid hT
      have hP : posT (bt s) s.size (befT (bt s) s.size) t k = s.size := by omega
      rw [hP]
      clear hfd hT
      go_wp2
      go_ret2
      exact ⟨k, A2, cp2, rfl, HFD.out, HTT.out, HB2.out.trans (HB.out.mono HB2.out.size)⟩
end Go.Proofs.Ytfhbkidceombbaa
