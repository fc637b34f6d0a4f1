/-
  The walk of MatchExpands: it returns true, whatever the tokens.
-/
import Derived.Test.YtblojfgbdmnccaaMatX
namespace Go.Proofs.Ytblojfgbdmnccaa
set_option maxRecDepth 100000
open Go.Joins Go.RowKit Go.Deep

/-- The tokens, and so many behind that they are too long. -/
def longF (f : Nat → Tok) (n : Nat) : Nat → Tok := fun i => if i < n then f i else if i = n then ⟨0, 0, 0⟩ else ⟨0, 258, 1⟩
set_option maxHeartbeats 8000000 in
theorem matchExpands_walk (A : Option Addr) (n cap : Nat) (f : Nat → Tok) (more : Bool) (w : World) (hT : Toks w A n f) (hnil : A = none → n = 0 ∧ cap = 0) (hcap : n ≤ cap) :
    Calls Try.prog 4 #[.slice A n cap, .bool more] w fun e w' => e = .returned (.bool true) ∧ Below w.heap.size w w' := by
  by_cases h1 : 300 < n
  · have g1 : decide ((300 : Int) < (n : Int)) = true := decide_eq_true (by omega)
    have g2 : decide (300 < n) = true := decide_eq_true h1
    go_enter Try.func4, Try.ntmps4
    go_wp2_with fail
    refine (awake7_any _).mono ?_; rintro e w1 ⟨rfl, hb1⟩
    go_wp2
    go_ret
    exact ⟨rfl, hb1⟩
  · have g1 : decide ((300 : Int) < (n : Int)) = false := decide_eq_false (by omega)
    have g2 : decide (300 < n) = false := decide_eq_false h1
    have HT := Lib.hid hT
    have HNIL := Lib.hid hnil
    have HCAP := Lib.hid hcap
    have hn300 : n ≤ 300 := by omega
    have hit := info_tok
    clear hT hnil hcap h1
    go_enter Try.func4, Try.ntmps4
    go_wp2_with fail
    refine (awake7_any _).mono ?_; rintro e w1 ⟨rfl, hb1⟩
    have HB1 := Lib.hid hb1
    have HT1 : Hid (Toks w1 A n f) := HT.out.below (Nat.le_refl _) hb1
    clear hb1
    go_wp2_with fail
    go_loopw [18] (fun i wr => ∃ j : Nat, j ≤ n ∧ i = .int .i64 (j : Nat) ∧ Hid (Below w1.heap.size w1 wr)) (fun i _ => n - (intOf i).toNat)
    case atStart => exact ⟨0, Nat.zero_le _, rfl, Below.refl _ _⟩
    case round =>
      obtain ⟨j, hj, rfl, HBJ⟩ := hrel
      by_cases hjn : j < n
      · obtain ⟨b, off, rfl, hbl, hc⟩ := HT1.out.below (Nat.le_refl _) HBJ.out (by omega)
        obtain ⟨hok, c0, c1, c2⟩ := hc j hjn
        have hb4 := heap_alloc_new wr (.cells #[.int .u8 ((f j).b : Nat), .int .i64 (f j).l, .int .i64 (f j).d] 56)
        have HB4 := Lib.hid hb4
        have HBN := Lib.hid (HBJ.out.alloc HBJ.out.size (.cells #[.int .u8 ((f j).b : Nat), .int .i64 (f j).l, .int .i64 (f j).d] 56))
        have HR1 := Lib.hid (right_any (f j))
        have HR2 := Lib.hid (rright_any (f j))
        have HSZ : Hid ((wr.alloc (.cells #[.int .u8 ((f j).b : Nat), .int .i64 (f j).l, .int .i64 (f j).d] 56)).heap.size = wr.heap.size + 1) := by show _ = _; simp
        clear hc hok hb4
        generalize rightT (f j) = r at *
        generalize f j = U at *
        obtain ⟨tb, tl, td⟩ := U
        unfold valT at *
        dsimp only at *
        go_wp2_with fail
        generalize wr.alloc (.cells #[.int .u8 (tb : Nat), .int .i64 tl, .int .i64 td] 56) = w4 at *
        have k0 := (cell_of_row _ _ 0 _ _ _ HB4.out).trans (show _ = some (Value.int .u8 (tb : Nat)) from rfl)
        have k1 := (cell_of_row _ _ 1 _ _ _ HB4.out).trans (show _ = some (Value.int .i64 tl) from rfl)
        have k2 := (cell_of_row _ _ 2 _ _ _ HB4.out).trans (show _ = some (Value.int .i64 td) from rfl)
        have HKEEP : Hid (∀ x : World, Below w4.heap.size w4 x → x.cell? ⟨wr.heap.size, 0, none⟩ = some (.int .u8 (tb : Nat)) ∧ x.cell? ⟨wr.heap.size, 1, none⟩ = some (.int .i64 tl) ∧ x.cell? ⟨wr.heap.size, 2, none⟩ = some (.int .i64 td)) := fun x hx => by
          have hl : wr.heap.size < w4.heap.size := by have := HSZ.out; omega
          exact ⟨(hx.cell (p := ⟨wr.heap.size, 0, none⟩) hl).trans k0, (hx.cell (p := ⟨wr.heap.size, 1, none⟩) hl).trans k1, (hx.cell (p := ⟨wr.heap.size, 2, none⟩) hl).trans k2⟩
        go_region_law (first
          | (go_simp; go_at_call 27; go_must (refine (HR1.out _).mono ?_; rintro e5 w5 ⟨rfl, hb5⟩; have hb5' : Below w4.heap.size w4 w5 := (by first | exact ⟨hb5.os, hb5.tape, hb5.output, hb5.size, hb5.block⟩ | exact (hb6'.trans (hb5.mono hb6'.size))); have m0 := (HKEEP.out w5 hb5').1; have m1 := (HKEEP.out w5 hb5').2.1; have m2 := (HKEEP.out w5 hb5').2.2))
          | (go_simp; go_at_call 28; go_must (refine (HR2.out _).mono ?_; rintro e6 w6 ⟨rfl, hb6⟩; have hb6' : Below w4.heap.size w4 w6 := (by first | exact ⟨hb6.os, hb6.tape, hb6.output, hb6.size, hb6.block⟩ | exact (hb5'.trans (hb6.mono hb5'.size))); have m3 := (HKEEP.out w6 hb6').1; have m4 := (HKEEP.out w6 hb6').2.1; have m5 := (HKEEP.out w6 hb6').2.2)))
        all_goals
          simp only [Act.put, List.setIfInBounds_toArray, List.getElem_toArray, List.getElem_cons_succ, List.getElem_cons_zero, List.set_cons_zero, List.set_cons_succ]
          go_wp2_with fail
          go_roundw
          case rel =>
            first
              | exact ⟨j + 1, by omega, by go_num, HBN.out.trans (hb6'.mono HBN.out.size)⟩
              | exact ⟨j + 1, by omega, by go_num, HBN.out.trans (hb5'.mono HBN.out.size)⟩
          case measure => simp [intOf]; omega
      · obtain rfl : j = n := by omega
        have HB2 : Hid (Below w.heap.size w wr) := HB1.out.trans (HBJ.out.mono HB1.out.size)
        have HT2 : Hid (Toks wr A j f) := HT1.out.below (Nat.le_refl _) HBJ.out
        cases more with
        | false =>
          have HEX := Lib.hid (expand_any A j cap f wr HT2.out (by omega))
          have HRX := Lib.hid (fun W A c (h : Toks W A j f) => rexpand_any A j c f W h (by omega))
          go_wp2_with fail
          refine (HEX.out).mono ?_; rintro e w3 ⟨rfl, hb3⟩
          have HB3 := Lib.hid (HB2.out.trans (hb3.mono HB2.out.size))
          have HTO := Lib.hid (to7_any A j cap f w3 (HT2.out.below (Nat.le_refl _) hb3) (by omega))
          clear hb3 HEX
          go_wp2_with fail
          refine (HTO.out).mono ?_; rintro e w4 ⟨A4, c4, rfl, hT4, hb4⟩
          have HB4 := Lib.hid (HB3.out.trans (hb4.mono HB3.out.size))
          have HR4 := Lib.hid (HRX.out w4 A4 c4 hT4)
          clear hb4 hT4 HTO HRX
          go_wp2_with fail
          refine (HR4.out).mono ?_; rintro e w5 ⟨rfl, hb5⟩
          have HB5 := Lib.hid (HB4.out.trans (hb5.mono HB4.out.size))
          clear hb5 HR4
          generalize text (expT f j) = X at *
          generalize expE f j = ee at *
          go_wp2
          go_ret
          exact ⟨rfl, HB5.out⟩
        | true =>
          obtain ⟨i0, hi, hz0, hz1, hz2⟩ := info_parts info_tok3
          have htc : tokCells (longF f j) (j + 1) = tokCells f j ++ cellT ⟨0, 0, 0⟩ := by
            rw [tokCells, tokCells_congr (longF f j) f j (fun i h => if_pos h)]
            unfold longF
            rw [if_neg (by omega), if_pos rfl]
          have HTC := Lib.hid htc
          have HTN := Lib.hid (fun k (h : j + 1 ≤ k) => show tokCells (longF f j) (k + 1) = tokCells (longF f j) k ++ cellT ⟨0, 258, 1⟩ by
            rw [tokCells]
            congr 1
            unfold longF
            rw [if_neg (by omega), if_neg (by omega)])
          have hb9 := heap_alloc_new wr (.cells #[.int .u8 0, .int .i64 0, .int .i64 0] 56)
          have hb9b : Below w.heap.size w (wr.alloc (.cells #[.int .u8 0, .int .i64 0, .int .i64 0] 56)) := HB2.out.alloc HB2.out.size _
          have ht9 : Toks (wr.alloc (.cells #[.int .u8 0, .int .i64 0, .int .i64 0] 56)) A j f := HT2.out.below (Nat.le_refl _) ((Below.refl _ _).alloc (Nat.le_refl _) _)
          have HB9 := Lib.hid hb9
          have HB9B := Lib.hid hb9b
          have HT9 := Lib.hid ht9
          have hjn := HNIL.out
          have HOLD : Hid (∀ b, A = some b → ∀ k u, (tokCells f j)[k]? = some u → (wr.alloc (.cells #[.int .u8 0, .int .i64 0, .int .i64 0] 56)).cell? (b.add k) = some u) := fun b hb k u hu => by
            have hkl := (List.getElem?_eq_some_iff.1 hu).1
            rw [tokCells_len] at hkl
            obtain ⟨b', off', he, _, _⟩ := HT9.out (by omega)
            rw [hb] at he
            injection he with he
            subst he
            exact toks_cells (by rw [← hb]; exact HT9.out) k u hu
          have hcj := HCAP.out
          clear hb9 hb9b ht9 htc
          go_wp2_with (at_builtin; go_must (refine wpList_append_grows _ rfl (.tmp 34) (.tmp 36) 54 rfl 56 i0 (.agg #[.int .u8 0, .int .i64 0, .int .i64 0]) 3 24 Try.underlying54 hi hz0 hz1 hz2 rfl (by decide) A j j (tokCells f j) rfl (fun h => ⟨(hjn h).1, (hjn h).1⟩) (tokCells_len f j) HOLD.out ⟨wr.heap.size, 0, none⟩ 1 1 [.int .u8 0, .int .i64 0, .int .i64 0] rfl rfl (cells3 HB9.out) (cellT_one ⟨0, 0, 0⟩) (by omega) (by unfold maxLen; omega) (by omega) ?_; intro v6 w6 hown6 hgr6; have HO6 := Lib.hid hown6; have HB6 := Lib.hid (HB9B.out.grown hgr6 HB9B.out.size (fun k hk => by cases hk)); clear hown6 hgr6))
          have HZ6 : Hid ((wr.alloc (.cells #[.int .u8 0, .int .i64 0, .int .i64 0] 56)).heap.size = wr.heap.size + 1) := by show _ = _; simp
          generalize (wr.alloc (.cells #[.int .u8 0, .int .i64 0, .int .i64 0] 56)).heap.size = B6 at *
          have HWB : Hid (w.heap.size ≤ B6) := by show w.heap.size ≤ B6; have h1 := HZ6.out; have h2 := HB2.out.size; omega
          go_loopw [0, 38] (fun v i w9 => ∃ k : Nat, k ≤ 4100 ∧ i = .int .i64 (k : Nat) ∧ Hid (w9.ownsRow B6 56 3 v (j + 1 + k) (tokCells (longF f j) (j + 1 + k))) ∧ Hid (Below w.heap.size w w9) ∧ Hid (B6 ≤ w9.heap.size)) (fun _ i _ => 4100 - (intOf i).toNat)
          case atStart =>
            refine ⟨0, Nat.zero_le _, rfl, ?_, HB6, ?_⟩
            · show World.ownsRow _ _ _ _ _ _ _
              rw [Nat.add_zero, HTC.out]; exact HO6.out
            · show B6 ≤ _
              rcases HO6.out.2 with ⟨_, h⟩ | ⟨g, _, _, rfl, hg, hh, _⟩
              · omega
              · have := (Array.getElem?_eq_some_iff.1 hh).1; omega
          case round =>
            obtain ⟨k, hk, rfl, HOK1, HBK, HSK⟩ := hrel
            obtain ⟨A7, c7, rfl⟩ := row_slice' HOK1.out
            by_cases hk41 : k < 4100
            · have hx := heap_alloc_new wr (.cells #[.int .u8 0, .int .i64 258, .int .i64 1] 56)
              have ho := HOK1.out.alloc (.cells #[.int .u8 0, .int .i64 258, .int .i64 1] 56)
              have HX := Lib.hid hx
              have HOX := Lib.hid ho
              have HBX := Lib.hid (HBK.out.alloc HBK.out.size (.cells #[.int .u8 0, .int .i64 258, .int .i64 1] 56))
              have HSX : Hid (B6 ≤ (wr.alloc (.cells #[.int .u8 0, .int .i64 258, .int .i64 1] 56)).heap.size) := by show B6 ≤ _; have := HSK.out; simp; omega
              have HNX := Lib.hid (HTN.out (j + 1 + k) (by omega))
              clear hx ho
              go_wp2_with (at_builtin; go_must (refine wpList_append_own_at _ rfl (.tmp 40) (.tmp 42) _ rfl B6 56 i0 (.agg #[.int .u8 0, .int .i64 0, .int .i64 0]) 3 24 Try.underlying54 hi hz0 hz1 hz2 rfl (by decide) (.slice A7 (j + 1 + k) c7) (j + 1 + k) _ rfl HOX.out ⟨wr.heap.size, 0, none⟩ 1 1 [.int .u8 0, .int .i64 258, .int .i64 1] rfl rfl (cells3 HX.out) (cellT_one ⟨0, 258, 1⟩) (by unfold maxLen; omega) (by omega) HSX.out ?_; intro v8 w8 hown8 hgr8 _ _; have HO8 := Lib.hid hown8; have HB8 := Lib.hid (HBX.out.grown hgr8 HBX.out.size (fun g hg => Nat.le_trans HWB.out (HOX.out.lt g hg).1)); have HS8 : Hid (B6 ≤ w8.heap.size) := Nat.le_trans HSX.out hgr8.size; clear hown8 hgr8))
              go_roundw
              case rel =>
                refine ⟨k + 1, by omega, by go_num, ?_, HB8, HS8⟩
                show World.ownsRow _ _ _ _ _ _ _
                rw [show j + 1 + (k + 1) = j + 1 + k + 1 by omega, HNX.out]
                exact HO8.out
              case measure => simp [intOf]; omega
            · have HT7 : Hid (Toks wr A7 (j + 1 + k) (longF f j)) := toks_of_own HOK1.out (fun i hi => by
                unfold longF
                by_cases h : i < j
                · rw [if_pos h]
                  obtain ⟨_, _, _, _, hc⟩ := HT2.out (by omega)
                  exact (hc i h).1
                · rw [if_neg h]
                  split
                  · exact ⟨by decide, by decide, by decide, by decide, by decide⟩
                  · exact ⟨by decide, by decide, by decide, by decide, by decide⟩)
              have HB7 := HBK
              have HEX := Lib.hid (expand_any A7 (j + 1 + k) c7 (longF f j) wr HT7.out (by omega))
              have HRX := Lib.hid (fun W A c (h : Toks W A (j + 1 + k) (longF f j)) => rexpand_any A (j + 1 + k) c (longF f j) W h (by omega))
              go_wp2_with fail
              refine (HEX.out).mono ?_; rintro e w3 ⟨rfl, hb3⟩
              have HB3 := Lib.hid (HB7.out.trans (hb3.mono HB7.out.size))
              have HTO := Lib.hid (to7_any A7 (j + 1 + k) c7 (longF f j) w3 (HT7.out.below (Nat.le_refl _) hb3) (by omega))
              clear hb3 HEX
              go_wp2_with fail
              refine (HTO.out).mono ?_; rintro e w4 ⟨A4, c4, rfl, hT4, hb4⟩
              have HB4 := Lib.hid (HB3.out.trans (hb4.mono HB3.out.size))
              have HR4 := Lib.hid (HRX.out w4 A4 c4 hT4)
              clear hb4 hT4 HTO HRX
              go_wp2_with fail
              refine (HR4.out).mono ?_; rintro e w5 ⟨rfl, hb5⟩
              have HB5 := Lib.hid (HB4.out.trans (hb5.mono HB4.out.size))
              clear hb5 HR4
              generalize text (expT (longF f j) (j + 1 + k)) = X at *
              generalize expE (longF f j) (j + 1 + k) = ee at *
              go_wp2
              go_ret
              exact ⟨rfl, HB5.out⟩
end Go.Proofs.Ytblojfgbdmnccaa
