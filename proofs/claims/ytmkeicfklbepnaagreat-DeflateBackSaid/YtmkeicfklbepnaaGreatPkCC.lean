/-
 Contract: token.
 Contracts: begin; rows of tokens.
 block: a row without noughts at its end; the pieces of a row.
 Length and Put of any int (XPreZ's last part, alone).
-/
import Derived.Test.YtmkeicfklbepnaaGreatPkCB
import Derived.Test.YtmkeicfklbepnaaGreatPkBJ
import Derived.Deep.DeepMust
import Derived.Test.YtmkeicfklbepnaaGreatPkAG
import Derived.Test.YtmkeicfklbepnaaGreatPkAF

namespace Go.Proofs.YtmkeicfklbepnaaGreat
set_option maxRecDepth 100000
open Go.Joins Go.RowKit Go.Deep

/-- What a search's row of places is. -/
def Bef (w : World) (s : ByteArray) (A : Option Addr) (nA t : Nat) : Prop := 0 < t → ∃ g, A = some ⟨g, 0, none⟩ ∧ nA = s.size ∧ g < w.heap.size ∧ w.heap[g]? = some (.cells (rowF (befT (bt s) s.size) s.size) 3 (0, 0))
theorem Bef.below {w w' : World} {s : ByteArray} {A : Option Addr} {nA t B : Nat} (h : Bef w s A nA t) (hB : w.heap.size ≤ B) (hb : Below B w w') : Bef w' s A nA t := fun ht => by
 obtain ⟨g, h1, h2, h3, h4⟩ := h ht
 exact ⟨g, h1, h2, Nat.lt_of_lt_of_le h3 hb.size, (hb.block g (by omega)).trans h4⟩
/-- What a token's making keeps: its search, and the place of the answer. -/
def TSt (w wr : World) (s : ByteArray) (v : Value) (t : Nat) : Prop :=
 wr.heap[w.heap.size]? = some (.cells #[.string s, v, .int .i64 (t : Nat)] 73 (0, 0)) ∧
 wr.heap[w.heap.size + 1]? = some (.cells #[.int .u8 0, .int .i64 0, .int .i64 0] 76 (0, 0)) ∧ Below w.heap.size w wr ∧ w.heap.size + 2 ≤ wr.heap.size
theorem TSt.later {w wr w2 : World} {s : ByteArray} {v : Value} {t : Nat} (h : TSt w wr s v t) (hb : Below wr.heap.size wr w2) : TSt w w2 s v t := by
 obtain ⟨h1, h2, h4, h5⟩ := h
 exact ⟨(hb.block _ (by omega)).trans h1, (hb.block _ (by omega)).trans h2, h4.trans (hb.mono h4.size), Nat.le_trans h5 hb.size⟩
theorem field_len (b l d : Int) (W : World) : (Instr.field 76 (.agg #[.int .u8 b, .int .i64 l, .int .i64 d]) 1).run Tryz.prog W = .ok (.int .i64 l) W := by kernel_rfl
set_option maxHeartbeats 8000000 in
theorem token_any (s : ByteArray) (A : Option Addr) (nA cA t p : Nat) (hs : s.size ≤ 10000) (hp : p < s.size) (ht : t ≤ 2000) (w : World) (hA : Bef w s A nA t) :
  Calls Tryz.prog 28 #[.agg #[.string s, .slice A nA cA, .int .i64 (t : Nat)], .int .i64 (p : Nat)] w fun e w' => e = .returned (valT (tokT (bt s) s.size (befT (bt s) s.size) t p)) ∧ Below w.heap.size w w' := by
 have hzt := zero_tok
 have hfld := field_len
 have HL1 := Lib.hid (fun W h => longest_any s A nA cA t p hs (by omega) ht W h)
 have HL2 := Lib.hid (fun W h => longest_any s A nA cA t (p + 1) hs (by omega) ht W h)
 have HTK : Hid (tokT (bt s) s.size (befT (bt s) s.size) t p = if (longT (bt s) s.size (befT (bt s) s.size) t p).1 = 0 ∨ (longT (bt s) s.size (befT (bt s) s.size) t p).1 < (longT (bt s) s.size (befT (bt s) s.size) t (p + 1)).1 then ⟨bt s p, 0, 0⟩ else ⟨0, ((longT (bt s) s.size (befT (bt s) s.size) t p).1 : Nat), ((longT (bt s) s.size (befT (bt s) s.size) t p).2 : Nat)⟩) := rfl
 have hok1 := long_ok (bt s) s.size t p
 have hok2 := long_ok (bt s) s.size t (p + 1)
 generalize longT (bt s) s.size (befT (bt s) s.size) t p = L1 at *
 generalize longT (bt s) s.size (befT (bt s) s.size) t (p + 1) = L2 at *
 obtain ⟨l1, d1⟩ := L1
 obtain ⟨l2, d2⟩ := L2
 have hl1 : l1 ≤ 258 := by rcases hok1 with ⟨h, _⟩ | ⟨_, h, _⟩ <;> simp only at h <;> omega
 have hl2 : l2 ≤ 258 := by rcases hok2 with ⟨h, _⟩ | ⟨_, h, _⟩ <;> simp only at h <;> omega
 clear hok1 hok2
 simp only at HTK HL1 HL2
 generalize tokT (bt s) s.size (befT (bt s) s.size) t p = TK at *
 have hx0 : TSt w ((w.alloc (.cells #[.string s, .slice A nA cA, .int .i64 (t : Nat)] 73)).alloc (.cells #[.int .u8 0, .int .i64 0, .int .i64 0] 76)) s (.slice A nA cA) t := by
  have b1 := heap_alloc_new w (.cells #[.string s, .slice A nA cA, .int .i64 (t : Nat)] 73)
  have s1 : (w.alloc (.cells #[.string s, .slice A nA cA, .int .i64 (t : Nat)] 73)).heap.size = w.heap.size + 1 := by simp
  have d1 : Below w.heap.size w (w.alloc (.cells #[.string s, .slice A nA cA, .int .i64 (t : Nat)] 73)) := (Below.refl _ _).alloc (Nat.le_refl _) _
  generalize w.alloc (.cells #[.string s, .slice A nA cA, .int .i64 (t : Nat)] 73) = w1 at *
  have b2 := heap_alloc_new w1 (.cells #[.int .u8 0, .int .i64 0, .int .i64 0] 76)
  have s2 : (w1.alloc (.cells #[.int .u8 0, .int .i64 0, .int .i64 0] 76)).heap.size = w1.heap.size + 1 := by simp
  have d2 : Below w1.heap.size w1 (w1.alloc (.cells #[.int .u8 0, .int .i64 0, .int .i64 0] 76)) := (Below.refl _ _).alloc (Nat.le_refl _) _
  generalize w1.alloc (.cells #[.int .u8 0, .int .i64 0, .int .i64 0] 76) = w2 at *
  rw [s1] at b2
  exact ⟨(d2.block _ (by omega)).trans b1, b2, d1.trans (d2.mono (by omega)), by omega⟩
 have HX := Lib.hid hx0
 have HAA := Lib.hid hA
 clear hx0 hA
 go_enter Tryz.func28, Tryz.ntmps28
 go_wp2_with fail
 generalize hW2 : (w.alloc (.cells #[.string s, .slice A nA cA, .int .i64 (t : Nat)] 73)).alloc (.cells #[.int .u8 0, .int .i64 0, .int .i64 0] 76) = w2 at *
 clear hW2
 refine (HL1.out _ (HAA.out.below (Nat.le_refl _) HX.out.2.2.1)).mono ?_
 rintro e w3 ⟨rfl, hb3⟩
 have hX3 := HX.out.later hb3
 have hb4 := heap_alloc_new w3 (.cells #[.int .u8 0, .int .i64 (l1 : Nat), .int .i64 (d1 : Nat)] 76)
 have hX4 := hX3.later ((Below.refl w3.heap.size w3).alloc (Nat.le_refl _) (.cells #[.int .u8 0, .int .i64 (l1 : Nat), .int .i64 (d1 : Nat)] 76))
 have HX4 := Lib.hid hX4
 have HB4 := Lib.hid hb4
 have HS4 : Hid ((w3.alloc (.cells #[.int .u8 0, .int .i64 (l1 : Nat), .int .i64 (d1 : Nat)] 76)).heap.size = w3.heap.size + 1) := by show _ = _; simp
 clear hb3 hX3 hb4 hX4
 go_wp2_with fail
 generalize w3.alloc (.cells #[.int .u8 0, .int .i64 (l1 : Nat), .int .i64 (d1 : Nat)] 76) = w4 at *
 have c0 := (cell_of_row _ _ 0 _ _ _ HX4.out.1).trans (show _ = some (Value.string s) from rfl)
 have c1 := (cell_of_row _ _ 1 _ _ _ HX4.out.1).trans (show _ = some (Value.slice A nA cA) from rfl)
 have c2 := (cell_of_row _ _ 2 _ _ _ HX4.out.1).trans (show _ = some (Value.int .i64 (t : Nat)) from rfl)
 have k1 := (cell_of_row _ _ 1 _ _ _ HB4.out).trans (show _ = some (Value.int .i64 (l1 : Nat)) from rfl)
 have hbt := bt_get s p hp
 have hbl := bt_lt s p
 have HBT := Lib.hid hbt
 by_cases h0 : l1 = 0
 ·have HFIN := Lib.hid (HTK.out.trans (if_pos (.inl h0)))
  have hz : ((l1 : Int) == 0) = true := by rw [beq_iff_eq]; omega
  go_quiet (fail)
  have HX5 := Lib.hid (HX4.out.later (below_drewN (Below.refl _ _) nq))
  generalize w4.drewN nq = w5 at *
  have x0 := (cell_of_row _ _ 0 _ _ _ HX5.out.1).trans (show _ = some (Value.string s) from rfl)
  have r0 := (cell_of_row _ _ 0 _ _ _ HX5.out.2.1).trans (show _ = some (Value.int .u8 0) from rfl)
  have r1 := (cell_of_row _ _ 1 _ _ _ HX5.out.2.1).trans (show _ = some (Value.int .i64 0) from rfl)
  have r2 := (cell_of_row _ _ 2 _ _ _ HX5.out.2.1).trans (show _ = some (Value.int .i64 0) from rfl)
  have hfz := fun j => frozen_of_row _ _ j _ _ HX5.out.2.1
  go_wp2
  obtain ⟨_, m1, mb, _⟩ := HX5.out
  exact bodyPost_ret (results_cell_row rfl _ _ (w.heap.size + 1) 76 #[.int .u8 ((bt s p : Nat) : Int), .int .i64 0, .int .i64 0] (0, 0) _ rfl (three_set m1) Tryz.underlying76 rfl info_tokf) rfl ⟨by rw [HFIN.out]; rfl, ((mb.setCell (Nat.le_succ _) _).setCell (Nat.le_succ _) _).setCell (Nat.le_succ _) _⟩
 ·have hz : ((l1 : Int) == 0) = false := by rw [beq_eq_false_iff_ne]; omega
  have HC2 := Lib.hid (HL2.out w4.drew (HAA.out.below (Nat.le_refl _) (HX4.out.2.2.1.drew)))
  obtain ⟨q1, e1, f1⟩ : ∃ q : Nat, ((p : Int) + 1) = (q : Int) ∧ q = p + 1 := ⟨p + 1, by omega, rfl⟩
  rw [← f1] at HC2
  clear f1
  have w1' : IntKind.i64.wrap (q1 : Int) = (q1 : Int) := by rw [IntKind.wrap_i64]; omega
  by_cases hlt : l1 < l2
  ·have HFIN := Lib.hid (HTK.out.trans (if_pos (.inr hlt)))
   have g1 : decide ((l1 : Int) < (l2 : Int)) = true := decide_eq_true (by omega)
   have g2 : decide (l1 < l2) = true := decide_eq_true hlt
   go_region_law (first | (go_simp; go_at_call 48; go_must (refine (HC2.out).mono ?_; rintro e5 w5 ⟨rfl, hb5⟩; have HX5 := Lib.hid (HX4.out.later (w2 := w5) ⟨hb5.os, hb5.tape, hb5.output, hb5.size, hb5.block⟩); have HB5 := Lib.hid ((hb5.block w3.heap.size (by have := HS4.out; show w3.heap.size < w4.heap.size; omega)).trans HB4.out); have k5 : w5.cell? ⟨w3.heap.size, 1, none⟩ = some (.int .i64 (l1 : Nat)) := ((cell_of_row _ _ 1 _ _ _ HB5.out).trans rfl); have k50 : w5.cell? ⟨w3.heap.size, 0, none⟩ = some (.int .u8 0) := ((cell_of_row _ _ 0 _ _ _ HB5.out).trans rfl); have k52 : w5.cell? ⟨w3.heap.size, 2, none⟩ = some (.int .i64 (d1 : Nat)) := ((cell_of_row _ _ 2 _ _ _ HB5.out).trans rfl); have x0 : w5.cell? ⟨w.heap.size, 0, none⟩ = some (.string s) := ((cell_of_row _ _ 0 _ _ _ HX5.out.1).trans rfl); have r0 : w5.cell? ⟨w.heap.size + 1, 0, none⟩ = some (.int .u8 0) := ((cell_of_row _ _ 0 _ _ _ HX5.out.2.1).trans rfl); have r1 : w5.cell? ⟨w.heap.size + 1, 1, none⟩ = some (.int .i64 0) := ((cell_of_row _ _ 1 _ _ _ HX5.out.2.1).trans rfl); have r2 : w5.cell? ⟨w.heap.size + 1, 2, none⟩ = some (.int .i64 0) := ((cell_of_row _ _ 2 _ _ _ HX5.out.2.1).trans rfl); have hfz := fun j => frozen_of_row _ _ j _ _ HX5.out.2.1)))
   all_goals
    simp only [Act.put, List.setIfInBounds_toArray, List.getElem_toArray, List.getElem_cons_succ, List.getElem_cons_zero, List.set_cons_zero, List.set_cons_succ]
    go_wp2
    obtain ⟨_, m1, mb, _⟩ := HX5.out
    exact bodyPost_ret (results_cell_row rfl _ _ (w.heap.size + 1) 76 #[.int .u8 ((bt s p : Nat) : Int), .int .i64 0, .int .i64 0] (0, 0) _ rfl (three_set m1) Tryz.underlying76 rfl info_tokf) rfl ⟨by rw [HFIN.out]; rfl, ((mb.setCell (Nat.le_succ _) _).setCell (Nat.le_succ _) _).setCell (Nat.le_succ _) _⟩
  ·have HFIN := Lib.hid (HTK.out.trans (if_neg (by omega)))
   have g1 : decide ((l1 : Int) < (l2 : Int)) = false := decide_eq_false (by omega)
   have g2 : decide (l1 < l2) = false := decide_eq_false hlt
   go_region_law (first | (go_simp; go_at_call 48; go_must (refine (HC2.out).mono ?_; rintro e5 w5 ⟨rfl, hb5⟩; have HX5 := Lib.hid (HX4.out.later (w2 := w5) ⟨hb5.os, hb5.tape, hb5.output, hb5.size, hb5.block⟩); have HB5 := Lib.hid ((hb5.block w3.heap.size (by have := HS4.out; show w3.heap.size < w4.heap.size; omega)).trans HB4.out); have k5 : w5.cell? ⟨w3.heap.size, 1, none⟩ = some (.int .i64 (l1 : Nat)) := ((cell_of_row _ _ 1 _ _ _ HB5.out).trans rfl); have k50 : w5.cell? ⟨w3.heap.size, 0, none⟩ = some (.int .u8 0) := ((cell_of_row _ _ 0 _ _ _ HB5.out).trans rfl); have k52 : w5.cell? ⟨w3.heap.size, 2, none⟩ = some (.int .i64 (d1 : Nat)) := ((cell_of_row _ _ 2 _ _ _ HB5.out).trans rfl); have x0 : w5.cell? ⟨w.heap.size, 0, none⟩ = some (.string s) := ((cell_of_row _ _ 0 _ _ _ HX5.out.1).trans rfl); have r0 : w5.cell? ⟨w.heap.size + 1, 0, none⟩ = some (.int .u8 0) := ((cell_of_row _ _ 0 _ _ _ HX5.out.2.1).trans rfl); have r1 : w5.cell? ⟨w.heap.size + 1, 1, none⟩ = some (.int .i64 0) := ((cell_of_row _ _ 1 _ _ _ HX5.out.2.1).trans rfl); have r2 : w5.cell? ⟨w.heap.size + 1, 2, none⟩ = some (.int .i64 0) := ((cell_of_row _ _ 2 _ _ _ HX5.out.2.1).trans rfl); have hfz := fun j => frozen_of_row _ _ j _ _ HX5.out.2.1)))
   all_goals
    simp only [Act.put, List.setIfInBounds_toArray, List.getElem_toArray, List.getElem_cons_succ, List.getElem_cons_zero, List.set_cons_zero, List.set_cons_succ]
    go_wp2
    obtain ⟨_, m1, mb, _⟩ := HX5.out
    exact bodyPost_ret (results_cell_row rfl _ _ (w.heap.size + 1) 76 #[.int .u8 0, .int .i64 (l1 : Nat), .int .i64 (d1 : Nat)] (0, 0) _ rfl (three_set m1) Tryz.underlying76 rfl info_tokf) rfl ⟨by rw [HFIN.out]; rfl, ((mb.setCell (Nat.le_succ _) _).setCell (Nat.le_succ _) _).setCell (Nat.le_succ _) _⟩
end Go.Proofs.YtmkeicfklbepnaaGreat

namespace Go.Proofs.YtmkeicfklbepnaaGreat
set_option maxRecDepth 100000
open Go.Joins Go.RowKit Go.Deep

/-- How many places a level looks at. -/
def triesOf (level : Nat) : Nat := if level = 0 then 0 else 2 * 2 ^ level
theorem tries_le (level : Nat) (h : level ≤ 9) : triesOf level ≤ 2000 := by
 unfold triesOf
 split
 ·omega
 ·have : 2 ^ level ≤ 2 ^ 9 := Nat.pow_le_pow_right (by omega) h
  omega
theorem info_search : (Tryz.prog.info? 73).map (·.size) = some 3 := by kernel_rfl
theorem zero_search (w : World) : (zeroValue 73).run Tryz.prog w = .ok (.agg #[.string ⟨#[]⟩, .slice none 0 0, .int .i64 0]) w := by kernel_rfl
set_option maxHeartbeats 8000000 in
theorem begin_any (s : ByteArray) (level : Nat) (hs : s.size ≤ 10000) (hl : level ≤ 9) (w : World) :
  Calls Tryz.prog 27 #[.string s, .int .i64 (level : Nat)] w fun e w' => ∃ A nA cA, e = .returned (.agg #[.string s, .slice A nA cA, .int .i64 (triesOf level : Nat)]) ∧ Bef w' s A nA (triesOf level) ∧ Below w.heap.size w w' := by
 have hzs := zero_search
 have hb0 : Below w.heap.size w (w.alloc (.cells #[.string ⟨#[]⟩, .slice none 0 0, .int .i64 0] 73)) := (Below.refl _ _).alloc (Nat.le_refl _) _
 have hx0 := heap_alloc_new w (.cells #[.string ⟨#[]⟩, .slice none 0 0, .int .i64 0] 73)
 have hs0 : (w.alloc (.cells #[.string ⟨#[]⟩, .slice none 0 0, .int .i64 0] 73)).heap.size = w.heap.size + 1 := by simp
 have HB := Lib.hid hb0
 have HX := Lib.hid hx0
 have HS := Lib.hid hs0
 have HEA := Lib.hid (fun W => earlier_any s hs W)
 have h2 : (2 : Nat) ^ level ≤ 512 := Nat.pow_le_pow_right (n := 2) (by omega) hl
 clear hb0 hx0 hs0
 go_enter Tryz.func27, Tryz.ntmps27
 by_cases h0 : level = 0
 ·subst h0
  have hx1 := heap_alloc_new w (.cells #[.string s, .slice none 0 0, .int .i64 0] 73)
  have hb1 : Below w.heap.size w (w.alloc (.cells #[.string s, .slice none 0 0, .int .i64 0] 73)) := (Below.refl _ _).alloc (Nat.le_refl _) _
  go_wp2_with fail
  exact bodyPost_ret (results_cell_row rfl _ _ w.heap.size 73 #[.string s, .slice none 0 0, .int .i64 0] (0, 0) _ rfl hx1 Tryz.underlying73 rfl info_search) rfl ⟨none, 0, 0, rfl, fun h => absurd h (by decide), hb1⟩
 ·have hz : ((level : Int) == 0) = false := by rw [beq_eq_false_iff_ne]; omega
  go_wp2_with fail
  generalize w.alloc (.cells #[.string ⟨#[]⟩, .slice none 0 0, .int .i64 0] 73) = w1 at *
  have HE1 := Lib.hid (HEA.out w1.drew)
  go_region_law (first | (go_simp; go_at_call 47; go_must (refine (HE1.out).mono ?_; rintro e5 w5 ⟨g, rfl, hg5, hr5, hb5⟩; have HX5 := Lib.hid ((hb5.block w.heap.size (by have := HS.out; show w.heap.size < w1.heap.size; omega)).trans (by exact HX.out)); have r0 : w5.cell? ⟨w.heap.size, 0, none⟩ = some (.string ⟨#[]⟩) := ((cell_of_row _ _ 0 _ _ _ HX5.out).trans rfl); have r1 : w5.cell? ⟨w.heap.size, 1, none⟩ = some (.slice none 0 0) := ((cell_of_row _ _ 1 _ _ _ HX5.out).trans rfl); have r2 : w5.cell? ⟨w.heap.size, 2, none⟩ = some (.int .i64 0) := ((cell_of_row _ _ 2 _ _ _ HX5.out).trans rfl); have hfz := fun j => frozen_of_row _ _ j _ _ HX5.out)))
  all_goals
   have hsh : IntKind.i64.wrap (2 * 2 ^ level) = ((triesOf level : Nat) : Int) := by
    have e1 : ((2 : Int) * 2 ^ level) = ((2 * 2 ^ level : Nat) : Int) := by rw [Int.natCast_mul, Int.natCast_pow]; rfl
    rw [e1, IntKind.wrap_i64]
    unfold triesOf
    rw [if_neg h0]
    omega
   rw [hsh]
   have HR5 := Lib.hid hr5
   have HG5 : Hid (w.heap.size < g ∧ g < w5.heap.size) := by
    have h1 := HS.out; have h2 := (Array.getElem?_eq_some_iff.1 hr5).1
    exact ⟨by have h3 : w1.heap.size ≤ g := hg5; omega, h2⟩
   have HB5 : Hid (Below w.heap.size w w5) := HB.out.trans (Below.mono (w := w1) ⟨hb5.os, hb5.tape, hb5.output, hb5.size, hb5.block⟩ (by show w.heap.size ≤ w1.heap.size; have := HS.out; omega))
   clear hb5 hr5 hg5 r0 r1 r2 hfz
   go_wp2
   refine bodyPost_ret (results_cell_row rfl _ _ w.heap.size 73 #[.string s, .slice (some ⟨g, 0, none⟩) s.size s.size, .int .i64 (triesOf level : Nat)] (0, 0) _ rfl (three_set HX5.out) Tryz.underlying73 rfl info_search) rfl ⟨some ⟨g, 0, none⟩, s.size, s.size, rfl, fun _ => ⟨g, rfl, rfl, by have := HG5.out; simpa [World.setCell] using this.2, ?_⟩, ((HB5.out.setCell (Nat.le_refl _) _).setCell (Nat.le_refl _) _).setCell (Nat.le_refl _) _⟩
   have hne := HG5.out.1
   rw [Below.heap_setCell _ _ _ _ (by show g ≠ w.heap.size; omega), Below.heap_setCell _ _ _ _ (by show g ≠ w.heap.size; omega), Below.heap_setCell _ _ _ _ (by show g ≠ w.heap.size; omega)]
   exact HR5.out

/-- The cells of the first tokens. -/
def tokCells (f : Nat → Tok) : Nat → List Value
 | 0 => []
 | k + 1 => tokCells f k ++ cellT (f k)
theorem tokCells_len (f : Nat → Tok) (n : Nat) : (tokCells f n).length = n * 3 := by
 induction n with
 | zero => rfl
 | succ n ih => rw [tokCells, List.length_append, ih]; simp [cellT]; omega
theorem tokCells_get (f : Nat → Tok) (n i j : Nat) (hi : i < n) (hj : j < 3) : (tokCells f n)[i * 3 + j]? = (cellT (f i))[j]? := by
 induction n with
 | zero => omega
 | succ n ih =>
  rw [tokCells]
  by_cases e : i = n
  ·subst e
   rw [List.getElem?_append_right (by rw [tokCells_len]; omega), tokCells_len, show i * 3 + j - i * 3 = j by omega]
  ·rw [List.getElem?_append_left (by rw [tokCells_len]; omega)]
   exact ih (by omega)
theorem toks_of_own {w : World} {B n c : Nat} {e : TypeId} {A : Option Addr} {f : Nat → Tok} (h : w.ownsRow B e 3 (.slice A n c) n (tokCells f n)) (hok : ∀ i, i < n → TokOk (f i)) : Toks w A n f := fun hn => by
 have hlt := h.lt
 rcases h.2 with ⟨_, h0⟩ | ⟨g, cap, cur, hv, _, hg, _, _, _, htake⟩
 ·omega
 ·injection hv with hA _ _
  subst hA
  have hc : ∀ i j, i < n → j < 3 → w.cell? ⟨g, i * 3 + j, none⟩ = (cellT (f i))[j]? := fun i j hi hj => by
   rw [cell_of_row w g _ _ _ _ hg, ← tokCells_get f n i j hi hj, ← htake, List.getElem?_take, if_pos (by omega)]
   simp
  refine ⟨g, 0, rfl, (hlt g rfl).2, fun i hi => ⟨hok i hi, ?_, ?_, ?_⟩⟩
  ·have := hc i 0 hi (by omega); simpa [cellT] using this
  ·have := hc i 1 hi (by omega); simpa [cellT] using this
  ·have := hc i 2 hi (by omega); simpa [cellT] using this
theorem info_tok3 : (Tryz.prog.info? 76).map (fun i => (i.zero, i.size, i.bytes)) = some (some (.agg #[.int .u8 0, .int .i64 0, .int .i64 0]), 3, 24) := by kernel_rfl
theorem cells3 {w : World} {g : Nat} {x y z : Value} {T : TypeId} (h : w.heap[g]? = some (.cells #[x, y, z] T (0, 0))) : ∀ j u, [x, y, z][j]? = some u → w.cell? ((⟨g, 0, none⟩ : Addr).add j) = some u := by
 intro j u hj
 rw [Addr.add_lit, Nat.zero_add, cell_of_row w g j _ _ _ h]
 simpa using hj
theorem cellT_one (t : Tok) : ∀ u ∈ cellT t, u.oneCell' = true := by
 intro u hu
 simp [cellT] at hu
 rcases hu with rfl | rfl | rfl <;> rfl
theorem row_slice' {w : World} {B n z : Nat} {e : TypeId} {v : Value} {l : List Value} (h : w.ownsRow B e z v n l) : ∃ A c, v = .slice A n c := by
 rcases h.2 with ⟨rfl, rfl⟩ | ⟨g, cap, cur, rfl, _⟩
 ·exact ⟨_, _, rfl⟩
 ·exact ⟨_, _, rfl⟩
end Go.Proofs.YtmkeicfklbepnaaGreat

namespace Go.Proofs.YtmkeicfklbepnaaGreat
set_option maxRecDepth 100000
open Go.RowKit Go.Joins Go.Deep

def shrN (ls : Nat → Nat) (least : Nat) : Nat → Nat
 | 0 => 0
 | n + 1 => if least < n + 1 ∧ ls n = 0 then shrN ls least n else n + 1
theorem shrN_le (ls : Nat → Nat) (least : Nat) : ∀ n, shrN ls least n ≤ n
 | 0 => Nat.le_refl _
 | n + 1 => by
  rw [shrN]
  split
  ·have := shrN_le ls least n; omega
  ·exact Nat.le_refl _
theorem shrN_ge (ls : Nat → Nat) (least : Nat) : ∀ n, least ≤ n → least ≤ shrN ls least n
 | 0, h => by rw [shrN]; exact h
 | n + 1, h => by
  rw [shrN]
  split
  ·rename_i hc; exact shrN_ge ls least n (by omega)
  ·exact h
theorem shrN_zero (ls : Nat → Nat) (least : Nat) : ∀ n i, shrN ls least n ≤ i → i < n → ls i = 0
 | 0, i, _, h => by omega
 | n + 1, i, h1, h2 => by
  rw [shrN] at h1
  split at h1
  ·rename_i hc
   by_cases e : i = n
   ·subst e; exact hc.2
   ·exact shrN_zero ls least n i h1 (by omega)
  ·omega
def slN (v : Value) : Nat := match v with | .slice _ n _ => n | _ => 0
theorem slN_of (A : Option Addr) (n c : Nat) : slN (.slice A n c) = n := rfl
set_option maxHeartbeats 2000000 in
theorem short_any (A : Option Addr) (n cap least : Nat) (ls : Nat → Nat) (hn : n ≤ 1000) (hl : least ≤ 1000) (hcap : n ≤ cap) (w : World) (hL : Lens w A n ls) :
  Calls Tryz.prog 89 #[.slice A n cap, .int .i64 (least : Nat)] w fun e w' => e = .returned (.slice A (shrN ls least n) cap) ∧ w' = w := by
 have HL := Lib.hid hL
 clear hL
 go_enter Tryz.func89, Tryz.ntmps89
 go_wp2_with fail
 go_loopw [0] (fun v wr => ∃ k : Nat, k ≤ n ∧ v = .slice A k cap ∧ wr = w ∧ Hid (shrN ls least k = shrN ls least n)) (fun v _ => slN v)
 case atStart => exact ⟨n, Nat.le_refl _, rfl, rfl, rfl⟩
 case round =>
  obtain ⟨k, hk, rfl, rfl, HK⟩ := hrel
  by_cases hlt : least < k
  ·obtain ⟨j, rfl⟩ : ∃ j, k = j + 1 := ⟨k - 1, by omega⟩
   obtain ⟨b, off, rfl, hbl, hc⟩ := HL.out (by omega)
   have c1 := (hc j (by omega)).1
   have h1 : ((j + 1 : Nat) : Int) - 1 = (j : Int) := by omega
   have h2 : IntKind.i64.wrap (((j + 1 : Nat) : Int) - 1) = (j : Int) := by rw [IntKind.wrap_i64]; omega
   have h3 : (j : Int) + 1 - 1 = (j : Int) := by omega
   have hg : decide ((least : Int) < ((j + 1 : Nat) : Int)) = true := decide_eq_true (by omega)
   have hg2 : decide ((least : Int) < (j : Int) + 1) = true := decide_eq_true (by omega)
   have hjc : j ≤ cap := by omega
   have hjI : (j : Int) ≤ cap := by omega
   clear hc
   by_cases hz : ls j = 0
   ·have HS : Hid (shrN ls least j = shrN ls least n) := by
     rw [Hid, ← HK.out]
     conv => rhs; rw [shrN]
     rw [if_pos ⟨hlt, hz⟩]
    rw [hz] at c1
    go_wp2_with fail
    go_roundw
    case rel => exact ⟨j, by omega, rfl, by trivial, HS⟩
    case measure => simp [slN_of]
   ·have HS : Hid (shrN ls least n = j + 1) := by
     rw [Hid, ← HK.out, shrN, if_neg (fun h => hz h.2)]
    have hd : (((ls j : Nat) : Int) == 0) = false := by rw [beq_eq_false_iff_ne]; omega
    clear hz
    generalize ls j = x at *
    go_wp2_with fail
    go_ret
    exact ⟨by rw [HS.out]; rfl, by trivial⟩
  ·have HS : Hid (shrN ls least n = k) := by
    rw [Hid, ← HK.out]
    cases k with
    | zero => rfl
    | succ j => rw [shrN, if_neg (by omega)]
   have hg : decide ((least : Int) < (k : Int)) = false := decide_eq_false (by omega)
   go_wp2_with fail
   go_ret
   exact ⟨by rw [HS.out]; rfl, by trivial⟩

/-! ## All pieces -/
def pzN (row : Nat → Nat) (n : Nat) : Nat → Nat
 | 0 => 0
 | k + 1 => pzN row n k + (pcN row n (pzN row n k)).mn
def pkN (row : Nat → Nat) (n k : Nat) : Pc := pcN row n (pzN row n k)
theorem pc_mn (row : Nat → Nat) (n a : Nat) (h : a < n) : 1 ≤ (pcN row n a).mn ∧ a + (pcN row n a).mn ≤ n := by
 obtain ⟨h1, h2, _⟩ := alk_ge row n a h
 unfold pcN
 (repeat' split) <;> (dsimp only) <;> omega
theorem pc_bd (row : Nat → Nat) (n a : Nat) (h : row a < 16) : (pcN row n a).sg < 19 ∧ (pcN row n a).mo ≤ 7 ∧ (pcN row n a).re < 128 ∧ (n ≤ 1000 → a < n → (pcN row n a).re < 2 ^ (pcN row n a).mo) := by
 unfold pcN
 split
 ·refine ⟨by dsimp only; omega, by dsimp only; omega, by dsimp only; omega, fun _ _ => by dsimp only; omega⟩
 ·split
  ·rename_i h1 h2
   refine ⟨by dsimp only; omega, by dsimp only; omega, by dsimp only; omega, fun _ _ => by dsimp only; omega⟩
  ·split
   ·refine ⟨by dsimp only; omega, by dsimp only; omega, by dsimp only; omega, fun _ _ => by dsimp only; omega⟩
   ·refine ⟨by dsimp only; omega, by dsimp only; omega, by dsimp only; omega, fun _ _ => by dsimp only; omega⟩
/-- All of a row is told by so many pieces. -/
def Split1 (row : Nat → Nat) (n K : Nat) : Prop := pzN row n K = n ∧ ∀ j, j < K → pzN row n j < n
def cellP (p : Pc) : List Value := [.int .i64 (p.sg : Nat), .int .i64 (p.mo : Nat), .int .u32 (p.re : Nat)]
def pcCells (row : Nat → Nat) (n : Nat) : Nat → List Value
 | 0 => []
 | k + 1 => pcCells row n k ++ cellP (pkN row n k)
theorem pcCells_len (row : Nat → Nat) (n K : Nat) : (pcCells row n K).length = K * 3 := by
 induction K with
 | zero => rfl
 | succ K ih => rw [pcCells, List.length_append, ih]; simp [cellP]; omega
theorem pcCells_get (row : Nat → Nat) (n K i j : Nat) (hi : i < K) (hj : j < 3) : (pcCells row n K)[i * 3 + j]? = (cellP (pkN row n i))[j]? := by
 induction K with
 | zero => omega
 | succ K ih =>
  rw [pcCells]
  by_cases e : i = K
  ·subst e
   rw [List.getElem?_append_right (by rw [pcCells_len]; omega), pcCells_len, show i * 3 + j - i * 3 = j by omega]
  ·rw [List.getElem?_append_left (by rw [pcCells_len]; omega)]
   exact ih (by omega)
def Pcs (w : World) (A : Option Addr) (K : Nat) (row : Nat → Nat) (n : Nat) : Prop := 0 < K → ∃ b, A = some ⟨b, 0, none⟩ ∧ (∃ cs, w.heap[b]? = some (.cells cs 175 (0, 0))) ∧ ∀ i, i < K → w.cell? ⟨b, i * 3, none⟩ = some (.int .i64 ((pkN row n i).sg : Nat)) ∧ w.cell? ⟨b, i * 3 + 1, none⟩ = some (.int .i64 ((pkN row n i).mo : Nat)) ∧ w.cell? ⟨b, i * 3 + 2, none⟩ = some (.int .u32 ((pkN row n i).re : Nat))
theorem pcs_of_own {w : World} {B K c n : Nat} {A : Option Addr} {row : Nat → Nat} (h : w.ownsRow B 175 3 (.slice A K c) K (pcCells row n K)) : Pcs w A K row n := fun hn => by
 rcases h.2 with ⟨_, h0⟩ | ⟨g, cap, cur, hv, _, hg, _, _, _, htake⟩
 ·omega
 ·injection hv with hA _ _
  subst hA
  have hc : ∀ i j, i < K → j < 3 → w.cell? ⟨g, i * 3 + j, none⟩ = (cellP (pkN row n i))[j]? := fun i j hi hj => by
   rw [cell_of_row w g _ _ _ _ hg, ← pcCells_get row n K i j hi hj, ← htake, List.getElem?_take, if_pos (by omega)]
   simp
  refine ⟨g, rfl, ⟨_, hg⟩, fun i hi => ⟨?_, ?_, ?_⟩⟩
  ·have := hc i 0 hi (by omega); simpa [cellP] using this
  ·have := hc i 1 hi (by omega); simpa [cellP] using this
  ·have := hc i 2 hi (by omega); simpa [cellP] using this
theorem Pcs.stay {w w' : World} {A : Option Addr} {K n : Nat} {row : Nat → Nat} (h : Pcs w A K row n) (hf : ∀ (i : Nat) (cs : Array Value), w.heap[i]? = some (.cells cs 175 (0, 0)) → w'.heap[i]? = some (.cells cs 175 (0, 0))) : Pcs w' A K row n := fun hn => by
 obtain ⟨b, h1, ⟨cs, h2⟩, h3⟩ := h hn
 have e : ∀ j, w'.cell? ⟨b, j, none⟩ = w.cell? ⟨b, j, none⟩ := fun j => World.cell?_of_block (a := ⟨b, j, none⟩) ((hf b cs h2).trans h2.symm)
 exact ⟨b, h1, ⟨cs, hf b cs h2⟩, fun i hi => ⟨(e _).trans (h3 i hi).1, (e _).trans (h3 i hi).2.1, (e _).trans (h3 i hi).2.2⟩⟩
theorem info_pc3 : (Tryz.prog.info? 175).map (fun i => (i.zero, i.size, i.bytes)) = some (some (.agg #[.int .i64 0, .int .i64 0, .int .u32 0]), 3, 24) := by kernel_rfl
theorem cellP_one (p : Pc) : ∀ u ∈ cellP p, u.oneCell' = true := by
 intro u hu
 simp [cellP] at hu
 rcases hu with rfl | rfl | rfl <;> rfl
set_option maxHeartbeats 4000000 in
theorem pieces_any (A : Option Addr) (n cap : Nat) (row : Nat → Nat) (hn : n ≤ 1000) (w : World) (hL : Lens w A n row) :
  Calls Tryz.prog 107 #[.slice A n cap] w fun e w' => ∃ K A2 c2, e = .returned (.slice A2 K c2) ∧ K ≤ n ∧ Split1 row n K ∧ Pcs w' A2 K row n ∧ Below w.heap.size w w' := by
 obtain ⟨i0, hi, hz0, hz1, hz2⟩ := info_parts info_pc3
 have hzp := zero_pc
 have HL := Lib.hid hL
 clear hL
 go_enter Tryz.func107, Tryz.ntmps107
 go_wp2_with fail
 go_loopw [3, 4] (fun v i wr => ∃ k : Nat, i = .int .i64 ((pzN row n k : Nat) : Int) ∧ k ≤ pzN row n k ∧ pzN row n k ≤ n ∧ Hid (∀ j, j < k → pzN row n j < n) ∧ Hid (wr.ownsRow w.heap.size 175 3 v k (pcCells row n k)) ∧ Hid (Below w.heap.size w wr)) (fun _ i _ => n - (intOf i).toNat)
 case atStart => exact ⟨0, rfl, Nat.le_refl _, Nat.zero_le _, fun j h => by omega, World.ownsRow_nil _ _ _ _, Below.refl _ _⟩
 case round =>
  obtain ⟨k, rfl, hkp, hpn, HJ, HO, HB⟩ := hrel
  have HPS : Hid (pzN row n (k + 1) = pzN row n k + (pkN row n k).mn) := rfl
  have HTS : Hid (pcCells row n (k + 1) = pcCells row n k ++ cellP (pkN row n k)) := rfl
  obtain ⟨A2, cp2, rfl⟩ := row_slice' HO.out
  by_cases hpl : pzN row n k < n
  ·have HTA : Hid (Calls Tryz.prog 123 #[.slice A n cap, .int .i64 ((pzN row n k : Nat) : Int)] wr fun e w' => e = .returned (.tuple #[PcV (pkN row n k), .int .i64 ((pkN row n k).mn : Nat)]) ∧ Below wr.heap.size wr w') := first_any A n cap _ row hpl hn wr (HL.out.below (Nat.le_refl _) HB.out)
   have hmm : 1 ≤ (pkN row n k).mn ∧ pzN row n k + (pkN row n k).mn ≤ n := pc_mn row n _ hpl
   generalize hP : pzN row n k = P at *
   generalize pkN row n k = T at *
   have HP := Lib.hid hP
   clear hP
   obtain ⟨ts, tm, tr, tn⟩ := T
   unfold PcV at HTA
   dsimp only at *
   go_wp2_with fail
   refine (HTA.out).mono ?_
   rintro e w3 ⟨rfl, hb3⟩
   have hx4 := heap_alloc_new w3 (.cells #[.int .i64 (ts : Nat), .int .i64 (tm : Nat), .int .u32 (tr : Nat)] 175)
   have hb4 : Below wr.heap.size wr (w3.alloc (.cells #[.int .i64 (ts : Nat), .int .i64 (tm : Nat), .int .u32 (tr : Nat)] 175)) := hb3.alloc hb3.size _
   have hs4 : (w3.alloc (.cells #[.int .i64 (ts : Nat), .int .i64 (tm : Nat), .int .u32 (tr : Nat)] 175)).heap.size = w3.heap.size + 1 := by simp
   have hx5 := heap_alloc_new (w3.alloc (.cells #[.int .i64 (ts : Nat), .int .i64 (tm : Nat), .int .u32 (tr : Nat)] 175)) (.cells #[.int .i64 (ts : Nat), .int .i64 (tm : Nat), .int .u32 (tr : Nat)] 175)
   have hb5 : Below wr.heap.size wr ((w3.alloc (.cells #[.int .i64 (ts : Nat), .int .i64 (tm : Nat), .int .u32 (tr : Nat)] 175)).alloc (.cells #[.int .i64 (ts : Nat), .int .i64 (tm : Nat), .int .u32 (tr : Nat)] 175)) := hb4.alloc hb4.size _
   have hs5 : ((w3.alloc (.cells #[.int .i64 (ts : Nat), .int .i64 (tm : Nat), .int .u32 (tr : Nat)] 175)).alloc (.cells #[.int .i64 (ts : Nat), .int .i64 (tm : Nat), .int .u32 (tr : Nat)] 175)).heap.size = w3.heap.size + 2 := by simp
   rw [hs4] at hx5
   have ho5 := row_kept' HO.out (fun g hg => hb5.block g (HO.out.lt g hg).2)
   have HS3 : Hid (wr.heap.size ≤ w3.heap.size) := hb3.size
   have HX4 := Lib.hid hx4
   have HX5 := Lib.hid hx5
   have HS5 := Lib.hid hs5
   have HB5 := Lib.hid hb5
   have HO5 := Lib.hid ho5
   have hne : Hid (∀ gg, (Value.slice A2 k cp2).ownBlock = some gg → gg < wr.heap.size ∧ w.heap.size ≤ gg) := fun gg hg => ⟨(HO.out.lt gg hg).2, (HO.out.lt gg hg).1⟩
   clear hx4 hx5 hs5 hs4 hb5 hb4 hb3 ho5 HTA
   go_wp2_with first
    | (at_builtin; go_must (refine wpList_append_own_at _ rfl (.tmp 17) (.tmp 19) _ rfl w.heap.size 175 i0 (.agg #[.int .i64 0, .int .i64 0, .int .u32 0]) 3 24 Tryz.underlying172 hi hz0 hz1 hz2 rfl (by decide) (.slice A2 k cp2) k _ rfl HO5.out ⟨w3.heap.size + 1, 0, none⟩ 1 1 [.int .i64 (ts : Nat), .int .i64 (tm : Nat), .int .u32 (tr : Nat)] rfl rfl (cells3 HX5.out) (cellP_one ⟨ts, tm, tr, tn⟩) (by unfold maxLen; omega) (by omega) (by have h1 := HB.out.size; have h2 := HS3.out; have h3 := HS5.out; omega) ?_; intro v' w6 hown' hgrow hnil hloc; have HO6 := Lib.hid hown'; have HB6 := Lib.hid ((HB.out.trans (HB5.out.mono HB.out.size)).grown hgrow (by have h1 := HB.out.size; have h2 := HS3.out; have h3 := HS5.out; omega) (fun j hj => (hne.out j hj).2)); clear hown' hgrow hnil hloc))
   have hPW : (P : Int) + (tn : Int) = ((pzN row n (k + 1) : Nat) : Int) := by rw [HPS.out]; omega
   go_roundw
   case rel =>
    refine ⟨k + 1, by rw [hPW], by have := HPS.out; omega, by have := HPS.out; omega, ?_, ?_, HB6⟩
    ·intro j hj
     by_cases e : j = k
     ·subst e; rw [HP.out]; omega
     ·exact HJ.out j (by omega)
    ·show World.ownsRow _ _ _ _ _ _ _
     rw [HTS.out]
     exact HO6.out
   case measure => simp [intOf]; omega
  ·have HFD : Hid (Split1 row n k) := ⟨by omega, HJ.out⟩
   have HTT := Lib.hid (pcs_of_own HO.out)
   have hP : pzN row n k = n := by omega
   have hkn : k ≤ n := by omega
   rw [hP]
   go_wp2
   go_ret
   exact ⟨k, A2, cp2, rfl, hkn, HFD.out, HTT.out, HB.out⟩
end Go.Proofs.YtmkeicfklbepnaaGreat

namespace Go.Proofs.YtmkeicfklbepnaaGreat
open Go.RowKit Go.Joins

end Go.Proofs.YtmkeicfklbepnaaGreat
