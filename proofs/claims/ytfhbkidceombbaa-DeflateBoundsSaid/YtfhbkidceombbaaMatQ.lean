/-
  Contract: token.
-/
import Derived.Test.YtfhbkidceombbaaMatP
namespace Go.Proofs.Ytfhbkidceombbaa
set_option maxRecDepth 100000
open Go.Joins Go.RowKit Go.Deep

/-- What a search's row of places is. -/
def Bef (w : World) (s : ByteArray) (A : Option Addr) (nA t : Nat) : Prop := 0 < t → ∃ g, A = some ⟨g, 0, none⟩ ∧ nA = s.size ∧ g < w.heap.size ∧ w.heap[g]? = some (.cells (rowF (befT (bt s) s.size) s.size) 3 (0, 0))
theorem Bef.below {w w' : World} {s : ByteArray} {A : Option Addr} {nA t B : Nat} (h : Bef w s A nA t) (hB : w.heap.size ≤ B) (hb : Below B w w') : Bef w' s A nA t := fun ht => by
  obtain ⟨g, h1, h2, h3, h4⟩ := h ht
  exact ⟨g, h1, h2, Nat.lt_of_lt_of_le h3 hb.size, (hb.block g (by omega)).trans h4⟩
/-- What a token's making keeps: its search, and the place of the answer. -/
def TSt (w wr : World) (s : ByteArray) (v : Value) (t : Nat) : Prop :=
  wr.heap[w.heap.size]? = some (.cells #[.string s, v, .int .i64 (t : Nat)] 127 (0, 0)) ∧
  wr.heap[w.heap.size + 1]? = some (.cells #[.int .u8 0, .int .i64 0, .int .i64 0] 43 (0, 0)) ∧ Below w.heap.size w wr ∧ w.heap.size + 2 ≤ wr.heap.size
theorem TSt.later {w wr w2 : World} {s : ByteArray} {v : Value} {t : Nat} (h : TSt w wr s v t) (hb : Below wr.heap.size wr w2) : TSt w w2 s v t := by
  obtain ⟨h1, h2, h4, h5⟩ := h
  exact ⟨(hb.block _ (by omega)).trans h1, (hb.block _ (by omega)).trans h2, h4.trans (hb.mono h4.size), Nat.le_trans h5 hb.size⟩
theorem field_len (b l d : Int) (W : World) : (Instr.field 43 (.agg #[.int .u8 b, .int .i64 l, .int .i64 d]) 1).run Try.prog W = .ok (.int .i64 l) W := by kernel_rfl
set_option maxHeartbeats 8000000 in
theorem token_any (s : ByteArray) (A : Option Addr) (nA cA t p : Nat) (hs : s.size ≤ 10000) (hp : p < s.size) (ht : t ≤ 2000) (w : World) (hA : Bef w s A nA t) :
    Calls Try.prog 75 #[.agg #[.string s, .slice A nA cA, .int .i64 (t : Nat)], .int .i64 (p : Nat)] w fun e w' => e = .returned (valT (tokT (bt s) s.size (befT (bt s) s.size) t p)) ∧ Below w.heap.size w w' := by
  have hzt := zero_tok
  have hfld := field_len
  have HL1 := Lib.hid (fun W h => longest_any s A nA cA t p hs (by omega) ht W h)
  have HL2 := Lib.hid (fun W h => longest_any s A nA cA t (p + 1) hs (by omega) ht W h)
  have HTK : Hid (tokT (bt s) s.size (befT (bt s) s.size) t p = if (longT (bt s) s.size (befT (bt s) s.size) t p).1 = 0 ∨ (longT (bt s) s.size (befT (bt s) s.size) t p).1 < (longT (bt s) s.size (befT (bt s) s.size) t (p + 1)).1 then ⟨bt s p, 0, 0⟩ else ⟨0, ((longT (bt s) s.size (befT (bt s) s.size) t p).1 : Nat), ((longT (bt s) s.size (befT (bt s) s.size) t p).2 : Nat)⟩) := rfl
  have hok1 := long_ok (bt s) s.size t p
  have hok2 := long_ok (bt s) s.size t (p + 1)
  generalize longT (bt s) s.size (befT (bt s) s.size) t p = L1 at *
  generalize longT (bt s) s.size (befT (bt s) s.size) t (p + 1) = L2 at *
  obtain ⟨l1, d1⟩ := L1
  obtain ⟨l2, d2⟩ := L2
  have hl1 : l1 ≤ 258 := by rcases hok1 with ⟨h, _⟩ | ⟨_, h, _⟩ <;> simp only at h <;> omega
  have hl2 : l2 ≤ 258 := by rcases hok2 with ⟨h, _⟩ | ⟨_, h, _⟩ <;> simp only at h <;> omega
  clear hok1 hok2
  simp only at HTK HL1 HL2
  generalize tokT (bt s) s.size (befT (bt s) s.size) t p = TK at *
  have hx0 : TSt w ((w.alloc (.cells #[.string s, .slice A nA cA, .int .i64 (t : Nat)] 127)).alloc (.cells #[.int .u8 0, .int .i64 0, .int .i64 0] 43)) s (.slice A nA cA) t := by
    have b1 := heap_alloc_new w (.cells #[.string s, .slice A nA cA, .int .i64 (t : Nat)] 127)
    have s1 : (w.alloc (.cells #[.string s, .slice A nA cA, .int .i64 (t : Nat)] 127)).heap.size = w.heap.size + 1 := by simp
    have d1 : Below w.heap.size w (w.alloc (.cells #[.string s, .slice A nA cA, .int .i64 (t : Nat)] 127)) := (Below.refl _ _).alloc (Nat.le_refl _) _
    generalize w.alloc (.cells #[.string s, .slice A nA cA, .int .i64 (t : Nat)] 127) = w1 at *
    have b2 := heap_alloc_new w1 (.cells #[.int .u8 0, .int .i64 0, .int .i64 0] 43)
    have s2 : (w1.alloc (.cells #[.int .u8 0, .int .i64 0, .int .i64 0] 43)).heap.size = w1.heap.size + 1 := by simp
    have d2 : Below w1.heap.size w1 (w1.alloc (.cells #[.int .u8 0, .int .i64 0, .int .i64 0] 43)) := (Below.refl _ _).alloc (Nat.le_refl _) _
    generalize w1.alloc (.cells #[.int .u8 0, .int .i64 0, .int .i64 0] 43) = w2 at *
    rw [s1] at b2
    exact ⟨(d2.block _ (by omega)).trans b1, b2, d1.trans (d2.mono (by omega)), by omega⟩
  have HX := Lib.hid hx0
  have HAA := Lib.hid hA
  clear hx0 hA
  go_enter Try.func75, Try.ntmps75
  go_wp2_with fail
  generalize hW2 : (w.alloc (.cells #[.string s, .slice A nA cA, .int .i64 (t : Nat)] 127)).alloc (.cells #[.int .u8 0, .int .i64 0, .int .i64 0] 43) = w2 at *
  clear hW2
  refine (HL1.out _ (HAA.out.below (Nat.le_refl _) HX.out.2.2.1)).mono ?_
  rintro e w3 ⟨rfl, hb3⟩
  have hX3 := HX.out.later hb3
  have hb4 := heap_alloc_new w3 (.cells #[.int .u8 0, .int .i64 (l1 : Nat), .int .i64 (d1 : Nat)] 43)
  have hX4 := hX3.later ((Below.refl w3.heap.size w3).alloc (Nat.le_refl _) (.cells #[.int .u8 0, .int .i64 (l1 : Nat), .int .i64 (d1 : Nat)] 43))
  have HX4 := Lib.hid hX4
  have HB4 := Lib.hid hb4
  have HS4 : Hid ((w3.alloc (.cells #[.int .u8 0, .int .i64 (l1 : Nat), .int .i64 (d1 : Nat)] 43)).heap.size = w3.heap.size + 1) := by show _ = _; simp
  clear hb3 hX3 hb4 hX4
  go_wp2_with fail
  generalize w3.alloc (.cells #[.int .u8 0, .int .i64 (l1 : Nat), .int .i64 (d1 : Nat)] 43) = w4 at *
  have c0 := (cell_of_row _ _ 0 _ _ _ HX4.out.1).trans (show _ = some (Value.string s) from rfl)
  have c1 := (cell_of_row _ _ 1 _ _ _ HX4.out.1).trans (show _ = some (Value.slice A nA cA) from rfl)
  have c2 := (cell_of_row _ _ 2 _ _ _ HX4.out.1).trans (show _ = some (Value.int .i64 (t : Nat)) from rfl)
  have k1 := (cell_of_row _ _ 1 _ _ _ HB4.out).trans (show _ = some (Value.int .i64 (l1 : Nat)) from rfl)
  have hbt := bt_get s p hp
  have hbl := bt_lt s p
  have HBT := Lib.hid hbt
  by_cases h0 : l1 = 0
  · have HFIN := Lib.hid (HTK.out.trans (if_pos (.inl h0)))
    have hz : ((l1 : Int) == 0) = true := by rw [beq_iff_eq]; omega
    go_quiet (fail)
    have HX5 := Lib.hid (HX4.out.later (below_drewN (Below.refl _ _) nq))
    generalize w4.drewN nq = w5 at *
    have x0 := (cell_of_row _ _ 0 _ _ _ HX5.out.1).trans (show _ = some (Value.string s) from rfl)
    have r0 := (cell_of_row _ _ 0 _ _ _ HX5.out.2.1).trans (show _ = some (Value.int .u8 0) from rfl)
    have r1 := (cell_of_row _ _ 1 _ _ _ HX5.out.2.1).trans (show _ = some (Value.int .i64 0) from rfl)
    have r2 := (cell_of_row _ _ 2 _ _ _ HX5.out.2.1).trans (show _ = some (Value.int .i64 0) from rfl)
    have hfz := fun j => frozen_of_row _ _ j _ _ HX5.out.2.1
    go_wp2
    obtain ⟨_, m1, mb, _⟩ := HX5.out
    exact bodyPost_ret (results_cell_row rfl _ _ (w.heap.size + 1) 43 #[.int .u8 ((bt s p : Nat) : Int), .int .i64 0, .int .i64 0] (0, 0) _ rfl (three_set m1) Try.underlying43 rfl info_tokf) rfl ⟨by rw [HFIN.out]; rfl, ((mb.setCell (Nat.le_succ _) _).setCell (Nat.le_succ _) _).setCell (Nat.le_succ _) _⟩
  · have hz : ((l1 : Int) == 0) = false := by rw [beq_eq_false_iff_ne]; omega
    have HC2 := Lib.hid (HL2.out w4.drew (HAA.out.below (Nat.le_refl _) (HX4.out.2.2.1.drew)))
    obtain ⟨q1, e1, f1⟩ : ∃ q : Nat, ((p : Int) + 1) = (q : Int) ∧ q = p + 1 := ⟨p + 1, by omega, rfl⟩
    rw [← f1] at HC2
    clear f1
    have w1' : IntKind.i64.wrap (q1 : Int) = (q1 : Int) := by rw [IntKind.wrap_i64]; omega
    by_cases hlt : l1 < l2
    · have HFIN := Lib.hid (HTK.out.trans (if_pos (.inr hlt)))
      have g1 : decide ((l1 : Int) < (l2 : Int)) = true := decide_eq_true (by omega)
      have g2 : decide (l1 < l2) = true := decide_eq_true hlt
      go_region_law (first | (go_simp; go_at_call 97; go_must (refine (HC2.out).mono ?_; rintro e5 w5 ⟨rfl, hb5⟩; have HX5 := Lib.hid (HX4.out.later (w2 := w5) ⟨hb5.os, hb5.tape, hb5.output, hb5.size, hb5.block⟩); have HB5 := Lib.hid ((hb5.block w3.heap.size (by have := HS4.out; show w3.heap.size < w4.heap.size; omega)).trans HB4.out); have k5 : w5.cell? ⟨w3.heap.size, 1, none⟩ = some (.int .i64 (l1 : Nat)) := ((cell_of_row _ _ 1 _ _ _ HB5.out).trans rfl); have k50 : w5.cell? ⟨w3.heap.size, 0, none⟩ = some (.int .u8 0) := ((cell_of_row _ _ 0 _ _ _ HB5.out).trans rfl); have k52 : w5.cell? ⟨w3.heap.size, 2, none⟩ = some (.int .i64 (d1 : Nat)) := ((cell_of_row _ _ 2 _ _ _ HB5.out).trans rfl); have x0 : w5.cell? ⟨w.heap.size, 0, none⟩ = some (.string s) := ((cell_of_row _ _ 0 _ _ _ HX5.out.1).trans rfl); have r0 : w5.cell? ⟨w.heap.size + 1, 0, none⟩ = some (.int .u8 0) := ((cell_of_row _ _ 0 _ _ _ HX5.out.2.1).trans rfl); have r1 : w5.cell? ⟨w.heap.size + 1, 1, none⟩ = some (.int .i64 0) := ((cell_of_row _ _ 1 _ _ _ HX5.out.2.1).trans rfl); have r2 : w5.cell? ⟨w.heap.size + 1, 2, none⟩ = some (.int .i64 0) := ((cell_of_row _ _ 2 _ _ _ HX5.out.2.1).trans rfl); have hfz := fun j => frozen_of_row _ _ j _ _ HX5.out.2.1)))
      all_goals
        simp only [Act.put, List.setIfInBounds_toArray, List.getElem_toArray, List.getElem_cons_succ, List.getElem_cons_zero, List.set_cons_zero, List.set_cons_succ]
        go_wp2
        obtain ⟨_, m1, mb, _⟩ := HX5.out
        exact bodyPost_ret (results_cell_row rfl _ _ (w.heap.size + 1) 43 #[.int .u8 ((bt s p : Nat) : Int), .int .i64 0, .int .i64 0] (0, 0) _ rfl (three_set m1) Try.underlying43 rfl info_tokf) rfl ⟨by rw [HFIN.out]; rfl, ((mb.setCell (Nat.le_succ _) _).setCell (Nat.le_succ _) _).setCell (Nat.le_succ _) _⟩
    · have HFIN := Lib.hid (HTK.out.trans (if_neg (by omega)))
      have g1 : decide ((l1 : Int) < (l2 : Int)) = false := decide_eq_false (by omega)
      have g2 : decide (l1 < l2) = false := decide_eq_false hlt
      go_region_law (first | (go_simp; go_at_call 97; go_must (refine (HC2.out).mono ?_; rintro e5 w5 ⟨rfl, hb5⟩; have HX5 := Lib.hid (HX4.out.later (w2 := w5) ⟨hb5.os, hb5.tape, hb5.output, hb5.size, hb5.block⟩); have HB5 := Lib.hid ((hb5.block w3.heap.size (by have := HS4.out; show w3.heap.size < w4.heap.size; omega)).trans HB4.out); have k5 : w5.cell? ⟨w3.heap.size, 1, none⟩ = some (.int .i64 (l1 : Nat)) := ((cell_of_row _ _ 1 _ _ _ HB5.out).trans rfl); have k50 : w5.cell? ⟨w3.heap.size, 0, none⟩ = some (.int .u8 0) := ((cell_of_row _ _ 0 _ _ _ HB5.out).trans rfl); have k52 : w5.cell? ⟨w3.heap.size, 2, none⟩ = some (.int .i64 (d1 : Nat)) := ((cell_of_row _ _ 2 _ _ _ HB5.out).trans rfl); have x0 : w5.cell? ⟨w.heap.size, 0, none⟩ = some (.string s) := ((cell_of_row _ _ 0 _ _ _ HX5.out.1).trans rfl); have r0 : w5.cell? ⟨w.heap.size + 1, 0, none⟩ = some (.int .u8 0) := ((cell_of_row _ _ 0 _ _ _ HX5.out.2.1).trans rfl); have r1 : w5.cell? ⟨w.heap.size + 1, 1, none⟩ = some (.int .i64 0) := ((cell_of_row _ _ 1 _ _ _ HX5.out.2.1).trans rfl); have r2 : w5.cell? ⟨w.heap.size + 1, 2, none⟩ = some (.int .i64 0) := ((cell_of_row _ _ 2 _ _ _ HX5.out.2.1).trans rfl); have hfz := fun j => frozen_of_row _ _ j _ _ HX5.out.2.1)))
      all_goals
        simp only [Act.put, List.setIfInBounds_toArray, List.getElem_toArray, List.getElem_cons_succ, List.getElem_cons_zero, List.set_cons_zero, List.set_cons_succ]
        go_wp2
        obtain ⟨_, m1, mb, _⟩ := HX5.out
        exact bodyPost_ret (results_cell_row rfl _ _ (w.heap.size + 1) 43 #[.int .u8 0, .int .i64 (l1 : Nat), .int .i64 (d1 : Nat)] (0, 0) _ rfl (three_set m1) Try.underlying43 rfl info_tokf) rfl ⟨by rw [HFIN.out]; rfl, ((mb.setCell (Nat.le_succ _) _).setCell (Nat.le_succ _) _).setCell (Nat.le_succ _) _⟩
end Go.Proofs.Ytfhbkidceombbaa
