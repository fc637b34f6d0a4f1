/-
  Contracts: PrintStamp on both sides.
-/
import Derived.Test.YtmhalkkfpbkafaaDoorFlG
namespace Go.Proofs.YtmhalkkfpbkafaaDoor
set_option maxRecDepth 100000
open Go.RowKit Go.Joins

/-- A signed number's four bytes as a number. -/
def uN (v : Int) : Nat := (v % 4294967296).toNat
theorem uN_lt (v : Int) : uN v < 4294967296 := by unfold uN; omega
theorem uN_eq (v : Int) : ((uN v : Nat) : Int) = v % 4294967296 := by unfold uN; omega
/-- The bytes of a stamp, k times of it gone by. -/
def psT (F : Nat) (c : Bool) (V : Nat → Int) : Nat → ByteArray
  | 0 => text (le (F % 8) 1)
  | k + 1 => if tk F c k = true then psT F c V k ++ text (le (uN (V k)) 4) else psT F c V k
theorem psT_size (F : Nat) (c : Bool) (V : Nat → Int) (k : Nat) : (psT F c V k).size ≤ 1 + 4 * k := by
  induction k with
  | zero => unfold psT; rw [text_size, le_len]; omega
  | succ k ih =>
    rw [psT]
    split
    · rw [ByteArray.size_append, text_size, le_len]; omega
    · omega
theorem psT_yes {F : Nat} {c : Bool} {V : Nat → Int} {k : Nat} (h : tk F c k = true) : psT F c V (k + 1) = psT F c V k ++ text (le (uN (V k)) 4) := if_pos h
theorem psT_no {F : Nat} {c : Bool} {V : Nat → Int} {k : Nat} (h : tk F c k = false) : psT F c V (k + 1) = psT F c V k := if_neg (by rw [h]; decide)
theorem four_i (v : Int) (w : World) :
    Calls Tryd.prog 50 #[.int .u32 (v % 4294967296)] w fun e w' => e = .returned (.string (text (le (uN v) 4))) ∧ Below w.heap.size w w' := by
  rw [← uN_eq]
  exact four_any (uN v) (uN_lt v) w

theorem printStamp_any (F : Nat) (hF : F < 256) (c : Bool) (V : Nat → Int) (hV : ∀ k, -2147483648 ≤ V k ∧ V k ≤ 2147483647) (w : World) :
    Calls Tryd.prog 24 #[.agg #[.int .u8 F, .int .i32 (V 0), .int .i32 (V 1), .int .i32 (V 2)], .bool c] w fun e w' => e = .returned (.string (psT F c V 3)) ∧ Below w.heap.size w w' := by
  obtain ⟨t0, t1, t2⟩ := told_tk F c
  have hT8 := toldN_lt F c
  have hand : bits .and .u8 (F : Int) 7 = ((F % 8 : Nat) : Int) := by
    have h := u8_and_nat F 7 hF (by omega)
    rw [show F &&& 7 = F % 8 from Nat.and_two_pow_sub_one_eq_mod F 3] at h
    exact h
  have s0 := psT_size F c V 0
  have s1 := psT_size F c V 1
  have s2 := psT_size F c V 2
  have y0 : tk F c 0 = true → psT F c V 1 = psT F c V 0 ++ text (le (uN (V 0)) 4) := psT_yes
  have y1 : tk F c 1 = true → psT F c V 2 = psT F c V 1 ++ text (le (uN (V 1)) 4) := psT_yes
  have y2 : tk F c 2 = true → psT F c V 3 = psT F c V 2 ++ text (le (uN (V 2)) 4) := psT_yes
  have n0 : tk F c 0 = false → psT F c V 1 = psT F c V 0 := psT_no
  have n1 : tk F c 1 = false → psT F c V 2 = psT F c V 1 := psT_no
  have n2 : tk F c 2 = false → psT F c V 3 = psT F c V 2 := psT_no
  have b0 : (bits .and .u8 (toldN F c : Int) 1 != 0) = tk F c 0 := (bit_facts _ hT8).1.trans t0
  have b1 : (bits .and .u8 (toldN F c : Int) 2 != 0) = tk F c 1 := (bit_facts _ hT8).2.1.trans t1
  have b2 : (bits .and .u8 (toldN F c : Int) 4 != 0) = tk F c 2 := (bit_facts _ hT8).2.2.trans t2
  have Y0 := Lib.hid y0; have Y1 := Lib.hid y1; have Y2 := Lib.hid y2
  have N0 := Lib.hid n0; have N1 := Lib.hid n1; have N2 := Lib.hid n2
  have HT0 : Hid (text (le (F % 8) 1) = psT F c V 0) := rfl
  have HLD := Lib.hid (fun w => laid_any F hF c w)
  have HOF := Lib.hid (fun w => of_any (F % 8) (by omega) 1 w)
  have q0 := hV 0; have q1 := hV 1; have q2 := hV 2
  have hF8 : F % 8 < 256 := by omega
  clear t0 t1 t2 y0 y1 y2 n0 n1 n2 hV
  generalize hv0 : V 0 = v0 at *
  generalize hv1 : V 1 = v1 at *
  generalize hv2 : V 2 = v2 at *
  generalize psT F c V 0 = T0 at *
  generalize psT F c V 1 = T1 at *
  generalize psT F c V 2 = T2 at *
  generalize psT F c V 3 = T3 at *
  generalize tk F c 0 = t0 at *
  generalize tk F c 1 = t1 at *
  generalize tk F c 2 = t2 at *
  generalize toldN F c = T at *
  generalize F % 8 = G at *
  clear hv0 hv1 hv2
  have z0 : (text (le (uN v0) 4)).size ≤ 4 := by rw [text_size, le_len]; omega
  have z1 : (text (le (uN v1) 4)).size ≤ 4 := by rw [text_size, le_len]; omega
  have z2 : (text (le (uN v2) 4)).size ≤ 4 := by rw [text_size, le_len]; omega
  have HB0 := Lib.hid ((Below.refl w.heap.size w).alloc (Nat.le_refl _) (.cells #[.int .u8 F, .int .i32 v0, .int .i32 v1, .int .i32 v2] 53))
  have HR0 := Lib.hid (heap_alloc_new w (.cells #[.int .u8 F, .int .i32 v0, .int .i32 v1, .int .i32 v2] 53))
  go_enter Tryd.func24, Tryd.ntmps24
  go_wp2_with fail
  generalize w.alloc (.cells #[.int .u8 F, .int .i32 v0, .int .i32 v1, .int .i32 v2] 53) = wa at *
  refine (HOF.out _).mono ?_; rintro r x1 ⟨rfl, h1⟩
  rw [show (min (1 : Int) 64).toNat = 1 from rfl, HT0.out]
  have hb1 := below_then HB0.out h1
  have hr1 := (h1.block _ (lt_of_heap HR0.out)).trans HR0.out
  have HB := Lib.hid hb1
  have HR := Lib.hid hr1
  clear hb1 hr1 h1 HB0 HR0
  have c0 : x1.cell? ⟨w.heap.size, 0, none⟩ = some (.int .u8 F) := by rw [cell_of_row _ _ 0 _ _ _ HR.out]; rfl
  go_wp2_with fail
  refine (HLD.out _).mono ?_; rintro r xx ⟨rfl, rfl⟩
  clear c0
  generalize x1 = wr0 at *
  go_upto_if 18 with fail
  go_cut [5] from 7 (fun v wx => v = .string T1 ∧ wx.heap[w.heap.size]? = some (.cells #[.int .u8 F, .int .i32 v0, .int .i32 v1, .int .i32 v2] 53 (0, 0)) ∧ Below w.heap.size w wx)
  case first => as_aux_lemma =>
    have c1 : wr0.cell? ⟨w.heap.size, 1, none⟩ = some (.int .i32 v0) := by rw [cell_of_row _ _ 1 _ _ _ HR.out]; rfl
    cases t0 with
    | true =>
      go_wp2_with fail
      refine (four_i v0 _).mono ?_; rintro r y1 ⟨rfl, h1⟩
      have HH := Lib.hid h1
      clear h1
      go_wp2_with fail
      go_meet
      exact ⟨by rw [Y0.out (by trivial)], (HH.out.block _ (lt_of_heap HR.out)).trans HR.out, below_then HB.out HH.out⟩
    | false =>
      go_wp2_with fail
      go_meet
      exact ⟨by rw [N0.out (by trivial)], HR.out, HB.out⟩
  case rest =>
  obtain ⟨rfl, hr, hb⟩ := hcut
  clear HR HB
  have HR := Lib.hid hr
  have HB := Lib.hid hb
  clear hr hb
  generalize wc = wr1 at *
  go_upto_if 27 with fail
  go_cut [5] from 7 (fun v wx => v = .string T2 ∧ wx.heap[w.heap.size]? = some (.cells #[.int .u8 F, .int .i32 v0, .int .i32 v1, .int .i32 v2] 53 (0, 0)) ∧ Below w.heap.size w wx)
  case first => as_aux_lemma =>
    have c2 : wr1.cell? ⟨w.heap.size, 2, none⟩ = some (.int .i32 v1) := by rw [cell_of_row _ _ 2 _ _ _ HR.out]; rfl
    cases t1 with
    | true =>
      go_wp2_with fail
      refine (four_i v1 _).mono ?_; rintro r y1 ⟨rfl, h1⟩
      have HH := Lib.hid h1
      clear h1
      go_wp2_with fail
      go_meet
      exact ⟨by rw [Y1.out (by trivial)], (HH.out.block _ (lt_of_heap HR.out)).trans HR.out, below_then HB.out HH.out⟩
    | false =>
      go_wp2_with fail
      go_meet
      exact ⟨by rw [N1.out (by trivial)], HR.out, HB.out⟩
  case rest =>
  obtain ⟨rfl, hr, hb⟩ := hcut
  clear HR HB
  have HR := Lib.hid hr
  have HB := Lib.hid hb
  clear hr hb
  generalize wc = wr2 at *
  go_upto_if 36 with fail
  go_cut [5] from 7 (fun v wx => v = .string T3 ∧ wx.heap[w.heap.size]? = some (.cells #[.int .u8 F, .int .i32 v0, .int .i32 v1, .int .i32 v2] 53 (0, 0)) ∧ Below w.heap.size w wx)
  case first => as_aux_lemma =>
    have c3 : wr2.cell? ⟨w.heap.size, 3, none⟩ = some (.int .i32 v2) := by rw [cell_of_row _ _ 3 _ _ _ HR.out]; rfl
    cases t2 with
    | true =>
      go_wp2_with fail
      refine (four_i v2 _).mono ?_; rintro r y1 ⟨rfl, h1⟩
      have HH := Lib.hid h1
      clear h1
      go_wp2_with fail
      go_meet
      exact ⟨by rw [Y2.out (by trivial)], (HH.out.block _ (lt_of_heap HR.out)).trans HR.out, below_then HB.out HH.out⟩
    | false =>
      go_wp2_with fail
      go_meet
      exact ⟨by rw [N2.out (by trivial)], HR.out, HB.out⟩
  case rest =>
  obtain ⟨rfl, hr, hb⟩ := hcut
  clear HR HB
  have HR := Lib.hid hr
  have HB := Lib.hid hb
  clear hr hb
  generalize wc = wr3 at *
  go_wp2_with fail
  go_ret
  exact ⟨rfl, HB.out⟩

theorem one_text (W : World) (y : Nat) (hy : y < 256) : (convert 24 9 (.slice (some ⟨W.heap.size, 0, none⟩) 1 1)).run Tryd.prog (W.alloc (.cells #[.int .u8 (y : Nat)] 5)) = .ok (.string (text [y])) (W.alloc (.cells #[.int .u8 (y : Nat)] 5)) :=
  run_convert_bytes_back (P := Tryd.prog) _ 24 9 5 ⟨W.heap.size, 0, none⟩ 1 [UInt8.ofNat y] Tryd.underlying24 Tryd.underlying5 Tryd.underlying9 (fun j hj => by
    obtain rfl : j = 0 := by simpa using hj
    rw [Addr.add_lit, cell_of_row _ _ _ _ _ _ (heap_alloc_new W _)]
    have : (UInt8.ofNat y).toNat = y := Nat.mod_eq_of_lt hy
    simp [this])
theorem tk_mod (F : Nat) (c : Bool) (k : Nat) (hk : k < 3) : (decide (F % 8 / 2 ^ k % 2 = 1) && (decide (k = 0) || !c)) = tk F c k := by
  unfold tk
  have : F % 8 / 2 ^ k % 2 = F / 2 ^ k % 2 := by
    have : k = 0 ∨ k = 1 ∨ k = 2 := by omega
    rcases this with rfl | rfl | rfl <;> omega
  rw [this]
end Go.Proofs.YtmhalkkfpbkafaaDoor
