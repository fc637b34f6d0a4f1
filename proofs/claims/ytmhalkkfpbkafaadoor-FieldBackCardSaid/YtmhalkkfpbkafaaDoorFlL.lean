/-
  ParseWide: the program's answer is the document's. Contracts: PrintWide on both sides.
-/
import Derived.Test.YtmhalkkfpbkafaaDoorFlK
namespace Go.Proofs.YtmhalkkfpbkafaaDoor
set_option maxRecDepth 100000
open Go.RowKit Go.Joins

theorem u_yes {s : ByteArray} {t : Bool} {n a : Nat} (h : a + (if t = true then n else 0) ≤ s.size) : uA s t n a 0 = a + (if t = true then n else 0) ∧ uE s t n a 0 = 0 ∧ uV s t n a 0 = if t = true then numL (((nums s).drop a).take n) else 0 := by
  cases t with
  | true =>
    rw [if_pos rfl] at h ⊢
    have e1 : uA s true n a 0 = atB s a 0 (n : Nat) := if_pos rfl
    have e2 : uE s true n a 0 = errB s a 0 (n : Nat) := if_pos rfl
    have e3 : uV s true n a 0 = numB s a 0 n := if_pos rfl
    have e4 : numB s a 0 n = numL (((nums s).drop a).take n) := by unfold numB; rw [nums_piece s a n h]
    rw [e1, e2, e3, e4, atB_yes s a n h, errB_yes s a n h, if_pos rfl]
    exact ⟨rfl, rfl, rfl⟩
  | false => exact ⟨if_neg (by decide), if_neg (by decide), (if_neg (by decide)).trans (if_neg (by decide)).symm⟩
theorem uE_zero {s : ByteArray} {t : Bool} {n a e : Nat} (ha : a ≤ s.size) (h : uE s t n a e = 0) : e = 0 ∧ a + (if t = true then n else 0) ≤ s.size := by
  cases t with
  | true =>
    obtain ⟨h1, _, h3, _⟩ := errB_zero (show errB s a e (n : Nat) = 0 from h)
    exact ⟨h1, h3⟩
  | false => exact ⟨h, ha⟩
theorem uA_le {s : ByteArray} {t : Bool} {n a e : Nat} (ha : a ≤ s.size) : uA s t n a e ≤ s.size := by
  cases t with
  | true => exact atB_le s a e _ ha
  | false => exact ha
theorem wide_same (s : ByteArray) (q0 q1 q2 q3 : Bool) {a1 e1 v0 a2 e2 v1 a3 e3 v2 a4 e4 v3 : Nat}
    (hA0 : uA s q0 8 0 0 = a1) (hE0 : uE s q0 8 0 0 = e1) (hV0 : uV s q0 8 0 0 = v0)
    (hA1 : uA s q1 8 a1 e1 = a2) (hE1 : uE s q1 8 a1 e1 = e2) (hV1 : uV s q1 8 a1 e1 = v1)
    (hA2 : uA s q2 8 a2 e2 = a3) (hE2 : uE s q2 8 a2 e2 = e3) (hV2 : uV s q2 8 a2 e2 = v2)
    (hA3 : uA s q3 4 a3 e3 = a4) (hE3 : uE s q3 4 a3 e3 = e4) (hV3 : uV s q3 4 a3 e3 = v3) :
    wOut (thrB s a4 e4) v0 v1 v2 v3 = wRes s (qk q0 q1 q2 q3) .u32 := by
  have z0 : qk q0 q1 q2 q3 0 = q0 := rfl
  have z1 : qk q0 q1 q2 q3 1 = q1 := rfl
  have z2 : qk q0 q1 q2 q3 2 = q2 := rfl
  have z3 : qk q0 q1 q2 q3 3 = q3 := rfl
  generalize qk q0 q1 q2 q3 = q at *
  subst z0 z1 z2 z3
  have p0 : wk q 0 = 0 := rfl
  have p1 : wk q 1 = wk q 0 + if q 0 = true then 8 else 0 := rfl
  have p2 : wk q 2 = wk q 1 + if q 1 = true then 8 else 0 := rfl
  have p3 : wk q 3 = wk q 2 + if q 2 = true then 8 else 0 := rfl
  have p4 : wk q 4 = wk q 3 + if q 3 = true then 4 else 0 := rfl
  have m1 := wk_mono q 1 2 (by omega)
  have m2 := wk_mono q 2 3 (by omega)
  have m3 := wk_mono q 3 4 (by omega)
  rw [p0] at p1
  by_cases hp : wk q 4 ≤ s.size
  · obtain ⟨x1, x2, x3⟩ := u_yes (s := s) (t := q 0) (n := 8) (a := 0) (by omega)
    have a1' : a1 = wk q 1 := by rw [← hA0, x1, p1]
    have e1' : e1 = 0 := by rw [← hE0, x2]
    have v0' : v0 = xk s q 0 := by rw [← hV0, x3]; rfl
    subst a1' e1'
    obtain ⟨y1, y2, y3⟩ := u_yes (s := s) (t := q 1) (n := 8) (a := wk q 1) (by omega)
    have a2' : a2 = wk q 2 := by rw [← hA1, y1, p2]
    have e2' : e2 = 0 := by rw [← hE1, y2]
    have v1' : v1 = xk s q 1 := by rw [← hV1, y3]; rfl
    subst a2' e2'
    obtain ⟨z1, z2, z3⟩ := u_yes (s := s) (t := q 2) (n := 8) (a := wk q 2) (by omega)
    have a3' : a3 = wk q 3 := by rw [← hA2, z1, p3]
    have e3' : e3 = 0 := by rw [← hE2, z2]
    have v2' : v2 = xk s q 2 := by rw [← hV2, z3]; rfl
    subst a3' e3'
    obtain ⟨t1, t2, t3⟩ := u_yes (s := s) (t := q 3) (n := 4) (a := wk q 3) (by omega)
    have a4' : a4 = wk q 4 := by rw [← hA3, t1, p4]
    have e4' : e4 = 0 := by rw [← hE3, t2]
    have v3' : v3 = xk s q 3 := by rw [← hV3, t3]; rfl
    subst a4' e4' v0' v1' v2' v3'
    by_cases hok : wk q 4 = s.size
    · rw [wRes_yes hok, show thrB s (wk q 4) 0 = true from decide_eq_true ⟨rfl, hok⟩]
      rfl
    · rw [wRes_no hok, show thrB s (wk q 4) 0 = false from decide_eq_false fun h => hok h.2]
      rfl
  · rw [wRes_no (fun h => hp (by omega))]
    have hf : thrB s a4 e4 = false := decide_eq_false fun h => hp (by
      have b1 : a1 ≤ s.size := by rw [← hA0]; exact uA_le (Nat.zero_le _)
      have b2 : a2 ≤ s.size := by rw [← hA1]; exact uA_le b1
      have b3 : a3 ≤ s.size := by rw [← hA2]; exact uA_le b2
      have he4 : e4 = 0 := h.1
      rw [he4] at hE3
      obtain ⟨q3, w3⟩ := uE_zero b3 hE3
      rw [q3] at hE2
      obtain ⟨q2, w2⟩ := uE_zero b2 hE2
      rw [q2] at hE1
      obtain ⟨q1, w1⟩ := uE_zero b1 hE1
      rw [q1] at hE0
      obtain ⟨_, w0⟩ := uE_zero (Nat.zero_le _) hE0
      obtain ⟨x1, _, _⟩ := u_yes (s := s) (t := q 0) (n := 8) (a := 0) w0
      have a1' : a1 = wk q 1 := by rw [← hA0, x1, p1]
      rw [a1'] at w1
      obtain ⟨y1, _, _⟩ := u_yes (s := s) (t := q 1) (n := 8) (a := wk q 1) w1
      have a2' : a2 = wk q 2 := by rw [← hA1, a1', q1, y1, p2]
      rw [a2'] at w2
      obtain ⟨y2, _, _⟩ := u_yes (s := s) (t := q 2) (n := 8) (a := wk q 2) w2
      have a3' : a3 = wk q 3 := by rw [← hA2, a2', q2, y2, p3]
      rw [a3'] at w3
      omega)
    rw [hf]
    rfl
theorem parseWide_w (s : ByteArray) (q0 q1 q2 q3 : Bool) (hs : s.size ≤ maxLen) (w : World) :
    Calls Tryd.prog 21 #[.string s, .agg #[.bool q0, .bool q1, .bool q2, .bool q3]] w fun e w' => e = .returned (wRes s (qk q0 q1 q2 q3) .u32) ∧ Below w.heap.size w w' := by
  have h := parseWide_any s q0 q1 q2 q3 hs rfl rfl rfl rfl rfl rfl rfl rfl rfl rfl rfl rfl w
  rw [wide_same s q0 q1 q2 q3 rfl rfl rfl rfl rfl rfl rfl rfl rfl rfl rfl rfl] at h
  exact h

/-! ### PrintWide -/
/-- The bytes of the first k. -/
def pwT (q : Nat → Bool) (V : Nat → Nat) : Nat → ByteArray
  | 0 => ⟨#[]⟩
  | k + 1 => if q k = true then pwT q V k ++ text (le (V k) (nk k)) else pwT q V k
theorem pwT_size (q : Nat → Bool) (V : Nat → Nat) (k : Nat) : (pwT q V k).size ≤ 8 * k := by
  induction k with
  | zero => exact Nat.le_refl _
  | succ k ih =>
    rw [pwT]
    split
    · rw [ByteArray.size_append, text_size, le_len]
      have : nk k ≤ 8 := by unfold nk; split <;> omega
      omega
    · omega
theorem pwT_yes {q : Nat → Bool} {V : Nat → Nat} {k : Nat} (h : q k = true) : pwT q V (k + 1) = pwT q V k ++ text (le (V k) (nk k)) := if_pos h
theorem pwT_no {q : Nat → Bool} {V : Nat → Nat} {k : Nat} (h : q k = false) : pwT q V (k + 1) = pwT q V k := if_neg (by rw [h]; decide)

theorem printWide_any (q0 q1 q2 q3 : Bool) (V : Nat → Nat) (h0 : V 0 < 18446744073709551616) (h1 : V 1 < 18446744073709551616) (h2 : V 2 < 18446744073709551616) (h3 : V 3 < 4294967296) (w : World) :
    Calls Tryd.prog 22 #[.agg #[.int .u64 (V 0 : Nat), .int .u64 (V 1 : Nat), .int .u64 (V 2 : Nat), .int .u32 (V 3 : Nat)], .agg #[.bool q0, .bool q1, .bool q2, .bool q3]] w fun e w' => e = .returned (.string (pwT (qk q0 q1 q2 q3) V 4)) ∧ Below w.heap.size w w' := by
  have s0 := pwT_size (qk q0 q1 q2 q3) V 0
  have s1 := pwT_size (qk q0 q1 q2 q3) V 1
  have s2 := pwT_size (qk q0 q1 q2 q3) V 2
  have s3 := pwT_size (qk q0 q1 q2 q3) V 3
  have Y0 : Hid (q0 = true → pwT (qk q0 q1 q2 q3) V 1 = pwT (qk q0 q1 q2 q3) V 0 ++ text (le (V 0) 8)) := fun h => pwT_yes h
  have Y1 : Hid (q1 = true → pwT (qk q0 q1 q2 q3) V 2 = pwT (qk q0 q1 q2 q3) V 1 ++ text (le (V 1) 8)) := fun h => pwT_yes h
  have Y2 : Hid (q2 = true → pwT (qk q0 q1 q2 q3) V 3 = pwT (qk q0 q1 q2 q3) V 2 ++ text (le (V 2) 8)) := fun h => pwT_yes h
  have Y3 : Hid (q3 = true → pwT (qk q0 q1 q2 q3) V 4 = pwT (qk q0 q1 q2 q3) V 3 ++ text (le (V 3) 4)) := fun h => pwT_yes h
  have N0 : Hid (q0 = false → pwT (qk q0 q1 q2 q3) V 1 = pwT (qk q0 q1 q2 q3) V 0) := fun h => pwT_no h
  have N1 : Hid (q1 = false → pwT (qk q0 q1 q2 q3) V 2 = pwT (qk q0 q1 q2 q3) V 1) := fun h => pwT_no h
  have N2 : Hid (q2 = false → pwT (qk q0 q1 q2 q3) V 3 = pwT (qk q0 q1 q2 q3) V 2) := fun h => pwT_no h
  have N3 : Hid (q3 = false → pwT (qk q0 q1 q2 q3) V 4 = pwT (qk q0 q1 q2 q3) V 3) := fun h => pwT_no h
  have HT0 : Hid ((⟨#[]⟩ : ByteArray) = pwT (qk q0 q1 q2 q3) V 0) := rfl
  generalize pwT (qk q0 q1 q2 q3) V 0 = T0 at *
  generalize pwT (qk q0 q1 q2 q3) V 1 = T1 at *
  generalize pwT (qk q0 q1 q2 q3) V 2 = T2 at *
  generalize pwT (qk q0 q1 q2 q3) V 3 = T3 at *
  generalize pwT (qk q0 q1 q2 q3) V 4 = T4 at *
  generalize V 0 = v0 at *
  generalize V 1 = v1 at *
  generalize V 2 = v2 at *
  generalize V 3 = v3 at *
  have M0 := Lib.hid (fun w => eight_any v0 h0 w)
  have M1 := Lib.hid (fun w => eight_any v1 h1 w)
  have M2 := Lib.hid (fun w => eight_any v2 h2 w)
  have M3 := Lib.hid (fun w => four_any v3 h3 w)
  clear h0 h1 h2
  have z0 : (text (le v0 8)).size ≤ 8 := by rw [text_size, le_len]; omega
  have z1 : (text (le v1 8)).size ≤ 8 := by rw [text_size, le_len]; omega
  have z2 : (text (le v2 8)).size ≤ 8 := by rw [text_size, le_len]; omega
  have z3 : (text (le v3 4)).size ≤ 4 := by rw [text_size, le_len]; omega
  have HB0 := Lib.hid (((Below.refl w.heap.size w).alloc (Nat.le_refl _) (.cells #[.int .u64 (v0 : Nat), .int .u64 (v1 : Nat), .int .u64 (v2 : Nat), .int .u32 (v3 : Nat)] 51)).alloc (by simp) (.cells #[.bool q0, .bool q1, .bool q2, .bool q3] 55))
  have HX0 := Lib.hid ((Below.heap_alloc (w.alloc (.cells #[.int .u64 (v0 : Nat), .int .u64 (v1 : Nat), .int .u64 (v2 : Nat), .int .u32 (v3 : Nat)] 51)) (.cells #[.bool q0, .bool q1, .bool q2, .bool q3] 55) w.heap.size (by simp)).trans (heap_alloc_new w _))
  have HY0 := Lib.hid (heap_alloc2_new w (.cells #[.int .u64 (v0 : Nat), .int .u64 (v1 : Nat), .int .u64 (v2 : Nat), .int .u32 (v3 : Nat)] 51) (.cells #[.bool q0, .bool q1, .bool q2, .bool q3] 55))
  go_enter Tryd.func22, Tryd.ntmps22
  go_upto_region 2 with fail
  generalize (w.alloc (.cells #[.int .u64 (v0 : Nat), .int .u64 (v1 : Nat), .int .u64 (v2 : Nat), .int .u32 (v3 : Nat)] 51)).alloc (.cells #[.bool q0, .bool q1, .bool q2, .bool q3] 55) = wr at *
  have HB := Lib.hid HB0.out
  have HX := Lib.hid HX0.out
  have HY := Lib.hid HY0.out
  clear HB0 HX0 HY0
  rw [HT0.out]
  have hq : wr.cell? ⟨w.heap.size + 1, 0, none⟩ = some (.bool q0) := by rw [cell_of_row _ _ 0 _ _ _ HY.out]; rfl
  have hv : wr.cell? ⟨w.heap.size, 0, none⟩ = some (.int .u64 (v0 : Nat)) := by rw [cell_of_row _ _ 0 _ _ _ HX.out]; rfl
  go_upto_if 7 with fail
  clear hq
  go_cut [5] from 6 (fun v wx => v = .string T1 ∧ wx.heap[w.heap.size]? = some (.cells #[.int .u64 (v0 : Nat), .int .u64 (v1 : Nat), .int .u64 (v2 : Nat), .int .u32 (v3 : Nat)] 51 (0, 0)) ∧ wx.heap[w.heap.size + 1]? = some (.cells #[.bool q0, .bool q1, .bool q2, .bool q3] 55 (0, 0)) ∧ Below w.heap.size w wx)
  case first => as_aux_lemma =>
    cases q0 with
    | true =>
      go_wp2_with fail
      refine (M0.out _).mono ?_; rintro r y1 ⟨rfl, h1⟩
      have HH := Lib.hid h1
      clear h1
      go_wp2_with fail
      go_meet
      exact ⟨by rw [Y0.out (by trivial)], (HH.out.block _ (lt_of_heap HX.out)).trans HX.out, (HH.out.block _ (lt_of_heap HY.out)).trans HY.out, below_then HB.out HH.out⟩
    | false =>
      go_wp2_with fail
      go_meet
      exact ⟨by rw [N0.out (by trivial)], HX.out, HY.out, HB.out⟩
  case rest =>
  clear hv
  obtain ⟨rfl, hx, hy, hb⟩ := hcut
  clear HX HY HB
  have HX := Lib.hid hx
  have HY := Lib.hid hy
  have HB := Lib.hid hb
  clear hx hy hb
  generalize wc = wr0 at *
  have hq : wr0.cell? ⟨w.heap.size + 1, 1, none⟩ = some (.bool q1) := by rw [cell_of_row _ _ 1 _ _ _ HY.out]; rfl
  have hv : wr0.cell? ⟨w.heap.size, 1, none⟩ = some (.int .u64 (v1 : Nat)) := by rw [cell_of_row _ _ 1 _ _ _ HX.out]; rfl
  go_upto_if 14 with fail
  clear hq
  go_cut [5] from 6 (fun v wx => v = .string T2 ∧ wx.heap[w.heap.size]? = some (.cells #[.int .u64 (v0 : Nat), .int .u64 (v1 : Nat), .int .u64 (v2 : Nat), .int .u32 (v3 : Nat)] 51 (0, 0)) ∧ wx.heap[w.heap.size + 1]? = some (.cells #[.bool q0, .bool q1, .bool q2, .bool q3] 55 (0, 0)) ∧ Below w.heap.size w wx)
  case first => as_aux_lemma =>
    cases q1 with
    | true =>
      go_wp2_with fail
      refine (M1.out _).mono ?_; rintro r y1 ⟨rfl, h1⟩
      have HH := Lib.hid h1
      clear h1
      go_wp2_with fail
      go_meet
      exact ⟨by rw [Y1.out (by trivial)], (HH.out.block _ (lt_of_heap HX.out)).trans HX.out, (HH.out.block _ (lt_of_heap HY.out)).trans HY.out, below_then HB.out HH.out⟩
    | false =>
      go_wp2_with fail
      go_meet
      exact ⟨by rw [N1.out (by trivial)], HX.out, HY.out, HB.out⟩
  case rest =>
  clear hv
  obtain ⟨rfl, hx, hy, hb⟩ := hcut
  clear HX HY HB
  have HX := Lib.hid hx
  have HY := Lib.hid hy
  have HB := Lib.hid hb
  clear hx hy hb
  generalize wc = wr1 at *
  have hq : wr1.cell? ⟨w.heap.size + 1, 2, none⟩ = some (.bool q2) := by rw [cell_of_row _ _ 2 _ _ _ HY.out]; rfl
  have hv : wr1.cell? ⟨w.heap.size, 2, none⟩ = some (.int .u64 (v2 : Nat)) := by rw [cell_of_row _ _ 2 _ _ _ HX.out]; rfl
  go_upto_if 21 with fail
  clear hq
  go_cut [5] from 6 (fun v wx => v = .string T3 ∧ wx.heap[w.heap.size]? = some (.cells #[.int .u64 (v0 : Nat), .int .u64 (v1 : Nat), .int .u64 (v2 : Nat), .int .u32 (v3 : Nat)] 51 (0, 0)) ∧ wx.heap[w.heap.size + 1]? = some (.cells #[.bool q0, .bool q1, .bool q2, .bool q3] 55 (0, 0)) ∧ Below w.heap.size w wx)
  case first => as_aux_lemma =>
    cases q2 with
    | true =>
      go_wp2_with fail
      refine (M2.out _).mono ?_; rintro r y1 ⟨rfl, h1⟩
      have HH := Lib.hid h1
      clear h1
      go_wp2_with fail
      go_meet
      exact ⟨by rw [Y2.out (by trivial)], (HH.out.block _ (lt_of_heap HX.out)).trans HX.out, (HH.out.block _ (lt_of_heap HY.out)).trans HY.out, below_then HB.out HH.out⟩
    | false =>
      go_wp2_with fail
      go_meet
      exact ⟨by rw [N2.out (by trivial)], HX.out, HY.out, HB.out⟩
  case rest =>
  clear hv
  obtain ⟨rfl, hx, hy, hb⟩ := hcut
  clear HX HY HB
  have HX := Lib.hid hx
  have HY := Lib.hid hy
  have HB := Lib.hid hb
  clear hx hy hb
  generalize wc = wr2 at *
  have hq : wr2.cell? ⟨w.heap.size + 1, 3, none⟩ = some (.bool q3) := by rw [cell_of_row _ _ 3 _ _ _ HY.out]; rfl
  have hv : wr2.cell? ⟨w.heap.size, 3, none⟩ = some (.int .u32 (v3 : Nat)) := by rw [cell_of_row _ _ 3 _ _ _ HX.out]; rfl
  go_upto_if 28 with fail
  clear hq
  go_cut [5] from 6 (fun v wx => v = .string T4 ∧ wx.heap[w.heap.size]? = some (.cells #[.int .u64 (v0 : Nat), .int .u64 (v1 : Nat), .int .u64 (v2 : Nat), .int .u32 (v3 : Nat)] 51 (0, 0)) ∧ wx.heap[w.heap.size + 1]? = some (.cells #[.bool q0, .bool q1, .bool q2, .bool q3] 55 (0, 0)) ∧ Below w.heap.size w wx)
  case first => as_aux_lemma =>
    cases q3 with
    | true =>
      go_wp2_with fail
      refine (M3.out _).mono ?_; rintro r y1 ⟨rfl, h1⟩
      have HH := Lib.hid h1
      clear h1
      go_wp2_with fail
      go_meet
      exact ⟨by rw [Y3.out (by trivial)], (HH.out.block _ (lt_of_heap HX.out)).trans HX.out, (HH.out.block _ (lt_of_heap HY.out)).trans HY.out, below_then HB.out HH.out⟩
    | false =>
      go_wp2_with fail
      go_meet
      exact ⟨by rw [N3.out (by trivial)], HX.out, HY.out, HB.out⟩
  case rest =>
  clear hv
  obtain ⟨rfl, hx, hy, hb⟩ := hcut
  clear HX HY HB
  have HX := Lib.hid hx
  have HY := Lib.hid hy
  have HB := Lib.hid hb
  clear hx hy hb
  generalize wc = wr3 at *
  go_wp2_with fail
  go_ret
  exact ⟨rfl, HB.out⟩

end Go.Proofs.YtmhalkkfpbkafaaDoor
