/-
  The walks of StampDates and StampDOS: they return true.
-/
import Derived.Test.YtmbifoockenniaaDoorStN
namespace Go.Proofs.YtmbifoockenniaaDoor
set_option maxRecDepth 100000
open Go.RowKit Go.Joins Go.Deep

theorem cells6 {w : World} {b : Nat} {t : TypeId} {v0 v1 v2 v3 v4 v5 : Value} (h : w.heap[b]? = some (.cells #[v0, v1, v2, v3, v4, v5] t (0, 0))) :
    w.cell? ⟨b, 0, none⟩ = some v0 ∧ w.cell? ⟨b, 1, none⟩ = some v1 ∧ w.cell? ⟨b, 2, none⟩ = some v2 ∧ w.cell? ⟨b, 3, none⟩ = some v3 ∧ w.cell? ⟨b, 4, none⟩ = some v4 ∧ w.cell? ⟨b, 5, none⟩ = some v5 := by
  refine ⟨?_, ?_, ?_, ?_, ?_, ?_⟩
  · rw [cell_of_row _ _ 0 _ _ _ h]; rfl
  · rw [cell_of_row _ _ 1 _ _ _ h]; rfl
  · rw [cell_of_row _ _ 2 _ _ _ h]; rfl
  · rw [cell_of_row _ _ 3 _ _ _ h]; rfl
  · rw [cell_of_row _ _ 4 _ _ _ h]; rfl
  · rw [cell_of_row _ _ 5 _ _ _ h]; rfl

set_option maxHeartbeats 2000000 in
theorem stampDates_walk (a0 b0 b1 b2 b3 b4 b5 : Int) (wa0 : (Lit.int .i64 a0).wf = true) (_ : (Lit.int .i64 b0).wf = true) (_ : (Lit.int .i64 b1).wf = true) (_ : (Lit.int .i64 b2).wf = true) (_ : (Lit.int .i64 b3).wf = true) (_ : (Lit.int .i64 b4).wf = true) (_ : (Lit.int .i64 b5).wf = true) (w : World) (hp : Pow w) :
    Calls Tryd.prog 3 #[.int .i64 a0, .agg #[.int .i64 b0, .int .i64 b1, .int .i64 b2, .int .i64 b3, .int .i64 b4, .int .i64 b5]] w fun e w' => e = .returned (.bool true) ∧ Below w.heap.size w w' := by
  obtain ⟨y, m, d, h, mi, s, z, HOF⟩ := of_ex a0
  obtain ⟨x, zs, HSC⟩ := sec_ex b0 b1 b2 b3 b4 b5
  have H1 := Lib.hid (fun w => of_any HOF w)
  have H2 := Lib.hid (fun w => rof_any HOF wa0 w)
  have H3 := Lib.hid (fun w => sec_any HSC w)
  have H4 := Lib.hid (fun w => rsec_any HSC w)
  clear HOF HSC wa0
  have hb := (Below.refl w.heap.size w).alloc (Nat.le_refl _) (.cells #[.int .i64 b0, .int .i64 b1, .int .i64 b2, .int .i64 b3, .int .i64 b4, .int .i64 b5] 23)
  have hx := heap_alloc_new w (.cells #[.int .i64 b0, .int .i64 b1, .int .i64 b2, .int .i64 b3, .int .i64 b4, .int .i64 b5] 23)
  have HP := Lib.hid (hp.below hb)
  clear hp
  go_enter Tryd.func3, Tryd.ntmps3
  go_wp2_with fail
  generalize w.alloc (.cells #[.int .i64 b0, .int .i64 b1, .int .i64 b2, .int .i64 b3, .int .i64 b4, .int .i64 b5] 23) = wa at *
  refine (awake12_any _ HP.out).mono ?_; rintro e w0 ⟨rfl, hk⟩
  have HB0 := Lib.hid (below_then hb hk)
  have X0 := Lib.hid ((hk.block _ (lt_of_heap hx)).trans hx)
  clear hb hx hk HP
  go_wp2_with fail
  refine (H1.out _).mono ?_; rintro e w1 ⟨rfl, hk⟩
  have hb1 := below_then HB0.out hk
  have hb2 := hb1.alloc hb1.size (.cells #[.int .i64 (y : Nat), .int .i64 (m : Nat), .int .i64 (d : Nat), .int .i64 (h : Nat), .int .i64 (mi : Nat), .int .i64 (s : Nat)] 23)
  have hy := heap_alloc_new w1 (.cells #[.int .i64 (y : Nat), .int .i64 (m : Nat), .int .i64 (d : Nat), .int .i64 (h : Nat), .int .i64 (mi : Nat), .int .i64 (s : Nat)] 23)
  have hx0 := (hk.block _ (lt_of_heap X0.out)).trans X0.out
  have hx1 := (Below.heap_alloc w1 (.cells #[.int .i64 (y : Nat), .int .i64 (m : Nat), .int .i64 (d : Nat), .int .i64 (h : Nat), .int .i64 (mi : Nat), .int .i64 (s : Nat)] 23) _ (lt_of_heap hx0)).trans hx0
  go_wp2_with fail
  generalize w1.alloc (.cells #[.int .i64 (y : Nat), .int .i64 (m : Nat), .int .i64 (d : Nat), .int .i64 (h : Nat), .int .i64 (mi : Nat), .int .i64 (s : Nat)] 23) = wb at *
  generalize w1.heap.size = gy at *
  clear hk hb1 hx0 HB0 X0 H1
  refine (H2.out _).mono ?_; rintro e w2 ⟨rfl, hk⟩
  have hb3 := below_then hb2 hk
  have hb4 := hb3.alloc hb3.size (.cells #[.int .i64 (y : Nat), .int .i64 (m : Nat), .int .i64 (d : Nat), .int .i64 (h : Nat), .int .i64 (mi : Nat), .int .i64 (s : Nat)] 28)
  have hz := heap_alloc_new w2 (.cells #[.int .i64 (y : Nat), .int .i64 (m : Nat), .int .i64 (d : Nat), .int .i64 (h : Nat), .int .i64 (mi : Nat), .int .i64 (s : Nat)] 28)
  have hx2 := (hk.block _ (lt_of_heap hx1)).trans hx1
  have hy2 := (hk.block _ (lt_of_heap hy)).trans hy
  have hx3 := (Below.heap_alloc w2 (.cells #[.int .i64 (y : Nat), .int .i64 (m : Nat), .int .i64 (d : Nat), .int .i64 (h : Nat), .int .i64 (mi : Nat), .int .i64 (s : Nat)] 28) _ (lt_of_heap hx2)).trans hx2
  have hy3 := (Below.heap_alloc w2 (.cells #[.int .i64 (y : Nat), .int .i64 (m : Nat), .int .i64 (d : Nat), .int .i64 (h : Nat), .int .i64 (mi : Nat), .int .i64 (s : Nat)] 28) _ (lt_of_heap hy2)).trans hy2
  clear hx1 hy hx2 hy2 hb2 hb3 hk H2
  obtain ⟨x0, x1, x2, x3, x4, x5⟩ := cells6 hx3
  go_wp2_with fail
  generalize w2.alloc (.cells #[.int .i64 (y : Nat), .int .i64 (m : Nat), .int .i64 (d : Nat), .int .i64 (h : Nat), .int .i64 (mi : Nat), .int .i64 (s : Nat)] 28) = wc at *
  generalize w2.heap.size = gz at *
  refine (H3.out _).mono ?_; rintro e w3 ⟨rfl, hk⟩
  have hb5 := below_then hb4 hk
  have hx4 := (hk.block _ (lt_of_heap hx3)).trans hx3
  have hy4 := (hk.block _ (lt_of_heap hy3)).trans hy3
  have hz4 := (hk.block _ (lt_of_heap hz)).trans hz
  clear hb4 hx3 hy3 hz hk H3 x0 x1 x2 x3 x4 x5
  obtain ⟨x0, x1, x2, x3, x4, x5⟩ := cells6 hx4
  go_wp2_with fail
  refine (H4.out _).mono ?_; rintro e w4 ⟨rfl, hk⟩
  have HB6 := Lib.hid (below_then hb5 hk)
  have hy5 := (hk.block _ (lt_of_heap hy4)).trans hy4
  have hz5 := (hk.block _ (lt_of_heap hz4)).trans hz4
  clear hb5 hx4 hy4 hz4 hk H4 x0 x1 x2 x3 x4 x5
  obtain ⟨x0, x1, x2, x3, x4, x5⟩ := cells6 hy5
  obtain ⟨z0, z1, z2, z3, z4, z5⟩ := cells6 hz5
  go_wp2_with fail
  go_ret
  exact ⟨rfl, HB6.out⟩

set_option maxHeartbeats 2000000 in
theorem stampDOS_walk (a0 a1 : Int) (_ : (Lit.int .i64 a0).wf = true) (wa1 : (Lit.int .u32 a1).wf = true) (w : World) (hp : Pow w) :
    Calls Tryd.prog 4 #[.int .i64 a0, .int .u32 a1] w fun e w' => e = .returned (.bool true) ∧ Below w.heap.size w w' := by
  obtain ⟨n, rfl, hn⟩ : ∃ n : Nat, a1 = (n : Nat) ∧ n < 4294967296 := by
    have := bounds_u32 wa1
    exact ⟨a1.toNat, by omega, by omega⟩
  obtain ⟨x, zs, HSC⟩ := sec_ex (fY n : Nat) (fM n : Nat) (fD n : Nat) (fh n : Nat) (fm n : Nat) (fs n : Nat)
  obtain ⟨y, m, d, s, HD⟩ := dos_ex a0
  have H1 := Lib.hid (fun w => fromDOS_any hn HSC w)
  have H2 := Lib.hid (fun w => rfromDOS_any hn HSC w)
  have H3 := Lib.hid (fun w => toDOS_any a0 y m d s HD w)
  have H4 := Lib.hid (fun w => rtoDOS_any a0 y m d s HD w)
  have H5 := Lib.hid (fun w => fits_any a0 w)
  generalize dosN y m d s = D at *
  clear HSC HD wa1
  generalize h1 : decide (-2147483648 ≤ a0) = e1 at *
  generalize h2 : decide (a0 ≤ 2147483647) = e2 at *
  go_enter Tryd.func4, Tryd.ntmps4
  go_wp2_with fail
  refine (awake12_any _ hp).mono ?_; rintro e w0 ⟨rfl, hk⟩
  have HB0 := Lib.hid hk
  clear hk hp
  go_wp2_with fail
  refine (H1.out _).mono ?_; rintro e w1 ⟨rfl, hk⟩
  have HB1 := Lib.hid (below_then HB0.out hk)
  clear hk HB0 H1
  go_wp2_with fail
  refine (H2.out _).mono ?_; rintro e w2 ⟨rfl, hk⟩
  have HB2 := Lib.hid (below_then HB1.out hk)
  clear hk HB1 H2
  go_wp2_with fail
  refine (H3.out _).mono ?_; rintro e w3 ⟨rfl, hk⟩
  have HB3 := Lib.hid (below_then HB2.out hk)
  clear hk HB2 H3
  go_wp2_with fail
  refine (H4.out _).mono ?_; rintro e w4 ⟨rfl, hk⟩
  have HB4 := Lib.hid (below_then HB3.out hk)
  clear hk HB3 H4
  go_wp2_with fail
  refine (H5.out _).mono ?_; rintro e w5 ⟨rfl, rfl⟩
  clear H5
  cases e1 <;> cases e2
  all_goals
    go_wp2_with fail
    go_ret
    exact ⟨rfl, HB4.out⟩
end Go.Proofs.YtmbifoockenniaaDoor
