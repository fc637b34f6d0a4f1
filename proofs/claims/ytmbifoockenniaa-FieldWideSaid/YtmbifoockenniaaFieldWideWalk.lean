/-
  The walk of FieldWide: it returns true, whatever the bytes, what is asked, and the numbers.
-/
import Derived.Test.YtmbifoockenniaaFlL
import Derived.Deep.RegionHeld3
import Derived.Deep.DrawnRows
namespace Go.Proofs.Ytmbifoockenniaa
set_option maxRecDepth 100000
open Go.RowKit Go.Joins Go.Deep
attribute [local go_sem ↓] Go.wp_at_zero Go.wp_at_succ

theorem xk_lt (s : ByteArray) (q : Nat → Bool) (k : Nat) : xk s q k < 18446744073709551616 ∧ xk s q 3 < 4294967296 := by
  have key : ∀ (j m : Nat), (((nums s).drop j).take m).length ≤ m ∧ numL (((nums s).drop j).take m) < 256 ^ m := fun j m => by
    have h1 : (((nums s).drop j).take m).length ≤ m := by rw [List.length_take]; omega
    have h2 := numL_lt (((nums s).drop j).take m) (fun x hx => nums_lt s x (List.mem_of_mem_drop (List.mem_of_mem_take hx)))
    exact ⟨h1, Nat.lt_of_lt_of_le h2 (Nat.pow_le_pow_right (n := 256) (by omega) h1)⟩
  constructor
  · unfold xk
    split
    · have h := (key (wk q k) (nk k)).2
      have hn : nk k ≤ 8 := by unfold nk; split <;> omega
      exact Nat.lt_of_lt_of_le h (Nat.pow_le_pow_right (n := 256) (by omega) hn)
    · omega
  · unfold xk
    split
    · exact (key (wk q 3) 4).2
    · omega
theorem wRes_form (s : ByteArray) (q : Nat → Bool) : ∃ x0 x1 x2 x3 z : Nat, x0 < 18446744073709551616 ∧ x1 < 18446744073709551616 ∧ x2 < 18446744073709551616 ∧ x3 < 4294967296 ∧ z ≤ 1000 ∧ wRes s q .u32 = .tuple #[.agg #[.int .u64 (x0 : Nat), .int .u64 (x1 : Nat), .int .u64 (x2 : Nat), .int .u32 (x3 : Nat)], .int .i64 (z : Nat)] ∧ wRes s q .u64 = .tuple #[.agg #[.int .u64 (x0 : Nat), .int .u64 (x1 : Nat), .int .u64 (x2 : Nat), .int .u64 (x3 : Nat)], .int .i64 (z : Nat)] := by
  by_cases h : wk q 4 = s.size
  · exact ⟨_, _, _, _, 0, (xk_lt s q 0).1, (xk_lt s q 1).1, (xk_lt s q 2).1, (xk_lt s q 3).2, by omega, wRes_yes h, wRes_yes h⟩
  · exact ⟨0, 0, 0, 0, 31, by omega, by omega, by omega, by omega, by omega, wRes_no h, wRes_no h⟩

set_option maxHeartbeats 4000000 in
theorem fieldWide_walk (a0 : ByteArray) (q0 q1 q2 q3 : Bool) (c0 c1 c2 c3 : Int) (w0 : a0.size ≤ maxLen) (wc0 : (Lit.int .u64 c0).wf = true) (wc1 : (Lit.int .u64 c1).wf = true) (wc2 : (Lit.int .u64 c2).wf = true) (wc3 : (Lit.int .u32 c3).wf = true) (w : World) :
    Calls Try.prog 6 #[.string a0, .agg #[.bool q0, .bool q1, .bool q2, .bool q3], .agg #[.int .u64 c0, .int .u64 c1, .int .u64 c2, .int .u32 c3]] w fun e w' => e = .returned (.bool true) ∧ Below w.heap.size w w' := by
  obtain ⟨v0, rfl, hv0⟩ := nat_u64 wc0
  obtain ⟨v1, rfl, hv1⟩ := nat_u64 wc1
  obtain ⟨v2, rfl, hv2⟩ := nat_u64 wc2
  obtain ⟨v3, rfl, hv3⟩ := nat_u32 wc3
  clear wc0 wc1 wc2 wc3
  have HL := Lib.hid w0
  unfold maxLen at w0
  have hb := ((Below.refl w.heap.size w).alloc (Nat.le_refl _) (.cells #[.bool q0, .bool q1, .bool q2, .bool q3] 50)).alloc (by simp) (.cells #[.int .u64 (v0 : Nat), .int .u64 (v1 : Nat), .int .u64 (v2 : Nat), .int .u32 (v3 : Nat)] 54)
  by_cases h : a0.size ≤ 1000
  · obtain ⟨x0, x1, x2, x3, z, hx0, hx1, hx2, hx3, hz, hr, hr2⟩ := wRes_form a0 (qk q0 q1 q2 q3)
    have H1 := Lib.hid (fun w => parseWide_w a0 q0 q1 q2 q3 HL.out w)
    have H2 := Lib.hid (fun w => rparseWide_any a0 q0 q1 q2 q3 h w)
    rw [hr] at H1
    rw [hr2] at H2
    let V : Nat → Nat := fun k => if k = 0 then v0 else if k = 1 then v1 else if k = 2 then v2 else v3
    have hV : ∀ k, V k < 18446744073709551616 := fun k => by
      show (if k = 0 then v0 else if k = 1 then v1 else if k = 2 then v2 else v3) < 18446744073709551616
      repeat' split
      all_goals omega
    have H3 : Hid (∀ w : World, Calls Try.prog 27 #[.agg #[.int .u64 (v0 : Nat), .int .u64 (v1 : Nat), .int .u64 (v2 : Nat), .int .u32 (v3 : Nat)], .agg #[.bool q0, .bool q1, .bool q2, .bool q3]] w fun e w' => e = .returned (.string (pwT (qk q0 q1 q2 q3) V 4)) ∧ Below w.heap.size w w') := fun w => printWide_any q0 q1 q2 q3 V hv0 hv1 hv2 hv3 w
    have H4 : Hid (∀ w : World, Calls Try.prog 28 #[.agg #[.int .u64 (v0 : Nat), .int .u64 (v1 : Nat), .int .u64 (v2 : Nat), .int .u64 (v3 : Nat)], .agg #[.bool q0, .bool q1, .bool q2, .bool q3]] w fun e w' => e = .returned (.string (pwT (qk q0 q1 q2 q3) V 4)) ∧ Below w.heap.size w w') := fun w => rprintWide_any q0 q1 q2 q3 V hV w
    generalize pwT (qk q0 q1 q2 q3) V 4 = T at *
    clear hr hr2 hV
    clear V
    have hx := (Below.heap_alloc (w.alloc (.cells #[.bool q0, .bool q1, .bool q2, .bool q3] 50)) (.cells #[.int .u64 (v0 : Nat), .int .u64 (v1 : Nat), .int .u64 (v2 : Nat), .int .u32 (v3 : Nat)] 54) w.heap.size (by simp)).trans (heap_alloc_new w (.cells #[.bool q0, .bool q1, .bool q2, .bool q3] 50))
    have hy := heap_alloc2_new w (.cells #[.bool q0, .bool q1, .bool q2, .bool q3] 50) (.cells #[.int .u64 (v0 : Nat), .int .u64 (v1 : Nat), .int .u64 (v2 : Nat), .int .u32 (v3 : Nat)] 54)
    go_enter Try.func6, Try.ntmps6
    go_wp2_with fail
    generalize (w.alloc (.cells #[.bool q0, .bool q1, .bool q2, .bool q3] 50)).alloc (.cells #[.int .u64 (v0 : Nat), .int .u64 (v1 : Nat), .int .u64 (v2 : Nat), .int .u32 (v3 : Nat)] 54) = wa at *
    have LA : Hid (w.heap.size < wa.heap.size ∧ w.heap.size + 1 < wa.heap.size) := ⟨lt_of_heap hx, lt_of_heap hy⟩
    generalize hga : w.heap.size = ga at *
    generalize hgw : ga + 1 = gw at *
    have HGA := Lib.hid hga
    clear hga hgw
    refine (awake14_any _).mono ?_; rintro r wA ⟨rfl, hA⟩
    have B0 := Lib.hid (hb.trans (hA.mono (by have := LA.out.1; omega)))
    have A0 := Lib.hid ((hA.block _ LA.out.1).trans hx)
    have W0 := Lib.hid ((hA.block _ LA.out.2).trans hy)
    clear hA hb hx hy LA
    have a0' : wA.cell? ⟨ga, 0, none⟩ = some (.bool q0) := by rw [cell_of_row _ _ 0 _ _ _ A0.out]; rfl
    have a1' : wA.cell? ⟨ga, 1, none⟩ = some (.bool q1) := by rw [cell_of_row _ _ 1 _ _ _ A0.out]; rfl
    have a2' : wA.cell? ⟨ga, 2, none⟩ = some (.bool q2) := by rw [cell_of_row _ _ 2 _ _ _ A0.out]; rfl
    have a3' : wA.cell? ⟨ga, 3, none⟩ = some (.bool q3) := by rw [cell_of_row _ _ 3 _ _ _ A0.out]; rfl
    go_upto_region 6 with fail
    have hb1 := B0.out.alloc (show ga ≤ wA.heap.size by have := lt_of_heap A0.out; omega) (.cells #[.bool q0, .bool q1, .bool q2, .bool q3] 55)
    have hb2 := heap_alloc_new wA (.cells #[.bool q0, .bool q1, .bool q2, .bool q3] 55)
    have ha2 := (Below.heap_alloc wA (.cells #[.bool q0, .bool q1, .bool q2, .bool q3] 55) _ (lt_of_heap A0.out)).trans A0.out
    have hw2 := (Below.heap_alloc wA (.cells #[.bool q0, .bool q1, .bool q2, .bool q3] 55) _ (lt_of_heap W0.out)).trans W0.out
    generalize wA.alloc (.cells #[.bool q0, .bool q1, .bool q2, .bool q3] 55) = wB at *
    generalize wA.heap.size = gb at *
    clear a0' a1' a2' a3' A0 W0 B0
    have a0' : wB.cell? ⟨ga, 0, none⟩ = some (.bool q0) := by rw [cell_of_row _ _ 0 _ _ _ ha2]; rfl
    have a1' : wB.cell? ⟨ga, 1, none⟩ = some (.bool q1) := by rw [cell_of_row _ _ 1 _ _ _ ha2]; rfl
    have a2' : wB.cell? ⟨ga, 2, none⟩ = some (.bool q2) := by rw [cell_of_row _ _ 2 _ _ _ ha2]; rfl
    have a3' : wB.cell? ⟨ga, 3, none⟩ = some (.bool q3) := by rw [cell_of_row _ _ 3 _ _ _ ha2]; rfl
    have LG : Hid (ga ≤ wB.heap.size) := Nat.le_of_lt (lt_of_heap ha2)
    have B1 := Lib.hid hb1; have A1 := Lib.hid ha2; have W1 := Lib.hid hw2; have Q1 := Lib.hid hb2
    clear hb1 ha2 hw2 hb2
    go_wp2_with fail
    refine (H1.out _).mono ?_; rintro r w1 ⟨rfl, h1⟩
    clear a0' a1' a2' a3'
    have hb1 := B1.out.trans (h1.mono LG.out)
    have ha2 := (h1.block _ (lt_of_heap A1.out)).trans A1.out
    have hw2 := (h1.block _ (lt_of_heap W1.out)).trans W1.out
    have hq2 := (h1.block _ (lt_of_heap Q1.out)).trans Q1.out
    have LG1 : Hid (ga ≤ w1.heap.size) := Nat.le_trans LG.out h1.size
    clear h1 B1 A1 W1 Q1 LG
    have hx3 := heap_alloc_new w1 (.cells #[.int .u64 (x0 : Nat), .int .u64 (x1 : Nat), .int .u64 (x2 : Nat), .int .u32 (x3 : Nat)] 54)
    have hb3 := hb1.alloc LG1.out (.cells #[.int .u64 (x0 : Nat), .int .u64 (x1 : Nat), .int .u64 (x2 : Nat), .int .u32 (x3 : Nat)] 54)
    have ha3 := (Below.heap_alloc w1 (.cells #[.int .u64 (x0 : Nat), .int .u64 (x1 : Nat), .int .u64 (x2 : Nat), .int .u32 (x3 : Nat)] 54) _ (lt_of_heap ha2)).trans ha2
    have hw3 := (Below.heap_alloc w1 (.cells #[.int .u64 (x0 : Nat), .int .u64 (x1 : Nat), .int .u64 (x2 : Nat), .int .u32 (x3 : Nat)] 54) _ (lt_of_heap hw2)).trans hw2
    have hq3 := (Below.heap_alloc w1 (.cells #[.int .u64 (x0 : Nat), .int .u64 (x1 : Nat), .int .u64 (x2 : Nat), .int .u32 (x3 : Nat)] 54) _ (lt_of_heap hq2)).trans hq2
    have LG2 : Hid (ga ≤ (w1.alloc (.cells #[.int .u64 (x0 : Nat), .int .u64 (x1 : Nat), .int .u64 (x2 : Nat), .int .u32 (x3 : Nat)] 54)).heap.size) := by show _ ≤ _; have := LG1.out; simp; omega
    clear hb1 ha2 hw2 hq2
    go_upto_region 7 with fail
    generalize w1.alloc (.cells #[.int .u64 (x0 : Nat), .int .u64 (x1 : Nat), .int .u64 (x2 : Nat), .int .u32 (x3 : Nat)] 54) = w2 at *
    generalize w1.heap.size = gx at *
    have a0' : w2.cell? ⟨gb, 0, none⟩ = some (.bool q0) := by rw [cell_of_row _ _ 0 _ _ _ hq3]; rfl
    have a1' : w2.cell? ⟨gb, 1, none⟩ = some (.bool q1) := by rw [cell_of_row _ _ 1 _ _ _ hq3]; rfl
    have a2' : w2.cell? ⟨gb, 2, none⟩ = some (.bool q2) := by rw [cell_of_row _ _ 2 _ _ _ hq3]; rfl
    have a3' : w2.cell? ⟨gb, 3, none⟩ = some (.bool q3) := by rw [cell_of_row _ _ 3 _ _ _ hq3]; rfl
    have B1 := Lib.hid hb3; have A1 := Lib.hid ha3; have W1 := Lib.hid hw3; have Q1 := Lib.hid hq3; have X1 := Lib.hid hx3
    clear hb3 ha3 hw3 hq3 hx3
    go_wp2_with fail
    refine (H2.out _).mono ?_; rintro r w3 ⟨rfl, h1⟩
    clear a0' a1' a2' a3'
    have hb1 := B1.out.trans (h1.mono LG2.out)
    have ha2 := (h1.block _ (lt_of_heap A1.out)).trans A1.out
    have hw2 := (h1.block _ (lt_of_heap W1.out)).trans W1.out
    have hq2 := (h1.block _ (lt_of_heap Q1.out)).trans Q1.out
    have hx2 := (h1.block _ (lt_of_heap X1.out)).trans X1.out
    have LG3 : Hid (ga ≤ w3.heap.size) := Nat.le_trans LG2.out h1.size
    clear h1 B1 A1 W1 Q1 X1 LG2 LG1
    have hy3 := heap_alloc_new w3 (.cells #[.int .u64 (x0 : Nat), .int .u64 (x1 : Nat), .int .u64 (x2 : Nat), .int .u64 (x3 : Nat)] 59)
    have hb3 := hb1.alloc LG3.out (.cells #[.int .u64 (x0 : Nat), .int .u64 (x1 : Nat), .int .u64 (x2 : Nat), .int .u64 (x3 : Nat)] 59)
    have ha3 := (Below.heap_alloc w3 (.cells #[.int .u64 (x0 : Nat), .int .u64 (x1 : Nat), .int .u64 (x2 : Nat), .int .u64 (x3 : Nat)] 59) _ (lt_of_heap ha2)).trans ha2
    have hw3 := (Below.heap_alloc w3 (.cells #[.int .u64 (x0 : Nat), .int .u64 (x1 : Nat), .int .u64 (x2 : Nat), .int .u64 (x3 : Nat)] 59) _ (lt_of_heap hw2)).trans hw2
    have hq3 := (Below.heap_alloc w3 (.cells #[.int .u64 (x0 : Nat), .int .u64 (x1 : Nat), .int .u64 (x2 : Nat), .int .u64 (x3 : Nat)] 59) _ (lt_of_heap hq2)).trans hq2
    have hx3 := (Below.heap_alloc w3 (.cells #[.int .u64 (x0 : Nat), .int .u64 (x1 : Nat), .int .u64 (x2 : Nat), .int .u64 (x3 : Nat)] 59) _ (lt_of_heap hx2)).trans hx2
    clear hb1 ha2 hw2 hq2 hx2 LG3
    go_upto_region 8 with fail
    generalize w3.alloc (.cells #[.int .u64 (x0 : Nat), .int .u64 (x1 : Nat), .int .u64 (x2 : Nat), .int .u64 (x3 : Nat)] 59) = w4 at *
    generalize w3.heap.size = gy at *
    have B3 := Lib.hid hb3
    clear hb3 H1 H2
    have f_ga0 : w4.cell? ⟨ga, 0, none⟩ = some (.bool q0) := by rw [cell_of_row _ _ 0 _ _ _ ha3]; rfl
    have f_ga1 : w4.cell? ⟨ga, 1, none⟩ = some (.bool q1) := by rw [cell_of_row _ _ 1 _ _ _ ha3]; rfl
    have f_ga2 : w4.cell? ⟨ga, 2, none⟩ = some (.bool q2) := by rw [cell_of_row _ _ 2 _ _ _ ha3]; rfl
    have f_ga3 : w4.cell? ⟨ga, 3, none⟩ = some (.bool q3) := by rw [cell_of_row _ _ 3 _ _ _ ha3]; rfl
    have f_gw0 : w4.cell? ⟨gw, 0, none⟩ = some (.int .u64 (v0 : Nat)) := by rw [cell_of_row _ _ 0 _ _ _ hw3]; rfl
    have f_gw1 : w4.cell? ⟨gw, 1, none⟩ = some (.int .u64 (v1 : Nat)) := by rw [cell_of_row _ _ 1 _ _ _ hw3]; rfl
    have f_gw2 : w4.cell? ⟨gw, 2, none⟩ = some (.int .u64 (v2 : Nat)) := by rw [cell_of_row _ _ 2 _ _ _ hw3]; rfl
    have f_gw3 : w4.cell? ⟨gw, 3, none⟩ = some (.int .u32 (v3 : Nat)) := by rw [cell_of_row _ _ 3 _ _ _ hw3]; rfl
    have f_gb0 : w4.cell? ⟨gb, 0, none⟩ = some (.bool q0) := by rw [cell_of_row _ _ 0 _ _ _ hq3]; rfl
    have f_gb1 : w4.cell? ⟨gb, 1, none⟩ = some (.bool q1) := by rw [cell_of_row _ _ 1 _ _ _ hq3]; rfl
    have f_gb2 : w4.cell? ⟨gb, 2, none⟩ = some (.bool q2) := by rw [cell_of_row _ _ 2 _ _ _ hq3]; rfl
    have f_gb3 : w4.cell? ⟨gb, 3, none⟩ = some (.bool q3) := by rw [cell_of_row _ _ 3 _ _ _ hq3]; rfl
    have f_gx0 : w4.cell? ⟨gx, 0, none⟩ = some (.int .u64 (x0 : Nat)) := by rw [cell_of_row _ _ 0 _ _ _ hx3]; rfl
    have f_gx1 : w4.cell? ⟨gx, 1, none⟩ = some (.int .u64 (x1 : Nat)) := by rw [cell_of_row _ _ 1 _ _ _ hx3]; rfl
    have f_gx2 : w4.cell? ⟨gx, 2, none⟩ = some (.int .u64 (x2 : Nat)) := by rw [cell_of_row _ _ 2 _ _ _ hx3]; rfl
    have f_gx3 : w4.cell? ⟨gx, 3, none⟩ = some (.int .u32 (x3 : Nat)) := by rw [cell_of_row _ _ 3 _ _ _ hx3]; rfl
    have f_gy0 : w4.cell? ⟨gy, 0, none⟩ = some (.int .u64 (x0 : Nat)) := by rw [cell_of_row _ _ 0 _ _ _ hy3]; rfl
    have f_gy1 : w4.cell? ⟨gy, 1, none⟩ = some (.int .u64 (x1 : Nat)) := by rw [cell_of_row _ _ 1 _ _ _ hy3]; rfl
    have f_gy2 : w4.cell? ⟨gy, 2, none⟩ = some (.int .u64 (x2 : Nat)) := by rw [cell_of_row _ _ 2 _ _ _ hy3]; rfl
    have f_gy3 : w4.cell? ⟨gy, 3, none⟩ = some (.int .u64 (x3 : Nat)) := by rw [cell_of_row _ _ 3 _ _ _ hy3]; rfl
    have HLZ : Hid (ga < w4.heap.size ∧ gw < w4.heap.size ∧ gb < w4.heap.size ∧ gx < w4.heap.size ∧ gy < w4.heap.size) := ⟨lt_of_heap ha3, lt_of_heap hw3, lt_of_heap hq3, lt_of_heap hx3, lt_of_heap hy3⟩
    clear ha3 hw3 hq3 hx3 hy3
    have heq := eq4_u64 9998 x0 x1 x2 x3
    have hwx : IntKind.u64.wrap (x3 : Int) = (x3 : Int) := by rw [IntKind.wrap_u64]; omega
    have hwv : IntKind.u64.wrap (v3 : Int) = (v3 : Int) := by rw [IntKind.wrap_u64]; omega
    have keep : ∀ a b : World, w4.heap.size ≤ a.heap.size → Below a.heap.size a b → (a.cell? ⟨ga, 0, none⟩ = some (.bool q0) ∧ a.cell? ⟨ga, 1, none⟩ = some (.bool q1) ∧ a.cell? ⟨ga, 2, none⟩ = some (.bool q2) ∧ a.cell? ⟨ga, 3, none⟩ = some (.bool q3) ∧ a.cell? ⟨gw, 0, none⟩ = some (.int .u64 (v0 : Nat)) ∧ a.cell? ⟨gw, 1, none⟩ = some (.int .u64 (v1 : Nat)) ∧ a.cell? ⟨gw, 2, none⟩ = some (.int .u64 (v2 : Nat)) ∧ a.cell? ⟨gw, 3, none⟩ = some (.int .u32 (v3 : Nat)) ∧ a.cell? ⟨gb, 0, none⟩ = some (.bool q0) ∧ a.cell? ⟨gb, 1, none⟩ = some (.bool q1) ∧ a.cell? ⟨gb, 2, none⟩ = some (.bool q2) ∧ a.cell? ⟨gb, 3, none⟩ = some (.bool q3) ∧ a.cell? ⟨gx, 0, none⟩ = some (.int .u64 (x0 : Nat)) ∧ a.cell? ⟨gx, 1, none⟩ = some (.int .u64 (x1 : Nat)) ∧ a.cell? ⟨gx, 2, none⟩ = some (.int .u64 (x2 : Nat)) ∧ a.cell? ⟨gx, 3, none⟩ = some (.int .u32 (x3 : Nat)) ∧ a.cell? ⟨gy, 0, none⟩ = some (.int .u64 (x0 : Nat)) ∧ a.cell? ⟨gy, 1, none⟩ = some (.int .u64 (x1 : Nat)) ∧ a.cell? ⟨gy, 2, none⟩ = some (.int .u64 (x2 : Nat)) ∧ a.cell? ⟨gy, 3, none⟩ = some (.int .u64 (x3 : Nat))) → (b.cell? ⟨ga, 0, none⟩ = some (.bool q0) ∧ b.cell? ⟨ga, 1, none⟩ = some (.bool q1) ∧ b.cell? ⟨ga, 2, none⟩ = some (.bool q2) ∧ b.cell? ⟨ga, 3, none⟩ = some (.bool q3) ∧ b.cell? ⟨gw, 0, none⟩ = some (.int .u64 (v0 : Nat)) ∧ b.cell? ⟨gw, 1, none⟩ = some (.int .u64 (v1 : Nat)) ∧ b.cell? ⟨gw, 2, none⟩ = some (.int .u64 (v2 : Nat)) ∧ b.cell? ⟨gw, 3, none⟩ = some (.int .u32 (v3 : Nat)) ∧ b.cell? ⟨gb, 0, none⟩ = some (.bool q0) ∧ b.cell? ⟨gb, 1, none⟩ = some (.bool q1) ∧ b.cell? ⟨gb, 2, none⟩ = some (.bool q2) ∧ b.cell? ⟨gb, 3, none⟩ = some (.bool q3) ∧ b.cell? ⟨gx, 0, none⟩ = some (.int .u64 (x0 : Nat)) ∧ b.cell? ⟨gx, 1, none⟩ = some (.int .u64 (x1 : Nat)) ∧ b.cell? ⟨gx, 2, none⟩ = some (.int .u64 (x2 : Nat)) ∧ b.cell? ⟨gx, 3, none⟩ = some (.int .u32 (x3 : Nat)) ∧ b.cell? ⟨gy, 0, none⟩ = some (.int .u64 (x0 : Nat)) ∧ b.cell? ⟨gy, 1, none⟩ = some (.int .u64 (x1 : Nat)) ∧ b.cell? ⟨gy, 2, none⟩ = some (.int .u64 (x2 : Nat)) ∧ b.cell? ⟨gy, 3, none⟩ = some (.int .u64 (x3 : Nat))) ∧ w4.heap.size ≤ b.heap.size := by
      intro a b hab hk ⟨k0, k1, k2, k3, k4, k5, k6, k7, k8, k9, k10, k11, k12, k13, k14, k15, k16, k17, k18, k19⟩
      obtain ⟨l0, l1, l2, l3, l4⟩ := HLZ.out
      have m : ∀ (g i : Nat) (v : Value), g < w4.heap.size → a.cell? ⟨g, i, none⟩ = some v → b.cell? ⟨g, i, none⟩ = some v := fun g i v hg h => (hk.cell (p := ⟨g, i, none⟩) (Nat.lt_of_lt_of_le hg hab)).trans h
      exact ⟨⟨m _ _ _ l0 k0, m _ _ _ l0 k1, m _ _ _ l0 k2, m _ _ _ l0 k3, m _ _ _ l1 k4, m _ _ _ l1 k5, m _ _ _ l1 k6, m _ _ _ l1 k7, m _ _ _ l2 k8, m _ _ _ l2 k9, m _ _ _ l2 k10, m _ _ _ l2 k11, m _ _ _ l3 k12, m _ _ _ l3 k13, m _ _ _ l3 k14, m _ _ _ l3 k15, m _ _ _ l4 k16, m _ _ _ l4 k17, m _ _ _ l4 k18, m _ _ _ l4 k19⟩, Nat.le_trans hab hk.size⟩
    have H5 : Hid (∀ a : World, (w4.heap.size ≤ a.heap.size ∧ Below ga w a) → (a.cell? ⟨ga, 0, none⟩ = some (.bool q0) ∧ a.cell? ⟨ga, 1, none⟩ = some (.bool q1) ∧ a.cell? ⟨ga, 2, none⟩ = some (.bool q2) ∧ a.cell? ⟨ga, 3, none⟩ = some (.bool q3) ∧ a.cell? ⟨gw, 0, none⟩ = some (.int .u64 (v0 : Nat)) ∧ a.cell? ⟨gw, 1, none⟩ = some (.int .u64 (v1 : Nat)) ∧ a.cell? ⟨gw, 2, none⟩ = some (.int .u64 (v2 : Nat)) ∧ a.cell? ⟨gw, 3, none⟩ = some (.int .u32 (v3 : Nat)) ∧ a.cell? ⟨gb, 0, none⟩ = some (.bool q0) ∧ a.cell? ⟨gb, 1, none⟩ = some (.bool q1) ∧ a.cell? ⟨gb, 2, none⟩ = some (.bool q2) ∧ a.cell? ⟨gb, 3, none⟩ = some (.bool q3) ∧ a.cell? ⟨gx, 0, none⟩ = some (.int .u64 (x0 : Nat)) ∧ a.cell? ⟨gx, 1, none⟩ = some (.int .u64 (x1 : Nat)) ∧ a.cell? ⟨gx, 2, none⟩ = some (.int .u64 (x2 : Nat)) ∧ a.cell? ⟨gx, 3, none⟩ = some (.int .u32 (x3 : Nat)) ∧ a.cell? ⟨gy, 0, none⟩ = some (.int .u64 (x0 : Nat)) ∧ a.cell? ⟨gy, 1, none⟩ = some (.int .u64 (x1 : Nat)) ∧ a.cell? ⟨gy, 2, none⟩ = some (.int .u64 (x2 : Nat)) ∧ a.cell? ⟨gy, 3, none⟩ = some (.int .u64 (x3 : Nat))) → Calls Try.prog 27 #[.agg #[.int .u64 (v0 : Nat), .int .u64 (v1 : Nat), .int .u64 (v2 : Nat), .int .u32 (v3 : Nat)], .agg #[.bool q0, .bool q1, .bool q2, .bool q3]] a fun e b => e = .returned (.string T) ∧ (b.cell? ⟨ga, 0, none⟩ = some (.bool q0) ∧ b.cell? ⟨ga, 1, none⟩ = some (.bool q1) ∧ b.cell? ⟨ga, 2, none⟩ = some (.bool q2) ∧ b.cell? ⟨ga, 3, none⟩ = some (.bool q3) ∧ b.cell? ⟨gw, 0, none⟩ = some (.int .u64 (v0 : Nat)) ∧ b.cell? ⟨gw, 1, none⟩ = some (.int .u64 (v1 : Nat)) ∧ b.cell? ⟨gw, 2, none⟩ = some (.int .u64 (v2 : Nat)) ∧ b.cell? ⟨gw, 3, none⟩ = some (.int .u32 (v3 : Nat)) ∧ b.cell? ⟨gb, 0, none⟩ = some (.bool q0) ∧ b.cell? ⟨gb, 1, none⟩ = some (.bool q1) ∧ b.cell? ⟨gb, 2, none⟩ = some (.bool q2) ∧ b.cell? ⟨gb, 3, none⟩ = some (.bool q3) ∧ b.cell? ⟨gx, 0, none⟩ = some (.int .u64 (x0 : Nat)) ∧ b.cell? ⟨gx, 1, none⟩ = some (.int .u64 (x1 : Nat)) ∧ b.cell? ⟨gx, 2, none⟩ = some (.int .u64 (x2 : Nat)) ∧ b.cell? ⟨gx, 3, none⟩ = some (.int .u32 (x3 : Nat)) ∧ b.cell? ⟨gy, 0, none⟩ = some (.int .u64 (x0 : Nat)) ∧ b.cell? ⟨gy, 1, none⟩ = some (.int .u64 (x1 : Nat)) ∧ b.cell? ⟨gy, 2, none⟩ = some (.int .u64 (x2 : Nat)) ∧ b.cell? ⟨gy, 3, none⟩ = some (.int .u64 (x3 : Nat))) ∧ (w4.heap.size ≤ b.heap.size ∧ Below ga w b)) :=
      fun a ha hS => (H3.out a).mono fun e b ⟨he, hk⟩ => ⟨he, (keep a b ha.1 hk hS).1, (keep a b ha.1 hk hS).2, ha.2.trans (hk.mono (by have := HLZ.out.1; omega))⟩
    have H6 : Hid (∀ a : World, (w4.heap.size ≤ a.heap.size ∧ Below ga w a) → (a.cell? ⟨ga, 0, none⟩ = some (.bool q0) ∧ a.cell? ⟨ga, 1, none⟩ = some (.bool q1) ∧ a.cell? ⟨ga, 2, none⟩ = some (.bool q2) ∧ a.cell? ⟨ga, 3, none⟩ = some (.bool q3) ∧ a.cell? ⟨gw, 0, none⟩ = some (.int .u64 (v0 : Nat)) ∧ a.cell? ⟨gw, 1, none⟩ = some (.int .u64 (v1 : Nat)) ∧ a.cell? ⟨gw, 2, none⟩ = some (.int .u64 (v2 : Nat)) ∧ a.cell? ⟨gw, 3, none⟩ = some (.int .u32 (v3 : Nat)) ∧ a.cell? ⟨gb, 0, none⟩ = some (.bool q0) ∧ a.cell? ⟨gb, 1, none⟩ = some (.bool q1) ∧ a.cell? ⟨gb, 2, none⟩ = some (.bool q2) ∧ a.cell? ⟨gb, 3, none⟩ = some (.bool q3) ∧ a.cell? ⟨gx, 0, none⟩ = some (.int .u64 (x0 : Nat)) ∧ a.cell? ⟨gx, 1, none⟩ = some (.int .u64 (x1 : Nat)) ∧ a.cell? ⟨gx, 2, none⟩ = some (.int .u64 (x2 : Nat)) ∧ a.cell? ⟨gx, 3, none⟩ = some (.int .u32 (x3 : Nat)) ∧ a.cell? ⟨gy, 0, none⟩ = some (.int .u64 (x0 : Nat)) ∧ a.cell? ⟨gy, 1, none⟩ = some (.int .u64 (x1 : Nat)) ∧ a.cell? ⟨gy, 2, none⟩ = some (.int .u64 (x2 : Nat)) ∧ a.cell? ⟨gy, 3, none⟩ = some (.int .u64 (x3 : Nat))) → Calls Try.prog 28 #[.agg #[.int .u64 (v0 : Nat), .int .u64 (v1 : Nat), .int .u64 (v2 : Nat), .int .u64 (v3 : Nat)], .agg #[.bool q0, .bool q1, .bool q2, .bool q3]] a fun e b => e = .returned (.string T) ∧ (b.cell? ⟨ga, 0, none⟩ = some (.bool q0) ∧ b.cell? ⟨ga, 1, none⟩ = some (.bool q1) ∧ b.cell? ⟨ga, 2, none⟩ = some (.bool q2) ∧ b.cell? ⟨ga, 3, none⟩ = some (.bool q3) ∧ b.cell? ⟨gw, 0, none⟩ = some (.int .u64 (v0 : Nat)) ∧ b.cell? ⟨gw, 1, none⟩ = some (.int .u64 (v1 : Nat)) ∧ b.cell? ⟨gw, 2, none⟩ = some (.int .u64 (v2 : Nat)) ∧ b.cell? ⟨gw, 3, none⟩ = some (.int .u32 (v3 : Nat)) ∧ b.cell? ⟨gb, 0, none⟩ = some (.bool q0) ∧ b.cell? ⟨gb, 1, none⟩ = some (.bool q1) ∧ b.cell? ⟨gb, 2, none⟩ = some (.bool q2) ∧ b.cell? ⟨gb, 3, none⟩ = some (.bool q3) ∧ b.cell? ⟨gx, 0, none⟩ = some (.int .u64 (x0 : Nat)) ∧ b.cell? ⟨gx, 1, none⟩ = some (.int .u64 (x1 : Nat)) ∧ b.cell? ⟨gx, 2, none⟩ = some (.int .u64 (x2 : Nat)) ∧ b.cell? ⟨gx, 3, none⟩ = some (.int .u32 (x3 : Nat)) ∧ b.cell? ⟨gy, 0, none⟩ = some (.int .u64 (x0 : Nat)) ∧ b.cell? ⟨gy, 1, none⟩ = some (.int .u64 (x1 : Nat)) ∧ b.cell? ⟨gy, 2, none⟩ = some (.int .u64 (x2 : Nat)) ∧ b.cell? ⟨gy, 3, none⟩ = some (.int .u64 (x3 : Nat))) ∧ (w4.heap.size ≤ b.heap.size ∧ Below ga w b)) :=
      fun a ha hS => (H4.out a).mono fun e b ⟨he, hk⟩ => ⟨he, (keep a b ha.1 hk hS).1, (keep a b ha.1 hk hS).2, ha.2.trans (hk.mono (by have := HLZ.out.1; omega))⟩
    clear keep HLZ H3 H4
    have HW3 : Hid (w4.heap.size ≤ w4.heap.size ∧ Below ga w w4) := ⟨Nat.le_refl _, B3.out⟩
    go_region_held3 (fun w' => w'.cell? ⟨ga, 0, none⟩ = some (.bool q0) ∧ w'.cell? ⟨ga, 1, none⟩ = some (.bool q1) ∧ w'.cell? ⟨ga, 2, none⟩ = some (.bool q2) ∧ w'.cell? ⟨ga, 3, none⟩ = some (.bool q3) ∧ w'.cell? ⟨gw, 0, none⟩ = some (.int .u64 (v0 : Nat)) ∧ w'.cell? ⟨gw, 1, none⟩ = some (.int .u64 (v1 : Nat)) ∧ w'.cell? ⟨gw, 2, none⟩ = some (.int .u64 (v2 : Nat)) ∧ w'.cell? ⟨gw, 3, none⟩ = some (.int .u32 (v3 : Nat)) ∧ w'.cell? ⟨gb, 0, none⟩ = some (.bool q0) ∧ w'.cell? ⟨gb, 1, none⟩ = some (.bool q1) ∧ w'.cell? ⟨gb, 2, none⟩ = some (.bool q2) ∧ w'.cell? ⟨gb, 3, none⟩ = some (.bool q3) ∧ w'.cell? ⟨gx, 0, none⟩ = some (.int .u64 (x0 : Nat)) ∧ w'.cell? ⟨gx, 1, none⟩ = some (.int .u64 (x1 : Nat)) ∧ w'.cell? ⟨gx, 2, none⟩ = some (.int .u64 (x2 : Nat)) ∧ w'.cell? ⟨gx, 3, none⟩ = some (.int .u32 (x3 : Nat)) ∧ w'.cell? ⟨gy, 0, none⟩ = some (.int .u64 (x0 : Nat)) ∧ w'.cell? ⟨gy, 1, none⟩ = some (.int .u64 (x1 : Nat)) ∧ w'.cell? ⟨gy, 2, none⟩ = some (.int .u64 (x2 : Nat)) ∧ w'.cell? ⟨gy, 3, none⟩ = some (.int .u64 (x3 : Nat))) (go_keep) (first | (go_at_call 27; (refine (H5.out _ (by first | exact HW3.out | exact ⟨HW3.out.1, HW3.out.2.drew⟩ | assumption) (by go_keep)).mono ?_); rintro e y1 ⟨rfl, ⟨n0, n1, n2, n3, n4, n5, n6, n7, n8, n9, n10, n11, n12, n13, n14, n15, n16, n17, n18, n19⟩, kb⟩) | (go_at_call 28; refine (H6.out _ (by first | exact HW3.out | assumption) (by go_keep)).mono ?_; rintro e y2 ⟨rfl, ⟨m0, m1, m2, m3, m4, m5, m6, m7, m8, m9, m10, m11, m12, m13, m14, m15, m16, m17, m18, m19⟩, mb⟩))
    go_wp2
    go_ret
    exact ⟨rfl, by rw [HGA.out]; exact mb.2⟩
  · go_enter Try.func6, Try.ntmps6
    go_wp2_with fail
    have hsz : ((w.alloc (.cells #[.bool q0, .bool q1, .bool q2, .bool q3] 50)).alloc (.cells #[.int .u64 (v0 : Nat), .int .u64 (v1 : Nat), .int .u64 (v2 : Nat), .int .u32 (v3 : Nat)] 54)).heap.size = w.heap.size + 2 := by simp
    generalize (w.alloc (.cells #[.bool q0, .bool q1, .bool q2, .bool q3] 50)).alloc (.cells #[.int .u64 (v0 : Nat), .int .u64 (v1 : Nat), .int .u64 (v2 : Nat), .int .u32 (v3 : Nat)] 54) = wa at *
    refine (awake14_any _).mono ?_; rintro r wA ⟨rfl, hA⟩
    have B0 := Lib.hid (hb.trans (hA.mono (by omega)))
    clear hA hb
    go_wp2_with fail
    go_ret
    exact ⟨rfl, B0.out⟩
end Go.Proofs.Ytmbifoockenniaa
