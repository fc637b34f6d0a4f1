/-
  The walk of FieldStamps: it returns true, whatever the bytes and the times.
-/
import Derived.Test.YtmbifoockenniaaFlI
import Derived.Deep.RegionHeld3
import Derived.Deep.DrawnRows
namespace Go.Proofs.Ytmbifoockenniaa
set_option maxRecDepth 100000
open Go.RowKit Go.Joins Go.Deep
attribute [local go_sem ↓] Go.wp_at_zero Go.wp_at_succ

theorem stRes_form (s : ByteArray) (c : Bool) : ∃ (F : Nat) (v0 v1 v2 : Int) (z : Nat), F < 256 ∧ z ≤ 1000 ∧ stRes s c = .tuple #[.agg #[.int .u8 (F : Nat), .int .i32 v0, .int .i32 v1, .int .i32 v2], .int .i64 (z : Nat)] := by
  by_cases h : 1 ≤ s.size ∧ (nums s).getD 0 0 ≤ 7 ∧ pk ((nums s).getD 0 0) c 3 ≤ s.size ∧ (c = true ∨ pk ((nums s).getD 0 0) c 3 = s.size)
  · exact ⟨_, _, _, _, 0, getD_lt s 0, by omega, stRes_yes rfl h⟩
  · exact ⟨0, 0, 0, 0, 24, by omega, by omega, stRes_no rfl h⟩

set_option maxHeartbeats 4000000 in
theorem fieldStamps_walk (a0 : ByteArray) (b0 : Int) (b1 b2 b3 : Int) (a2 : Bool) (w0 : a0.size ≤ maxLen) (wb0 : (Lit.int .u8 b0).wf = true) (wb1 : (Lit.int .i32 b1).wf = true) (wb2 : (Lit.int .i32 b2).wf = true) (wb3 : (Lit.int .i32 b3).wf = true) (w : World) :
    Calls Try.prog 7 #[.string a0, .agg #[.int .u8 b0, .int .i32 b1, .int .i32 b2, .int .i32 b3], .bool a2] w fun e w' => e = .returned (.bool true) ∧ Below w.heap.size w w' := by
  obtain ⟨F, rfl, hF⟩ := nat_u8 wb0
  have hi1 := bounds_i32 wb1
  have hi2 := bounds_i32 wb2
  have hi3 := bounds_i32 wb3
  clear wb0 wb1 wb2 wb3
  have HL := Lib.hid w0
  unfold maxLen at w0
  by_cases h : a0.size ≤ 1000
  · obtain ⟨G, v0, v1, v2, z, hG, hz, hr⟩ := stRes_form a0 a2
    have H1 := Lib.hid (fun w => parseStamp_st a0 a2 HL.out w)
    have H2 := Lib.hid (fun w => rparseStamp_any a0 a2 h w)
    rw [hr] at H1 H2
    let V : Nat → Int := fun k => if k = 0 then b1 else if k = 1 then b2 else b3
    have hV : ∀ k, -2147483648 ≤ V k ∧ V k ≤ 2147483647 := fun k => by
      show -2147483648 ≤ (if k = 0 then b1 else if k = 1 then b2 else b3) ∧ (if k = 0 then b1 else if k = 1 then b2 else b3) ≤ 2147483647
      split
      · exact hi1
      · split
        · exact hi2
        · exact hi3
    have H3 : Hid (∀ w : World, Calls Try.prog 31 #[.agg #[.int .u8 F, .int .i32 b1, .int .i32 b2, .int .i32 b3], .bool a2] w fun e w' => e = .returned (.string (psT F a2 V 3)) ∧ Below w.heap.size w w') := fun w => printStamp_any F hF a2 V hV w
    have H4 : Hid (∀ w : World, Calls Try.prog 32 #[.agg #[.int .u8 F, .int .i32 b1, .int .i32 b2, .int .i32 b3], .bool a2] w fun e w' => e = .returned (.string (psT F a2 V 3)) ∧ Below w.heap.size w w') := fun w => rprintStamp_any F hF a2 V hV w
    generalize psT F a2 V 3 = T at *
    clear hr hV
    clear V
    go_enter Try.func7, Try.ntmps7
    go_wp2_with fail
    have hb := (Below.refl w.heap.size w).alloc (Nat.le_refl _) (.cells #[.int .u8 F, .int .i32 b1, .int .i32 b2, .int .i32 b3] 66)
    have hx := heap_alloc_new w (.cells #[.int .u8 F, .int .i32 b1, .int .i32 b2, .int .i32 b3] 66)
    generalize w.alloc (.cells #[.int .u8 F, .int .i32 b1, .int .i32 b2, .int .i32 b3] 66) = wa at *
    refine (awake14_any _).mono ?_; rintro r wA ⟨rfl, hA⟩
    have B0 := Lib.hid (below_then hb hA)
    have X0 := Lib.hid ((hA.block _ (lt_of_heap hx)).trans hx)
    clear hA hb hx
    go_wp2_with fail
    refine (H1.out _).mono ?_; rintro r w1 ⟨rfl, h1⟩
    have B1 := Lib.hid (below_then B0.out h1)
    have X1 := Lib.hid ((h1.block _ (lt_of_heap X0.out)).trans X0.out)
    clear h1 B0 X0
    go_wp2_with fail
    have hy := heap_alloc_new w1 (.cells #[.int .u8 G, .int .i32 v0, .int .i32 v1, .int .i32 v2] 66)
    have hb2 := B1.out.alloc B1.out.size (.cells #[.int .u8 G, .int .i32 v0, .int .i32 v1, .int .i32 v2] 66)
    have hx2 := (Below.heap_alloc w1 (.cells #[.int .u8 G, .int .i32 v0, .int .i32 v1, .int .i32 v2] 66) _ (lt_of_heap X1.out)).trans X1.out
    generalize w1.alloc (.cells #[.int .u8 G, .int .i32 v0, .int .i32 v1, .int .i32 v2] 66) = wb at *
    generalize w1.heap.size = gy at *
    refine (H2.out _).mono ?_; rintro r w2 ⟨rfl, h2⟩
    have B2 := Lib.hid (below_then hb2 h2)
    have X2 := Lib.hid ((h2.block _ (lt_of_heap hx2)).trans hx2)
    have Y2 := Lib.hid ((h2.block _ (lt_of_heap hy)).trans hy)
    clear hb2 hx2 hy h2 B1 X1
    have hz3 := heap_alloc_new w2 (.cells #[.int .u8 G, .int .i32 v0, .int .i32 v1, .int .i32 v2] 71)
    have hb3 := B2.out.alloc B2.out.size (.cells #[.int .u8 G, .int .i32 v0, .int .i32 v1, .int .i32 v2] 71)
    have hx3 := (Below.heap_alloc w2 (.cells #[.int .u8 G, .int .i32 v0, .int .i32 v1, .int .i32 v2] 71) _ (lt_of_heap X2.out)).trans X2.out
    have hy3 := (Below.heap_alloc w2 (.cells #[.int .u8 G, .int .i32 v0, .int .i32 v1, .int .i32 v2] 71) _ (lt_of_heap Y2.out)).trans Y2.out
    go_upto_region 7 with fail
    generalize w2.alloc (.cells #[.int .u8 G, .int .i32 v0, .int .i32 v1, .int .i32 v2] 71) = w3 at *
    generalize w2.heap.size = gz at *
    have B3 := Lib.hid hb3
    clear B2 X2 Y2 hb3 H1 H2
    have x0 : w3.cell? ⟨w.heap.size, 0, none⟩ = some (.int .u8 F) := by rw [cell_of_row _ _ 0 _ _ _ hx3]; rfl
    have x1 : w3.cell? ⟨w.heap.size, 1, none⟩ = some (.int .i32 b1) := by rw [cell_of_row _ _ 1 _ _ _ hx3]; rfl
    have x2 : w3.cell? ⟨w.heap.size, 2, none⟩ = some (.int .i32 b2) := by rw [cell_of_row _ _ 2 _ _ _ hx3]; rfl
    have x3 : w3.cell? ⟨w.heap.size, 3, none⟩ = some (.int .i32 b3) := by rw [cell_of_row _ _ 3 _ _ _ hx3]; rfl
    have y0 : w3.cell? ⟨gy, 0, none⟩ = some (.int .u8 G) := by rw [cell_of_row _ _ 0 _ _ _ hy3]; rfl
    have y1 : w3.cell? ⟨gy, 1, none⟩ = some (.int .i32 v0) := by rw [cell_of_row _ _ 1 _ _ _ hy3]; rfl
    have y2 : w3.cell? ⟨gy, 2, none⟩ = some (.int .i32 v1) := by rw [cell_of_row _ _ 2 _ _ _ hy3]; rfl
    have y3 : w3.cell? ⟨gy, 3, none⟩ = some (.int .i32 v2) := by rw [cell_of_row _ _ 3 _ _ _ hy3]; rfl
    have z0 : w3.cell? ⟨gz, 0, none⟩ = some (.int .u8 G) := by rw [cell_of_row _ _ 0 _ _ _ hz3]; rfl
    have z1 : w3.cell? ⟨gz, 1, none⟩ = some (.int .i32 v0) := by rw [cell_of_row _ _ 1 _ _ _ hz3]; rfl
    have z2 : w3.cell? ⟨gz, 2, none⟩ = some (.int .i32 v1) := by rw [cell_of_row _ _ 2 _ _ _ hz3]; rfl
    have z3 : w3.cell? ⟨gz, 3, none⟩ = some (.int .i32 v2) := by rw [cell_of_row _ _ 3 _ _ _ hz3]; rfl
    have LX := Lib.hid (lt_of_heap hx3)
    have LY := Lib.hid (lt_of_heap hy3)
    have LZ := Lib.hid (lt_of_heap hz3)
    clear hx3 hy3 hz3
    have heq := eq3_i32 v0 v1 v2
    have HLZ : Hid (w.heap.size < w3.heap.size ∧ gy < w3.heap.size ∧ gz < w3.heap.size) := ⟨LX.out, LY.out, LZ.out⟩
    have keep : ∀ a b : World, w3.heap.size ≤ a.heap.size → Below a.heap.size a b → (a.cell? ⟨w.heap.size, 0, none⟩ = some (.int .u8 F) ∧ a.cell? ⟨w.heap.size, 1, none⟩ = some (.int .i32 b1) ∧ a.cell? ⟨w.heap.size, 2, none⟩ = some (.int .i32 b2) ∧ a.cell? ⟨w.heap.size, 3, none⟩ = some (.int .i32 b3) ∧ a.cell? ⟨gy, 0, none⟩ = some (.int .u8 G) ∧ a.cell? ⟨gy, 1, none⟩ = some (.int .i32 v0) ∧ a.cell? ⟨gy, 2, none⟩ = some (.int .i32 v1) ∧ a.cell? ⟨gy, 3, none⟩ = some (.int .i32 v2) ∧ a.cell? ⟨gz, 0, none⟩ = some (.int .u8 G) ∧ a.cell? ⟨gz, 1, none⟩ = some (.int .i32 v0) ∧ a.cell? ⟨gz, 2, none⟩ = some (.int .i32 v1) ∧ a.cell? ⟨gz, 3, none⟩ = some (.int .i32 v2)) → (b.cell? ⟨w.heap.size, 0, none⟩ = some (.int .u8 F) ∧ b.cell? ⟨w.heap.size, 1, none⟩ = some (.int .i32 b1) ∧ b.cell? ⟨w.heap.size, 2, none⟩ = some (.int .i32 b2) ∧ b.cell? ⟨w.heap.size, 3, none⟩ = some (.int .i32 b3) ∧ b.cell? ⟨gy, 0, none⟩ = some (.int .u8 G) ∧ b.cell? ⟨gy, 1, none⟩ = some (.int .i32 v0) ∧ b.cell? ⟨gy, 2, none⟩ = some (.int .i32 v1) ∧ b.cell? ⟨gy, 3, none⟩ = some (.int .i32 v2) ∧ b.cell? ⟨gz, 0, none⟩ = some (.int .u8 G) ∧ b.cell? ⟨gz, 1, none⟩ = some (.int .i32 v0) ∧ b.cell? ⟨gz, 2, none⟩ = some (.int .i32 v1) ∧ b.cell? ⟨gz, 3, none⟩ = some (.int .i32 v2)) ∧ w3.heap.size ≤ b.heap.size := by
      intro a b hab hk ⟨k0, k1, k2, k3, k4, k5, k6, k7, k8, k9, k10, k11⟩
      obtain ⟨l1, l2, l3⟩ := HLZ.out
      have m : ∀ (g i : Nat) (v : Value), g < w3.heap.size → a.cell? ⟨g, i, none⟩ = some v → b.cell? ⟨g, i, none⟩ = some v := fun g i v hg h => (hk.cell (p := ⟨g, i, none⟩) (Nat.lt_of_lt_of_le hg hab)).trans h
      exact ⟨⟨m _ _ _ l1 k0, m _ _ _ l1 k1, m _ _ _ l1 k2, m _ _ _ l1 k3, m _ _ _ l2 k4, m _ _ _ l2 k5, m _ _ _ l2 k6, m _ _ _ l2 k7, m _ _ _ l3 k8, m _ _ _ l3 k9, m _ _ _ l3 k10, m _ _ _ l3 k11⟩, Nat.le_trans hab hk.size⟩
    have H5 : Hid (∀ a : World, (w3.heap.size ≤ a.heap.size ∧ Below w.heap.size w a) → (a.cell? ⟨w.heap.size, 0, none⟩ = some (.int .u8 F) ∧ a.cell? ⟨w.heap.size, 1, none⟩ = some (.int .i32 b1) ∧ a.cell? ⟨w.heap.size, 2, none⟩ = some (.int .i32 b2) ∧ a.cell? ⟨w.heap.size, 3, none⟩ = some (.int .i32 b3) ∧ a.cell? ⟨gy, 0, none⟩ = some (.int .u8 G) ∧ a.cell? ⟨gy, 1, none⟩ = some (.int .i32 v0) ∧ a.cell? ⟨gy, 2, none⟩ = some (.int .i32 v1) ∧ a.cell? ⟨gy, 3, none⟩ = some (.int .i32 v2) ∧ a.cell? ⟨gz, 0, none⟩ = some (.int .u8 G) ∧ a.cell? ⟨gz, 1, none⟩ = some (.int .i32 v0) ∧ a.cell? ⟨gz, 2, none⟩ = some (.int .i32 v1) ∧ a.cell? ⟨gz, 3, none⟩ = some (.int .i32 v2)) → Calls Try.prog 31 #[.agg #[.int .u8 F, .int .i32 b1, .int .i32 b2, .int .i32 b3], .bool a2] a fun e b => e = .returned (.string T) ∧ (b.cell? ⟨w.heap.size, 0, none⟩ = some (.int .u8 F) ∧ b.cell? ⟨w.heap.size, 1, none⟩ = some (.int .i32 b1) ∧ b.cell? ⟨w.heap.size, 2, none⟩ = some (.int .i32 b2) ∧ b.cell? ⟨w.heap.size, 3, none⟩ = some (.int .i32 b3) ∧ b.cell? ⟨gy, 0, none⟩ = some (.int .u8 G) ∧ b.cell? ⟨gy, 1, none⟩ = some (.int .i32 v0) ∧ b.cell? ⟨gy, 2, none⟩ = some (.int .i32 v1) ∧ b.cell? ⟨gy, 3, none⟩ = some (.int .i32 v2) ∧ b.cell? ⟨gz, 0, none⟩ = some (.int .u8 G) ∧ b.cell? ⟨gz, 1, none⟩ = some (.int .i32 v0) ∧ b.cell? ⟨gz, 2, none⟩ = some (.int .i32 v1) ∧ b.cell? ⟨gz, 3, none⟩ = some (.int .i32 v2)) ∧ (w3.heap.size ≤ b.heap.size ∧ Below w.heap.size w b)) :=
      fun a ha hS => (H3.out a).mono fun e b ⟨he, hk⟩ => ⟨he, (keep a b ha.1 hk hS).1, (keep a b ha.1 hk hS).2, below_then ha.2 hk⟩
    have H6 : Hid (∀ a : World, (w3.heap.size ≤ a.heap.size ∧ Below w.heap.size w a) → (a.cell? ⟨w.heap.size, 0, none⟩ = some (.int .u8 F) ∧ a.cell? ⟨w.heap.size, 1, none⟩ = some (.int .i32 b1) ∧ a.cell? ⟨w.heap.size, 2, none⟩ = some (.int .i32 b2) ∧ a.cell? ⟨w.heap.size, 3, none⟩ = some (.int .i32 b3) ∧ a.cell? ⟨gy, 0, none⟩ = some (.int .u8 G) ∧ a.cell? ⟨gy, 1, none⟩ = some (.int .i32 v0) ∧ a.cell? ⟨gy, 2, none⟩ = some (.int .i32 v1) ∧ a.cell? ⟨gy, 3, none⟩ = some (.int .i32 v2) ∧ a.cell? ⟨gz, 0, none⟩ = some (.int .u8 G) ∧ a.cell? ⟨gz, 1, none⟩ = some (.int .i32 v0) ∧ a.cell? ⟨gz, 2, none⟩ = some (.int .i32 v1) ∧ a.cell? ⟨gz, 3, none⟩ = some (.int .i32 v2)) → Calls Try.prog 32 #[.agg #[.int .u8 F, .int .i32 b1, .int .i32 b2, .int .i32 b3], .bool a2] a fun e b => e = .returned (.string T) ∧ (b.cell? ⟨w.heap.size, 0, none⟩ = some (.int .u8 F) ∧ b.cell? ⟨w.heap.size, 1, none⟩ = some (.int .i32 b1) ∧ b.cell? ⟨w.heap.size, 2, none⟩ = some (.int .i32 b2) ∧ b.cell? ⟨w.heap.size, 3, none⟩ = some (.int .i32 b3) ∧ b.cell? ⟨gy, 0, none⟩ = some (.int .u8 G) ∧ b.cell? ⟨gy, 1, none⟩ = some (.int .i32 v0) ∧ b.cell? ⟨gy, 2, none⟩ = some (.int .i32 v1) ∧ b.cell? ⟨gy, 3, none⟩ = some (.int .i32 v2) ∧ b.cell? ⟨gz, 0, none⟩ = some (.int .u8 G) ∧ b.cell? ⟨gz, 1, none⟩ = some (.int .i32 v0) ∧ b.cell? ⟨gz, 2, none⟩ = some (.int .i32 v1) ∧ b.cell? ⟨gz, 3, none⟩ = some (.int .i32 v2)) ∧ (w3.heap.size ≤ b.heap.size ∧ Below w.heap.size w b)) :=
      fun a ha hS => (H4.out a).mono fun e b ⟨he, hk⟩ => ⟨he, (keep a b ha.1 hk hS).1, (keep a b ha.1 hk hS).2, below_then ha.2 hk⟩
    clear keep HLZ LX LY LZ H3 H4
    have HW3 : Hid (w3.heap.size ≤ w3.heap.size ∧ Below w.heap.size w w3) := ⟨Nat.le_refl _, B3.out⟩
    go_region_held3 (fun w' => w'.cell? ⟨w.heap.size, 0, none⟩ = some (.int .u8 F) ∧ w'.cell? ⟨w.heap.size, 1, none⟩ = some (.int .i32 b1) ∧ w'.cell? ⟨w.heap.size, 2, none⟩ = some (.int .i32 b2) ∧ w'.cell? ⟨w.heap.size, 3, none⟩ = some (.int .i32 b3) ∧ w'.cell? ⟨gy, 0, none⟩ = some (.int .u8 G) ∧ w'.cell? ⟨gy, 1, none⟩ = some (.int .i32 v0) ∧ w'.cell? ⟨gy, 2, none⟩ = some (.int .i32 v1) ∧ w'.cell? ⟨gy, 3, none⟩ = some (.int .i32 v2) ∧ w'.cell? ⟨gz, 0, none⟩ = some (.int .u8 G) ∧ w'.cell? ⟨gz, 1, none⟩ = some (.int .i32 v0) ∧ w'.cell? ⟨gz, 2, none⟩ = some (.int .i32 v1) ∧ w'.cell? ⟨gz, 3, none⟩ = some (.int .i32 v2)) (go_keep) (first | (go_at_call 31; (refine (H5.out _ (by first | exact HW3.out | exact ⟨HW3.out.1, HW3.out.2.drew⟩ | assumption) (by go_keep)).mono ?_); rintro e y1 ⟨rfl, ⟨k0, k1, k2, k3, k4, k5, k6, k7, k8, k9, k10, k11⟩, kb⟩) | (go_at_call 32; refine (H6.out _ (by first | exact HW3.out | assumption) (by go_keep)).mono ?_; rintro e y2 ⟨rfl, ⟨m0, m1, m2, m3, m4, m5, m6, m7, m8, m9, m10, m11⟩, mb⟩))
    go_wp2
    go_ret
    exact ⟨rfl, mb.2⟩
  · go_enter Try.func7, Try.ntmps7
    go_wp2_with fail
    refine (awake14_any _).mono ?_; rintro r wA ⟨rfl, hA⟩
    have B0 := Lib.hid (below_then ((Below.refl w.heap.size w).alloc (Nat.le_refl _) (.cells #[.int .u8 F, .int .i32 b1, .int .i32 b2, .int .i32 b3] 66)) hA); clear hA
    go_wp2_with fail
    go_ret
    exact ⟨rfl, B0.out⟩
end Go.Proofs.Ytmbifoockenniaa
