/-
  The walk of StampOrder.
-/
import Derived.Test.YtmbifoockenniaaDoorStQa
import Derived.Test.YtmbifoockenniaaDoorStO
import Derived.Deep.RegionHeld3
import Derived.Deep.RegionWith
import Derived.Deep.DrawnRows
namespace Go.Proofs.YtmbifoockenniaaDoor
set_option maxRecDepth 100000
set_option linter.unusedSimpArgs false
open Go.RowKit Go.Joins Go.Deep Go.Op
attribute [local go_sem ↓] Go.wp_at_zero Go.wp_at_succ
attribute [local irreducible] Pow txt


set_option maxHeartbeats 20000000 in
theorem order_1_0_23 (a0 a1 : Int) (hs : a1 < a0) (p0 p1 p2 p3 p4 p5 q0 q1 q2 q3 q4 q5 : Nat) (HO1 : OfIs a1 p0 p1 p2 p3 p4 p5 0) (HO2 : OfIs a0 q0 q1 q2 q3 q4 q5 23) (F : Int → Nat) (hF1 : ∀ t w, Calls Tryd.prog 17 #[.int .i64 t] w fun e w' => e = .returned (.int .u32 (F t : Nat)) ∧ Below w.heap.size w w') (hF2 : ∀ t t', t ≤ t' → F t ≤ F t') (w : World) (hp : Pow w) :
    Calls Tryd.prog 7 #[.int .i64 a0, .int .i64 a1] w fun e w' => e = .returned (.bool true) ∧ Below w.heap.size w w' := by
  have hlh : a1 ≤ a0 := by omega
  have H5 := Lib.hid (fun w => of_any HO1 w)
  have H6 := Lib.hid (fun w => of_any HO2 w)
  have hF := hF2 _ _ hlh
  have hFi : ((F a1 : Nat) : Int) ≤ (F a0 : Nat) := by omega
  have hFd : decide (((F a1 : Nat) : Int) ≤ (F a0 : Nat)) = true := decide_eq_true hFi
  have hb1 := HO1.bd
  have hb2 := HO2.bd
  have hbA : p0 < 10000 ∧ p1 < 100 ∧ p2 < 100 ∧ p3 < 100 ∧ p4 < 100 ∧ p5 < 100 := by omega
  have hbB : q0 < 10000 ∧ q1 < 100 ∧ q2 < 100 ∧ q3 < 100 ∧ q4 < 100 ∧ q5 < 100 := by omega
  clear HO1 HO2 hb1 hb2 hF2 hlh
  go_enter Tryd.func7, Tryd.ntmps7
  go_wp2_with fail
  refine (awake12_any _ hp).mono ?_; rintro e w0 ⟨rfl, hk⟩
  have HB0 := Lib.hid hk
  have hp0 := Lib.hid (hp.below hk)
  clear hk hp
  go_wp2_with fail
  refine (H5.out _).mono ?_; rintro e w1 ⟨rfl, hk⟩
  have hb1 := below_then HB0.out hk
  have hp1 := hp0.out.below hk
  have hb2 := hb1.alloc hb1.size (.cells #[.int .i64 (p0 : Nat), .int .i64 (p1 : Nat), .int .i64 (p2 : Nat), .int .i64 (p3 : Nat), .int .i64 (p4 : Nat), .int .i64 (p5 : Nat)] 23)
  have hx := heap_alloc_new w1 (.cells #[.int .i64 (p0 : Nat), .int .i64 (p1 : Nat), .int .i64 (p2 : Nat), .int .i64 (p3 : Nat), .int .i64 (p4 : Nat), .int .i64 (p5 : Nat)] 23)
  have hp2 := hp1.below ((Below.refl w1.heap.size w1).alloc (Nat.le_refl _) (.cells #[.int .i64 (p0 : Nat), .int .i64 (p1 : Nat), .int .i64 (p2 : Nat), .int .i64 (p3 : Nat), .int .i64 (p4 : Nat), .int .i64 (p5 : Nat)] 23))
  go_wp2_with fail
  generalize w1.alloc (.cells #[.int .i64 (p0 : Nat), .int .i64 (p1 : Nat), .int .i64 (p2 : Nat), .int .i64 (p3 : Nat), .int .i64 (p4 : Nat), .int .i64 (p5 : Nat)] 23) = wb at *
  generalize w1.heap.size = gx at *
  clear hk hb1 HB0 H5 hp1 hp0
  refine (H6.out _).mono ?_; rintro e w2 ⟨rfl, hk⟩
  have hb3 := below_then hb2 hk
  have hp3 := hp2.below hk
  have hb4 := hb3.alloc hb3.size (.cells #[.int .i64 (q0 : Nat), .int .i64 (q1 : Nat), .int .i64 (q2 : Nat), .int .i64 (q3 : Nat), .int .i64 (q4 : Nat), .int .i64 (q5 : Nat)] 23)
  have hy := heap_alloc_new w2 (.cells #[.int .i64 (q0 : Nat), .int .i64 (q1 : Nat), .int .i64 (q2 : Nat), .int .i64 (q3 : Nat), .int .i64 (q4 : Nat), .int .i64 (q5 : Nat)] 23)
  have hx2 := (hk.block _ (lt_of_heap hx)).trans hx
  have hx3 := (Below.heap_alloc w2 (.cells #[.int .i64 (q0 : Nat), .int .i64 (q1 : Nat), .int .i64 (q2 : Nat), .int .i64 (q3 : Nat), .int .i64 (q4 : Nat), .int .i64 (q5 : Nat)] 23) _ (lt_of_heap hx2)).trans hx2
  have hp4 := hp3.below ((Below.refl w2.heap.size w2).alloc (Nat.le_refl _) (.cells #[.int .i64 (q0 : Nat), .int .i64 (q1 : Nat), .int .i64 (q2 : Nat), .int .i64 (q3 : Nat), .int .i64 (q4 : Nat), .int .i64 (q5 : Nat)] 23))
  clear hx hx2 hb2 hb3 hk H6 hp2 hp3
  go_upto_region 7 with fail
  generalize w2.alloc (.cells #[.int .i64 (q0 : Nat), .int .i64 (q1 : Nat), .int .i64 (q2 : Nat), .int .i64 (q3 : Nat), .int .i64 (q4 : Nat), .int .i64 (q5 : Nat)] 23) = wc at *
  generalize w2.heap.size = gy at *
  have HI : (Below w.heap.size w wc ∧ (gx < wc.heap.size ∧ gy < wc.heap.size) ∧ Pow wc) := ⟨hb4, ⟨lt_of_heap hx3, lt_of_heap hy⟩, hp4⟩
  clear hx3 hy hb4 hp4
  have K1 : Hid (∀ (t : Int) (a : World), (Below w.heap.size w a ∧ (gx < a.heap.size ∧ gy < a.heap.size) ∧ Pow a) → Calls Tryd.prog 17 #[.int .i64 t] a fun e b => e = .returned (.int .u32 (F t : Nat)) ∧ (Below w.heap.size w b ∧ (gx < b.heap.size ∧ gy < b.heap.size) ∧ Pow b)) := fun t a ha => (hF1 t a).mono fun e b ⟨he, hk⟩ => ⟨he, below_then ha.1 hk, ⟨Nat.lt_of_lt_of_le ha.2.1.1 hk.size, Nat.lt_of_lt_of_le ha.2.1.2 hk.size⟩, ha.2.2.below hk⟩
  have DR : Hid (∀ a : World, (Below w.heap.size w a ∧ (gx < a.heap.size ∧ gy < a.heap.size) ∧ Pow a) → (Below w.heap.size w a.drew ∧ (gx < a.drew.heap.size ∧ gy < a.drew.heap.size) ∧ Pow a.drew)) := fun a ⟨h1, h2, h3⟩ => ⟨h1.drew, h2, h3.below (Below.refl _ a).drew⟩
  clear hF1
  refine wp_region_any (by kernel_rfl) ?_
  try (change wpAny _ _ _ _ _ _ _ (World.drew _))
  refine wpAny_take (i := 0) (v := ?_) rfl (by kernel_rfl) (by kernel_rfl) (by kernel_rfl) (fun _ _ _ h => h) (Or.inl ⟨by rfl, ?_⟩) ?_
  rotate_left
  · intro w; go_simp; try with_reducible rfl
  try simp only [Act.put, List.setIfInBounds_toArray, List.set_cons_zero, List.set_cons_succ, List.getElem_toArray, List.getElem_cons_succ, List.getElem_cons_zero]
  refine wpAny_take (i := 2) (v := ?_) rfl (by kernel_rfl) (by kernel_rfl) (by kernel_rfl) (fun _ _ _ h => h) (Or.inl ⟨by rfl, ?_⟩) ?_
  rotate_left
  · intro w; go_simp; try with_reducible rfl
  try simp only [Act.put, List.setIfInBounds_toArray, List.set_cons_zero, List.set_cons_succ, List.getElem_toArray, List.getElem_cons_succ, List.getElem_cons_zero]
  refine wpAny_ready (rs := [1]) (by kernel_rfl) (by simp) ?_
  refine AllReady.cons rfl (fun K hK => ?_) AllReady.nil
  go_simp
  refine (K1.out _ _ ?_).mono ?_
  · first | assumption | exact DR.out _ (by assumption)
  rintro e wy ⟨rfl, nb⟩
  go_wp2_with fail
  try simp only [Act.put, List.setIfInBounds_toArray, List.set_cons_zero, List.set_cons_succ, List.getElem_toArray, List.getElem_cons_succ, List.getElem_cons_zero]
  refine wpAny_ready (rs := [3]) (by kernel_rfl) (by simp) ?_
  refine AllReady.cons rfl (fun K hK => ?_) AllReady.nil
  go_simp
  refine (K1.out _ _ ?_).mono ?_
  · first | assumption | exact DR.out _ (by assumption)
  rintro e wy ⟨rfl, nb⟩
  go_wp2_with fail
  try simp only [Act.put, List.setIfInBounds_toArray, List.set_cons_zero, List.set_cons_succ, List.getElem_toArray, List.getElem_cons_succ, List.getElem_cons_zero]
  refine wpAny_take (i := 4) (v := ?_) rfl (by kernel_rfl) (by kernel_rfl) (by kernel_rfl) (fun _ _ _ h => h) (Or.inl ⟨by rfl, ?_⟩) ?_
  rotate_left
  · intro w; go_simp; try with_reducible rfl
  try simp only [Act.put, List.setIfInBounds_toArray, List.set_cons_zero, List.set_cons_succ, List.getElem_toArray, List.getElem_cons_succ, List.getElem_cons_zero]
  refine wpAny_take (i := 5) (v := ?_) rfl (by kernel_rfl) (by kernel_rfl) (by kernel_rfl) (fun _ _ _ h => h) (Or.inl ⟨by rfl, ?_⟩) ?_
  rotate_left
  · intro w; go_simp; try with_reducible rfl
  try simp only [Act.put, List.setIfInBounds_toArray, List.set_cons_zero, List.set_cons_succ, List.getElem_toArray, List.getElem_cons_succ, List.getElem_cons_zero]
  refine wpAny_take (i := 6) (v := ?_) rfl (by kernel_rfl) (by kernel_rfl) (by kernel_rfl) (fun _ _ _ h => h) (Or.inl ⟨by rfl, ?_⟩) ?_
  rotate_left
  · intro w; go_simp; try with_reducible rfl
  try simp only [Act.put, List.setIfInBounds_toArray, List.set_cons_zero, List.set_cons_succ, List.getElem_toArray, List.getElem_cons_succ, List.getElem_cons_zero]
  refine wpAny_take (i := 7) (v := ?_) rfl (by kernel_rfl) (by kernel_rfl) (by kernel_rfl) (fun _ _ _ h => h) (Or.inl ⟨by rfl, ?_⟩) ?_
  rotate_left
  · intro w; go_simp; try with_reducible rfl
  try simp only [Act.put, List.setIfInBounds_toArray, List.set_cons_zero, List.set_cons_succ, List.getElem_toArray, List.getElem_cons_succ, List.getElem_cons_zero]
  refine wpAny_take (i := 8) (v := ?_) rfl (by kernel_rfl) (by kernel_rfl) (by kernel_rfl) (fun _ _ _ h => h) (Or.inl ⟨by rfl, ?_⟩) ?_
  rotate_left
  · intro w; go_simp; try with_reducible rfl
  try simp only [Act.put, List.setIfInBounds_toArray, List.set_cons_zero, List.set_cons_succ, List.getElem_toArray, List.getElem_cons_succ, List.getElem_cons_zero]
  refine wpAny_take (i := 9) (v := ?_) rfl (by kernel_rfl) (by kernel_rfl) (by kernel_rfl) (fun _ _ _ h => h) (Or.inl ⟨by rfl, ?_⟩) ?_
  rotate_left
  · intro w; go_simp; try with_reducible rfl
  try simp only [Act.put, List.setIfInBounds_toArray, List.set_cons_zero, List.set_cons_succ, List.getElem_toArray, List.getElem_cons_succ, List.getElem_cons_zero]
  refine wpAny_take (i := 10) (v := ?_) rfl (by kernel_rfl) (by kernel_rfl) (by kernel_rfl) (fun _ _ _ h => h) (Or.inl ⟨by rfl, ?_⟩) ?_
  rotate_left
  · intro w; go_simp; try with_reducible rfl
  try simp only [Act.put, List.setIfInBounds_toArray, List.set_cons_zero, List.set_cons_succ, List.getElem_toArray, List.getElem_cons_succ, List.getElem_cons_zero]
  refine wpAny_take (i := 11) (v := ?_) rfl (by kernel_rfl) (by kernel_rfl) (by kernel_rfl) (fun _ _ _ h => h) (Or.inl ⟨by rfl, ?_⟩) ?_
  rotate_left
  · intro w; go_simp; try with_reducible rfl
  try simp only [Act.put, List.setIfInBounds_toArray, List.set_cons_zero, List.set_cons_succ, List.getElem_toArray, List.getElem_cons_succ, List.getElem_cons_zero]
  refine wpAny_take (i := 12) (v := ?_) rfl (by kernel_rfl) (by kernel_rfl) (by kernel_rfl) (fun _ _ _ h => h) (Or.inl ⟨by rfl, ?_⟩) ?_
  rotate_left
  · intro w; go_simp; try with_reducible rfl
  try simp only [Act.put, List.setIfInBounds_toArray, List.set_cons_zero, List.set_cons_succ, List.getElem_toArray, List.getElem_cons_succ, List.getElem_cons_zero]
  refine wpAny_take (i := 13) rfl (by kernel_rfl) (by kernel_rfl) (by kernel_rfl) (fun _ _ _ h => h) (Or.inr ⟨by rfl, rfl⟩) ?_
  try simp only [Act.put, List.setIfInBounds_toArray, List.set_cons_zero, List.set_cons_succ, List.getElem_toArray, List.getElem_cons_succ, List.getElem_cons_zero]
  refine wpAny_take (i := 14) rfl (by kernel_rfl) (by kernel_rfl) (by kernel_rfl) (fun _ _ _ h => h) (Or.inr ⟨by rfl, rfl⟩) ?_
  try simp only [Act.put, List.setIfInBounds_toArray, List.set_cons_zero, List.set_cons_succ, List.getElem_toArray, List.getElem_cons_succ, List.getElem_cons_zero]
  refine wpAny_take (i := 15) rfl (by kernel_rfl) (by kernel_rfl) (by kernel_rfl) (fun _ _ _ h => h) (Or.inr ⟨by rfl, rfl⟩) ?_
  try simp only [Act.put, List.setIfInBounds_toArray, List.set_cons_zero, List.set_cons_succ, List.getElem_toArray, List.getElem_cons_succ, List.getElem_cons_zero]
  refine wpAny_take (i := 16) rfl (by kernel_rfl) (by kernel_rfl) (by kernel_rfl) (fun _ _ _ h => h) (Or.inr ⟨by rfl, rfl⟩) ?_
  try simp only [Act.put, List.setIfInBounds_toArray, List.set_cons_zero, List.set_cons_succ, List.getElem_toArray, List.getElem_cons_succ, List.getElem_cons_zero]
  refine wpAny_take (i := 17) rfl (by kernel_rfl) (by kernel_rfl) (by kernel_rfl) (fun _ _ _ h => h) (Or.inr ⟨by rfl, rfl⟩) ?_
  try simp only [Act.put, List.setIfInBounds_toArray, List.set_cons_zero, List.set_cons_succ, List.getElem_toArray, List.getElem_cons_succ, List.getElem_cons_zero]
  refine wpAny_take (i := 18) (v := ?_) rfl (by kernel_rfl) (by kernel_rfl) (by kernel_rfl) (fun _ _ _ h => h) (Or.inl ⟨by rfl, ?_⟩) ?_
  rotate_left
  · intro w; go_simp; try with_reducible rfl
  try simp only [Act.put, List.setIfInBounds_toArray, List.set_cons_zero, List.set_cons_succ, List.getElem_toArray, List.getElem_cons_succ, List.getElem_cons_zero]
  refine wpAny_take (i := 19) (v := ?_) rfl (by kernel_rfl) (by kernel_rfl) (by kernel_rfl) (fun _ _ _ h => h) (Or.inl ⟨by rfl, ?_⟩) ?_
  rotate_left
  · intro w; go_simp; try with_reducible rfl
  try simp only [Act.put, List.setIfInBounds_toArray, List.set_cons_zero, List.set_cons_succ, List.getElem_toArray, List.getElem_cons_succ, List.getElem_cons_zero]
  refine wpAny_take (i := 20) (v := ?_) rfl (by kernel_rfl) (by kernel_rfl) (by kernel_rfl) (fun _ _ _ h => h) (Or.inl ⟨by rfl, ?_⟩) ?_
  rotate_left
  · intro w; go_simp; try with_reducible rfl
  try simp only [Act.put, List.setIfInBounds_toArray, List.set_cons_zero, List.set_cons_succ, List.getElem_toArray, List.getElem_cons_succ, List.getElem_cons_zero]
  refine wpAny_done (by kernel_rfl) ?_ _
  go_wp2
  go_ret
  exact ⟨rfl, nb.1⟩

set_option maxHeartbeats 20000000 in
theorem order_1_23_0 (a0 a1 : Int) (hs : a1 < a0) (p0 p1 p2 p3 p4 p5 q0 q1 q2 q3 q4 q5 : Nat) (HO1 : OfIs a1 p0 p1 p2 p3 p4 p5 23) (HO2 : OfIs a0 q0 q1 q2 q3 q4 q5 0) (F : Int → Nat) (hF1 : ∀ t w, Calls Tryd.prog 17 #[.int .i64 t] w fun e w' => e = .returned (.int .u32 (F t : Nat)) ∧ Below w.heap.size w w') (hF2 : ∀ t t', t ≤ t' → F t ≤ F t') (w : World) (hp : Pow w) :
    Calls Tryd.prog 7 #[.int .i64 a0, .int .i64 a1] w fun e w' => e = .returned (.bool true) ∧ Below w.heap.size w w' := by
  have hlh : a1 ≤ a0 := by omega
  have H5 := Lib.hid (fun w => of_any HO1 w)
  have H6 := Lib.hid (fun w => of_any HO2 w)
  have hF := hF2 _ _ hlh
  have hFi : ((F a1 : Nat) : Int) ≤ (F a0 : Nat) := by omega
  have hFd : decide (((F a1 : Nat) : Int) ≤ (F a0 : Nat)) = true := decide_eq_true hFi
  have hb1 := HO1.bd
  have hb2 := HO2.bd
  have hbA : p0 < 10000 ∧ p1 < 100 ∧ p2 < 100 ∧ p3 < 100 ∧ p4 < 100 ∧ p5 < 100 := by omega
  have hbB : q0 < 10000 ∧ q1 < 100 ∧ q2 < 100 ∧ q3 < 100 ∧ q4 < 100 ∧ q5 < 100 := by omega
  clear HO1 HO2 hb1 hb2 hF2 hlh
  go_enter Tryd.func7, Tryd.ntmps7
  go_wp2_with fail
  refine (awake12_any _ hp).mono ?_; rintro e w0 ⟨rfl, hk⟩
  have HB0 := Lib.hid hk
  have hp0 := Lib.hid (hp.below hk)
  clear hk hp
  go_wp2_with fail
  refine (H5.out _).mono ?_; rintro e w1 ⟨rfl, hk⟩
  have hb1 := below_then HB0.out hk
  have hp1 := hp0.out.below hk
  have hb2 := hb1.alloc hb1.size (.cells #[.int .i64 (p0 : Nat), .int .i64 (p1 : Nat), .int .i64 (p2 : Nat), .int .i64 (p3 : Nat), .int .i64 (p4 : Nat), .int .i64 (p5 : Nat)] 23)
  have hx := heap_alloc_new w1 (.cells #[.int .i64 (p0 : Nat), .int .i64 (p1 : Nat), .int .i64 (p2 : Nat), .int .i64 (p3 : Nat), .int .i64 (p4 : Nat), .int .i64 (p5 : Nat)] 23)
  have hp2 := hp1.below ((Below.refl w1.heap.size w1).alloc (Nat.le_refl _) (.cells #[.int .i64 (p0 : Nat), .int .i64 (p1 : Nat), .int .i64 (p2 : Nat), .int .i64 (p3 : Nat), .int .i64 (p4 : Nat), .int .i64 (p5 : Nat)] 23))
  go_wp2_with fail
  generalize w1.alloc (.cells #[.int .i64 (p0 : Nat), .int .i64 (p1 : Nat), .int .i64 (p2 : Nat), .int .i64 (p3 : Nat), .int .i64 (p4 : Nat), .int .i64 (p5 : Nat)] 23) = wb at *
  generalize w1.heap.size = gx at *
  clear hk hb1 HB0 H5 hp1 hp0
  refine (H6.out _).mono ?_; rintro e w2 ⟨rfl, hk⟩
  have hb3 := below_then hb2 hk
  have hp3 := hp2.below hk
  have hb4 := hb3.alloc hb3.size (.cells #[.int .i64 (q0 : Nat), .int .i64 (q1 : Nat), .int .i64 (q2 : Nat), .int .i64 (q3 : Nat), .int .i64 (q4 : Nat), .int .i64 (q5 : Nat)] 23)
  have hy := heap_alloc_new w2 (.cells #[.int .i64 (q0 : Nat), .int .i64 (q1 : Nat), .int .i64 (q2 : Nat), .int .i64 (q3 : Nat), .int .i64 (q4 : Nat), .int .i64 (q5 : Nat)] 23)
  have hx2 := (hk.block _ (lt_of_heap hx)).trans hx
  have hx3 := (Below.heap_alloc w2 (.cells #[.int .i64 (q0 : Nat), .int .i64 (q1 : Nat), .int .i64 (q2 : Nat), .int .i64 (q3 : Nat), .int .i64 (q4 : Nat), .int .i64 (q5 : Nat)] 23) _ (lt_of_heap hx2)).trans hx2
  have hp4 := hp3.below ((Below.refl w2.heap.size w2).alloc (Nat.le_refl _) (.cells #[.int .i64 (q0 : Nat), .int .i64 (q1 : Nat), .int .i64 (q2 : Nat), .int .i64 (q3 : Nat), .int .i64 (q4 : Nat), .int .i64 (q5 : Nat)] 23))
  clear hx hx2 hb2 hb3 hk H6 hp2 hp3
  go_upto_region 7 with fail
  generalize w2.alloc (.cells #[.int .i64 (q0 : Nat), .int .i64 (q1 : Nat), .int .i64 (q2 : Nat), .int .i64 (q3 : Nat), .int .i64 (q4 : Nat), .int .i64 (q5 : Nat)] 23) = wc at *
  generalize w2.heap.size = gy at *
  have HI : (Below w.heap.size w wc ∧ (gx < wc.heap.size ∧ gy < wc.heap.size) ∧ Pow wc) := ⟨hb4, ⟨lt_of_heap hx3, lt_of_heap hy⟩, hp4⟩
  clear hx3 hy hb4 hp4
  have K1 : Hid (∀ (t : Int) (a : World), (Below w.heap.size w a ∧ (gx < a.heap.size ∧ gy < a.heap.size) ∧ Pow a) → Calls Tryd.prog 17 #[.int .i64 t] a fun e b => e = .returned (.int .u32 (F t : Nat)) ∧ (Below w.heap.size w b ∧ (gx < b.heap.size ∧ gy < b.heap.size) ∧ Pow b)) := fun t a ha => (hF1 t a).mono fun e b ⟨he, hk⟩ => ⟨he, below_then ha.1 hk, ⟨Nat.lt_of_lt_of_le ha.2.1.1 hk.size, Nat.lt_of_lt_of_le ha.2.1.2 hk.size⟩, ha.2.2.below hk⟩
  have DR : Hid (∀ a : World, (Below w.heap.size w a ∧ (gx < a.heap.size ∧ gy < a.heap.size) ∧ Pow a) → (Below w.heap.size w a.drew ∧ (gx < a.drew.heap.size ∧ gy < a.drew.heap.size) ∧ Pow a.drew)) := fun a ⟨h1, h2, h3⟩ => ⟨h1.drew, h2, h3.below (Below.refl _ a).drew⟩
  clear hF1
  refine wp_region_any (by kernel_rfl) ?_
  try (change wpAny _ _ _ _ _ _ _ (World.drew _))
  refine wpAny_take (i := 0) (v := ?_) rfl (by kernel_rfl) (by kernel_rfl) (by kernel_rfl) (fun _ _ _ h => h) (Or.inl ⟨by rfl, ?_⟩) ?_
  rotate_left
  · intro w; go_simp; try with_reducible rfl
  try simp only [Act.put, List.setIfInBounds_toArray, List.set_cons_zero, List.set_cons_succ, List.getElem_toArray, List.getElem_cons_succ, List.getElem_cons_zero]
  refine wpAny_take (i := 2) (v := ?_) rfl (by kernel_rfl) (by kernel_rfl) (by kernel_rfl) (fun _ _ _ h => h) (Or.inl ⟨by rfl, ?_⟩) ?_
  rotate_left
  · intro w; go_simp; try with_reducible rfl
  try simp only [Act.put, List.setIfInBounds_toArray, List.set_cons_zero, List.set_cons_succ, List.getElem_toArray, List.getElem_cons_succ, List.getElem_cons_zero]
  refine wpAny_ready (rs := [1]) (by kernel_rfl) (by simp) ?_
  refine AllReady.cons rfl (fun K hK => ?_) AllReady.nil
  go_simp
  refine (K1.out _ _ ?_).mono ?_
  · first | assumption | exact DR.out _ (by assumption)
  rintro e wy ⟨rfl, nb⟩
  go_wp2_with fail
  try simp only [Act.put, List.setIfInBounds_toArray, List.set_cons_zero, List.set_cons_succ, List.getElem_toArray, List.getElem_cons_succ, List.getElem_cons_zero]
  refine wpAny_ready (rs := [3]) (by kernel_rfl) (by simp) ?_
  refine AllReady.cons rfl (fun K hK => ?_) AllReady.nil
  go_simp
  refine (K1.out _ _ ?_).mono ?_
  · first | assumption | exact DR.out _ (by assumption)
  rintro e wy ⟨rfl, nb⟩
  go_wp2_with fail
  try simp only [Act.put, List.setIfInBounds_toArray, List.set_cons_zero, List.set_cons_succ, List.getElem_toArray, List.getElem_cons_succ, List.getElem_cons_zero]
  refine wpAny_take (i := 4) (v := ?_) rfl (by kernel_rfl) (by kernel_rfl) (by kernel_rfl) (fun _ _ _ h => h) (Or.inl ⟨by rfl, ?_⟩) ?_
  rotate_left
  · intro w; go_simp; try with_reducible rfl
  try simp only [Act.put, List.setIfInBounds_toArray, List.set_cons_zero, List.set_cons_succ, List.getElem_toArray, List.getElem_cons_succ, List.getElem_cons_zero]
  refine wpAny_take (i := 5) (v := ?_) rfl (by kernel_rfl) (by kernel_rfl) (by kernel_rfl) (fun _ _ _ h => h) (Or.inl ⟨by rfl, ?_⟩) ?_
  rotate_left
  · intro w; go_simp; try with_reducible rfl
  try simp only [Act.put, List.setIfInBounds_toArray, List.set_cons_zero, List.set_cons_succ, List.getElem_toArray, List.getElem_cons_succ, List.getElem_cons_zero]
  refine wpAny_take (i := 6) (v := ?_) rfl (by kernel_rfl) (by kernel_rfl) (by kernel_rfl) (fun _ _ _ h => h) (Or.inl ⟨by rfl, ?_⟩) ?_
  rotate_left
  · intro w; go_simp; try with_reducible rfl
  try simp only [Act.put, List.setIfInBounds_toArray, List.set_cons_zero, List.set_cons_succ, List.getElem_toArray, List.getElem_cons_succ, List.getElem_cons_zero]
  refine wpAny_take (i := 7) (v := ?_) rfl (by kernel_rfl) (by kernel_rfl) (by kernel_rfl) (fun _ _ _ h => h) (Or.inl ⟨by rfl, ?_⟩) ?_
  rotate_left
  · intro w; go_simp; try with_reducible rfl
  try simp only [Act.put, List.setIfInBounds_toArray, List.set_cons_zero, List.set_cons_succ, List.getElem_toArray, List.getElem_cons_succ, List.getElem_cons_zero]
  refine wpAny_take (i := 8) (v := ?_) rfl (by kernel_rfl) (by kernel_rfl) (by kernel_rfl) (fun _ _ _ h => h) (Or.inl ⟨by rfl, ?_⟩) ?_
  rotate_left
  · intro w; go_simp; try with_reducible rfl
  try simp only [Act.put, List.setIfInBounds_toArray, List.set_cons_zero, List.set_cons_succ, List.getElem_toArray, List.getElem_cons_succ, List.getElem_cons_zero]
  refine wpAny_take (i := 9) rfl (by kernel_rfl) (by kernel_rfl) (by kernel_rfl) (fun _ _ _ h => h) (Or.inr ⟨by rfl, rfl⟩) ?_
  try simp only [Act.put, List.setIfInBounds_toArray, List.set_cons_zero, List.set_cons_succ, List.getElem_toArray, List.getElem_cons_succ, List.getElem_cons_zero]
  refine wpAny_take (i := 10) rfl (by kernel_rfl) (by kernel_rfl) (by kernel_rfl) (fun _ _ _ h => h) (Or.inr ⟨by rfl, rfl⟩) ?_
  try simp only [Act.put, List.setIfInBounds_toArray, List.set_cons_zero, List.set_cons_succ, List.getElem_toArray, List.getElem_cons_succ, List.getElem_cons_zero]
  refine wpAny_take (i := 11) (v := ?_) rfl (by kernel_rfl) (by kernel_rfl) (by kernel_rfl) (fun _ _ _ h => h) (Or.inl ⟨by rfl, ?_⟩) ?_
  rotate_left
  · intro w; go_simp; try with_reducible rfl
  try simp only [Act.put, List.setIfInBounds_toArray, List.set_cons_zero, List.set_cons_succ, List.getElem_toArray, List.getElem_cons_succ, List.getElem_cons_zero]
  refine wpAny_take (i := 12) (v := ?_) rfl (by kernel_rfl) (by kernel_rfl) (by kernel_rfl) (fun _ _ _ h => h) (Or.inl ⟨by rfl, ?_⟩) ?_
  rotate_left
  · intro w; go_simp; try with_reducible rfl
  try simp only [Act.put, List.setIfInBounds_toArray, List.set_cons_zero, List.set_cons_succ, List.getElem_toArray, List.getElem_cons_succ, List.getElem_cons_zero]
  refine wpAny_take (i := 13) rfl (by kernel_rfl) (by kernel_rfl) (by kernel_rfl) (fun _ _ _ h => h) (Or.inr ⟨by rfl, rfl⟩) ?_
  try simp only [Act.put, List.setIfInBounds_toArray, List.set_cons_zero, List.set_cons_succ, List.getElem_toArray, List.getElem_cons_succ, List.getElem_cons_zero]
  refine wpAny_take (i := 14) rfl (by kernel_rfl) (by kernel_rfl) (by kernel_rfl) (fun _ _ _ h => h) (Or.inr ⟨by rfl, rfl⟩) ?_
  try simp only [Act.put, List.setIfInBounds_toArray, List.set_cons_zero, List.set_cons_succ, List.getElem_toArray, List.getElem_cons_succ, List.getElem_cons_zero]
  refine wpAny_take (i := 15) rfl (by kernel_rfl) (by kernel_rfl) (by kernel_rfl) (fun _ _ _ h => h) (Or.inr ⟨by rfl, rfl⟩) ?_
  try simp only [Act.put, List.setIfInBounds_toArray, List.set_cons_zero, List.set_cons_succ, List.getElem_toArray, List.getElem_cons_succ, List.getElem_cons_zero]
  refine wpAny_take (i := 16) rfl (by kernel_rfl) (by kernel_rfl) (by kernel_rfl) (fun _ _ _ h => h) (Or.inr ⟨by rfl, rfl⟩) ?_
  try simp only [Act.put, List.setIfInBounds_toArray, List.set_cons_zero, List.set_cons_succ, List.getElem_toArray, List.getElem_cons_succ, List.getElem_cons_zero]
  refine wpAny_take (i := 17) rfl (by kernel_rfl) (by kernel_rfl) (by kernel_rfl) (fun _ _ _ h => h) (Or.inr ⟨by rfl, rfl⟩) ?_
  try simp only [Act.put, List.setIfInBounds_toArray, List.set_cons_zero, List.set_cons_succ, List.getElem_toArray, List.getElem_cons_succ, List.getElem_cons_zero]
  refine wpAny_take (i := 18) (v := ?_) rfl (by kernel_rfl) (by kernel_rfl) (by kernel_rfl) (fun _ _ _ h => h) (Or.inl ⟨by rfl, ?_⟩) ?_
  rotate_left
  · intro w; go_simp; try with_reducible rfl
  try simp only [Act.put, List.setIfInBounds_toArray, List.set_cons_zero, List.set_cons_succ, List.getElem_toArray, List.getElem_cons_succ, List.getElem_cons_zero]
  refine wpAny_take (i := 19) (v := ?_) rfl (by kernel_rfl) (by kernel_rfl) (by kernel_rfl) (fun _ _ _ h => h) (Or.inl ⟨by rfl, ?_⟩) ?_
  rotate_left
  · intro w; go_simp; try with_reducible rfl
  try simp only [Act.put, List.setIfInBounds_toArray, List.set_cons_zero, List.set_cons_succ, List.getElem_toArray, List.getElem_cons_succ, List.getElem_cons_zero]
  refine wpAny_take (i := 20) (v := ?_) rfl (by kernel_rfl) (by kernel_rfl) (by kernel_rfl) (fun _ _ _ h => h) (Or.inl ⟨by rfl, ?_⟩) ?_
  rotate_left
  · intro w; go_simp; try with_reducible rfl
  try simp only [Act.put, List.setIfInBounds_toArray, List.set_cons_zero, List.set_cons_succ, List.getElem_toArray, List.getElem_cons_succ, List.getElem_cons_zero]
  refine wpAny_done (by kernel_rfl) ?_ _
  go_wp2
  go_ret
  exact ⟨rfl, nb.1⟩

set_option maxHeartbeats 20000000 in
theorem order_1_23_23 (a0 a1 : Int) (hs : a1 < a0) (p0 p1 p2 p3 p4 p5 q0 q1 q2 q3 q4 q5 : Nat) (HO1 : OfIs a1 p0 p1 p2 p3 p4 p5 23) (HO2 : OfIs a0 q0 q1 q2 q3 q4 q5 23) (F : Int → Nat) (hF1 : ∀ t w, Calls Tryd.prog 17 #[.int .i64 t] w fun e w' => e = .returned (.int .u32 (F t : Nat)) ∧ Below w.heap.size w w') (hF2 : ∀ t t', t ≤ t' → F t ≤ F t') (w : World) (hp : Pow w) :
    Calls Tryd.prog 7 #[.int .i64 a0, .int .i64 a1] w fun e w' => e = .returned (.bool true) ∧ Below w.heap.size w w' := by
  have hlh : a1 ≤ a0 := by omega
  have H5 := Lib.hid (fun w => of_any HO1 w)
  have H6 := Lib.hid (fun w => of_any HO2 w)
  have hF := hF2 _ _ hlh
  have hFi : ((F a1 : Nat) : Int) ≤ (F a0 : Nat) := by omega
  have hFd : decide (((F a1 : Nat) : Int) ≤ (F a0 : Nat)) = true := decide_eq_true hFi
  have hb1 := HO1.bd
  have hb2 := HO2.bd
  have hbA : p0 < 10000 ∧ p1 < 100 ∧ p2 < 100 ∧ p3 < 100 ∧ p4 < 100 ∧ p5 < 100 := by omega
  have hbB : q0 < 10000 ∧ q1 < 100 ∧ q2 < 100 ∧ q3 < 100 ∧ q4 < 100 ∧ q5 < 100 := by omega
  clear HO1 HO2 hb1 hb2 hF2 hlh
  go_enter Tryd.func7, Tryd.ntmps7
  go_wp2_with fail
  refine (awake12_any _ hp).mono ?_; rintro e w0 ⟨rfl, hk⟩
  have HB0 := Lib.hid hk
  have hp0 := Lib.hid (hp.below hk)
  clear hk hp
  go_wp2_with fail
  refine (H5.out _).mono ?_; rintro e w1 ⟨rfl, hk⟩
  have hb1 := below_then HB0.out hk
  have hp1 := hp0.out.below hk
  have hb2 := hb1.alloc hb1.size (.cells #[.int .i64 (p0 : Nat), .int .i64 (p1 : Nat), .int .i64 (p2 : Nat), .int .i64 (p3 : Nat), .int .i64 (p4 : Nat), .int .i64 (p5 : Nat)] 23)
  have hx := heap_alloc_new w1 (.cells #[.int .i64 (p0 : Nat), .int .i64 (p1 : Nat), .int .i64 (p2 : Nat), .int .i64 (p3 : Nat), .int .i64 (p4 : Nat), .int .i64 (p5 : Nat)] 23)
  have hp2 := hp1.below ((Below.refl w1.heap.size w1).alloc (Nat.le_refl _) (.cells #[.int .i64 (p0 : Nat), .int .i64 (p1 : Nat), .int .i64 (p2 : Nat), .int .i64 (p3 : Nat), .int .i64 (p4 : Nat), .int .i64 (p5 : Nat)] 23))
  go_wp2_with fail
  generalize w1.alloc (.cells #[.int .i64 (p0 : Nat), .int .i64 (p1 : Nat), .int .i64 (p2 : Nat), .int .i64 (p3 : Nat), .int .i64 (p4 : Nat), .int .i64 (p5 : Nat)] 23) = wb at *
  generalize w1.heap.size = gx at *
  clear hk hb1 HB0 H5 hp1 hp0
  refine (H6.out _).mono ?_; rintro e w2 ⟨rfl, hk⟩
  have hb3 := below_then hb2 hk
  have hp3 := hp2.below hk
  have hb4 := hb3.alloc hb3.size (.cells #[.int .i64 (q0 : Nat), .int .i64 (q1 : Nat), .int .i64 (q2 : Nat), .int .i64 (q3 : Nat), .int .i64 (q4 : Nat), .int .i64 (q5 : Nat)] 23)
  have hy := heap_alloc_new w2 (.cells #[.int .i64 (q0 : Nat), .int .i64 (q1 : Nat), .int .i64 (q2 : Nat), .int .i64 (q3 : Nat), .int .i64 (q4 : Nat), .int .i64 (q5 : Nat)] 23)
  have hx2 := (hk.block _ (lt_of_heap hx)).trans hx
  have hx3 := (Below.heap_alloc w2 (.cells #[.int .i64 (q0 : Nat), .int .i64 (q1 : Nat), .int .i64 (q2 : Nat), .int .i64 (q3 : Nat), .int .i64 (q4 : Nat), .int .i64 (q5 : Nat)] 23) _ (lt_of_heap hx2)).trans hx2
  have hp4 := hp3.below ((Below.refl w2.heap.size w2).alloc (Nat.le_refl _) (.cells #[.int .i64 (q0 : Nat), .int .i64 (q1 : Nat), .int .i64 (q2 : Nat), .int .i64 (q3 : Nat), .int .i64 (q4 : Nat), .int .i64 (q5 : Nat)] 23))
  clear hx hx2 hb2 hb3 hk H6 hp2 hp3
  go_upto_region 7 with fail
  generalize w2.alloc (.cells #[.int .i64 (q0 : Nat), .int .i64 (q1 : Nat), .int .i64 (q2 : Nat), .int .i64 (q3 : Nat), .int .i64 (q4 : Nat), .int .i64 (q5 : Nat)] 23) = wc at *
  generalize w2.heap.size = gy at *
  have HI : (Below w.heap.size w wc ∧ (gx < wc.heap.size ∧ gy < wc.heap.size) ∧ Pow wc) := ⟨hb4, ⟨lt_of_heap hx3, lt_of_heap hy⟩, hp4⟩
  clear hx3 hy hb4 hp4
  have K1 : Hid (∀ (t : Int) (a : World), (Below w.heap.size w a ∧ (gx < a.heap.size ∧ gy < a.heap.size) ∧ Pow a) → Calls Tryd.prog 17 #[.int .i64 t] a fun e b => e = .returned (.int .u32 (F t : Nat)) ∧ (Below w.heap.size w b ∧ (gx < b.heap.size ∧ gy < b.heap.size) ∧ Pow b)) := fun t a ha => (hF1 t a).mono fun e b ⟨he, hk⟩ => ⟨he, below_then ha.1 hk, ⟨Nat.lt_of_lt_of_le ha.2.1.1 hk.size, Nat.lt_of_lt_of_le ha.2.1.2 hk.size⟩, ha.2.2.below hk⟩
  have DR : Hid (∀ a : World, (Below w.heap.size w a ∧ (gx < a.heap.size ∧ gy < a.heap.size) ∧ Pow a) → (Below w.heap.size w a.drew ∧ (gx < a.drew.heap.size ∧ gy < a.drew.heap.size) ∧ Pow a.drew)) := fun a ⟨h1, h2, h3⟩ => ⟨h1.drew, h2, h3.below (Below.refl _ a).drew⟩
  clear hF1
  refine wp_region_any (by kernel_rfl) ?_
  try (change wpAny _ _ _ _ _ _ _ (World.drew _))
  refine wpAny_take (i := 0) (v := ?_) rfl (by kernel_rfl) (by kernel_rfl) (by kernel_rfl) (fun _ _ _ h => h) (Or.inl ⟨by rfl, ?_⟩) ?_
  rotate_left
  · intro w; go_simp; try with_reducible rfl
  try simp only [Act.put, List.setIfInBounds_toArray, List.set_cons_zero, List.set_cons_succ, List.getElem_toArray, List.getElem_cons_succ, List.getElem_cons_zero]
  refine wpAny_take (i := 2) (v := ?_) rfl (by kernel_rfl) (by kernel_rfl) (by kernel_rfl) (fun _ _ _ h => h) (Or.inl ⟨by rfl, ?_⟩) ?_
  rotate_left
  · intro w; go_simp; try with_reducible rfl
  try simp only [Act.put, List.setIfInBounds_toArray, List.set_cons_zero, List.set_cons_succ, List.getElem_toArray, List.getElem_cons_succ, List.getElem_cons_zero]
  refine wpAny_ready (rs := [1]) (by kernel_rfl) (by simp) ?_
  refine AllReady.cons rfl (fun K hK => ?_) AllReady.nil
  go_simp
  refine (K1.out _ _ ?_).mono ?_
  · first | assumption | exact DR.out _ (by assumption)
  rintro e wy ⟨rfl, nb⟩
  go_wp2_with fail
  try simp only [Act.put, List.setIfInBounds_toArray, List.set_cons_zero, List.set_cons_succ, List.getElem_toArray, List.getElem_cons_succ, List.getElem_cons_zero]
  refine wpAny_ready (rs := [3]) (by kernel_rfl) (by simp) ?_
  refine AllReady.cons rfl (fun K hK => ?_) AllReady.nil
  go_simp
  refine (K1.out _ _ ?_).mono ?_
  · first | assumption | exact DR.out _ (by assumption)
  rintro e wy ⟨rfl, nb⟩
  go_wp2_with fail
  try simp only [Act.put, List.setIfInBounds_toArray, List.set_cons_zero, List.set_cons_succ, List.getElem_toArray, List.getElem_cons_succ, List.getElem_cons_zero]
  refine wpAny_take (i := 4) (v := ?_) rfl (by kernel_rfl) (by kernel_rfl) (by kernel_rfl) (fun _ _ _ h => h) (Or.inl ⟨by rfl, ?_⟩) ?_
  rotate_left
  · intro w; go_simp; try with_reducible rfl
  try simp only [Act.put, List.setIfInBounds_toArray, List.set_cons_zero, List.set_cons_succ, List.getElem_toArray, List.getElem_cons_succ, List.getElem_cons_zero]
  refine wpAny_take (i := 5) (v := ?_) rfl (by kernel_rfl) (by kernel_rfl) (by kernel_rfl) (fun _ _ _ h => h) (Or.inl ⟨by rfl, ?_⟩) ?_
  rotate_left
  · intro w; go_simp; try with_reducible rfl
  try simp only [Act.put, List.setIfInBounds_toArray, List.set_cons_zero, List.set_cons_succ, List.getElem_toArray, List.getElem_cons_succ, List.getElem_cons_zero]
  refine wpAny_take (i := 6) (v := ?_) rfl (by kernel_rfl) (by kernel_rfl) (by kernel_rfl) (fun _ _ _ h => h) (Or.inl ⟨by rfl, ?_⟩) ?_
  rotate_left
  · intro w; go_simp; try with_reducible rfl
  try simp only [Act.put, List.setIfInBounds_toArray, List.set_cons_zero, List.set_cons_succ, List.getElem_toArray, List.getElem_cons_succ, List.getElem_cons_zero]
  refine wpAny_take (i := 7) (v := ?_) rfl (by kernel_rfl) (by kernel_rfl) (by kernel_rfl) (fun _ _ _ h => h) (Or.inl ⟨by rfl, ?_⟩) ?_
  rotate_left
  · intro w; go_simp; try with_reducible rfl
  try simp only [Act.put, List.setIfInBounds_toArray, List.set_cons_zero, List.set_cons_succ, List.getElem_toArray, List.getElem_cons_succ, List.getElem_cons_zero]
  refine wpAny_take (i := 8) (v := ?_) rfl (by kernel_rfl) (by kernel_rfl) (by kernel_rfl) (fun _ _ _ h => h) (Or.inl ⟨by rfl, ?_⟩) ?_
  rotate_left
  · intro w; go_simp; try with_reducible rfl
  try simp only [Act.put, List.setIfInBounds_toArray, List.set_cons_zero, List.set_cons_succ, List.getElem_toArray, List.getElem_cons_succ, List.getElem_cons_zero]
  refine wpAny_take (i := 9) rfl (by kernel_rfl) (by kernel_rfl) (by kernel_rfl) (fun _ _ _ h => h) (Or.inr ⟨by rfl, rfl⟩) ?_
  try simp only [Act.put, List.setIfInBounds_toArray, List.set_cons_zero, List.set_cons_succ, List.getElem_toArray, List.getElem_cons_succ, List.getElem_cons_zero]
  refine wpAny_take (i := 10) rfl (by kernel_rfl) (by kernel_rfl) (by kernel_rfl) (fun _ _ _ h => h) (Or.inr ⟨by rfl, rfl⟩) ?_
  try simp only [Act.put, List.setIfInBounds_toArray, List.set_cons_zero, List.set_cons_succ, List.getElem_toArray, List.getElem_cons_succ, List.getElem_cons_zero]
  refine wpAny_take (i := 11) (v := ?_) rfl (by kernel_rfl) (by kernel_rfl) (by kernel_rfl) (fun _ _ _ h => h) (Or.inl ⟨by rfl, ?_⟩) ?_
  rotate_left
  · intro w; go_simp; try with_reducible rfl
  try simp only [Act.put, List.setIfInBounds_toArray, List.set_cons_zero, List.set_cons_succ, List.getElem_toArray, List.getElem_cons_succ, List.getElem_cons_zero]
  refine wpAny_take (i := 12) (v := ?_) rfl (by kernel_rfl) (by kernel_rfl) (by kernel_rfl) (fun _ _ _ h => h) (Or.inl ⟨by rfl, ?_⟩) ?_
  rotate_left
  · intro w; go_simp; try with_reducible rfl
  try simp only [Act.put, List.setIfInBounds_toArray, List.set_cons_zero, List.set_cons_succ, List.getElem_toArray, List.getElem_cons_succ, List.getElem_cons_zero]
  refine wpAny_take (i := 13) rfl (by kernel_rfl) (by kernel_rfl) (by kernel_rfl) (fun _ _ _ h => h) (Or.inr ⟨by rfl, rfl⟩) ?_
  try simp only [Act.put, List.setIfInBounds_toArray, List.set_cons_zero, List.set_cons_succ, List.getElem_toArray, List.getElem_cons_succ, List.getElem_cons_zero]
  refine wpAny_take (i := 14) rfl (by kernel_rfl) (by kernel_rfl) (by kernel_rfl) (fun _ _ _ h => h) (Or.inr ⟨by rfl, rfl⟩) ?_
  try simp only [Act.put, List.setIfInBounds_toArray, List.set_cons_zero, List.set_cons_succ, List.getElem_toArray, List.getElem_cons_succ, List.getElem_cons_zero]
  refine wpAny_take (i := 15) rfl (by kernel_rfl) (by kernel_rfl) (by kernel_rfl) (fun _ _ _ h => h) (Or.inr ⟨by rfl, rfl⟩) ?_
  try simp only [Act.put, List.setIfInBounds_toArray, List.set_cons_zero, List.set_cons_succ, List.getElem_toArray, List.getElem_cons_succ, List.getElem_cons_zero]
  refine wpAny_take (i := 16) rfl (by kernel_rfl) (by kernel_rfl) (by kernel_rfl) (fun _ _ _ h => h) (Or.inr ⟨by rfl, rfl⟩) ?_
  try simp only [Act.put, List.setIfInBounds_toArray, List.set_cons_zero, List.set_cons_succ, List.getElem_toArray, List.getElem_cons_succ, List.getElem_cons_zero]
  refine wpAny_take (i := 17) rfl (by kernel_rfl) (by kernel_rfl) (by kernel_rfl) (fun _ _ _ h => h) (Or.inr ⟨by rfl, rfl⟩) ?_
  try simp only [Act.put, List.setIfInBounds_toArray, List.set_cons_zero, List.set_cons_succ, List.getElem_toArray, List.getElem_cons_succ, List.getElem_cons_zero]
  refine wpAny_take (i := 18) (v := ?_) rfl (by kernel_rfl) (by kernel_rfl) (by kernel_rfl) (fun _ _ _ h => h) (Or.inl ⟨by rfl, ?_⟩) ?_
  rotate_left
  · intro w; go_simp; try with_reducible rfl
  try simp only [Act.put, List.setIfInBounds_toArray, List.set_cons_zero, List.set_cons_succ, List.getElem_toArray, List.getElem_cons_succ, List.getElem_cons_zero]
  refine wpAny_take (i := 19) (v := ?_) rfl (by kernel_rfl) (by kernel_rfl) (by kernel_rfl) (fun _ _ _ h => h) (Or.inl ⟨by rfl, ?_⟩) ?_
  rotate_left
  · intro w; go_simp; try with_reducible rfl
  try simp only [Act.put, List.setIfInBounds_toArray, List.set_cons_zero, List.set_cons_succ, List.getElem_toArray, List.getElem_cons_succ, List.getElem_cons_zero]
  refine wpAny_take (i := 20) (v := ?_) rfl (by kernel_rfl) (by kernel_rfl) (by kernel_rfl) (fun _ _ _ h => h) (Or.inl ⟨by rfl, ?_⟩) ?_
  rotate_left
  · intro w; go_simp; try with_reducible rfl
  try simp only [Act.put, List.setIfInBounds_toArray, List.set_cons_zero, List.set_cons_succ, List.getElem_toArray, List.getElem_cons_succ, List.getElem_cons_zero]
  refine wpAny_done (by kernel_rfl) ?_ _
  go_wp2
  go_ret
  exact ⟨rfl, nb.1⟩
end Go.Proofs.YtmbifoockenniaaDoor
