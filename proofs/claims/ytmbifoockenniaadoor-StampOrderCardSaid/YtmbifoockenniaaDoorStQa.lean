/-
  The walk of StampOrder.
-/
import Derived.Test.YtmbifoockenniaaDoorStP
import Derived.Test.YtmbifoockenniaaDoorStO
import Derived.Deep.RegionHeld3
import Derived.Deep.RegionWith
import Derived.Deep.DrawnRows
namespace Go.Proofs.YtmbifoockenniaaDoor
set_option maxRecDepth 100000
set_option linter.unusedSimpArgs false
open Go.RowKit Go.Joins Go.Deep Go.Op
attribute [local go_sem ↓] Go.wp_at_zero Go.wp_at_succ
attribute [local irreducible] Pow txt

theorem OfIs.err {t : Int} {y m d h mi s z : Nat} (H : OfIs t y m d h mi s z) : z = 0 ∨ z = 23 := by
  cases H
  · exact .inl rfl
  · exact .inr rfl

set_option maxHeartbeats 20000000 in
theorem order_0_0_0 (a0 a1 : Int) (hs : ¬ a1 < a0) (p0 p1 p2 p3 p4 p5 q0 q1 q2 q3 q4 q5 : Nat) (HO1 : OfIs a0 p0 p1 p2 p3 p4 p5 0) (HO2 : OfIs a1 q0 q1 q2 q3 q4 q5 0) (F : Int → Nat) (hF1 : ∀ t w, Calls Tryd.prog 17 #[.int .i64 t] w fun e w' => e = .returned (.int .u32 (F t : Nat)) ∧ Below w.heap.size w w') (hF2 : ∀ t t', t ≤ t' → F t ≤ F t') (w : World) (hp : Pow w) :
    Calls Tryd.prog 7 #[.int .i64 a0, .int .i64 a1] w fun e w' => e = .returned (.bool true) ∧ Below w.heap.size w w' := by
  have hlh : a0 ≤ a1 := by omega
  have H5 := Lib.hid (fun w => of_any HO1 w)
  have H6 := Lib.hid (fun w => of_any HO2 w)
  have hle := of_txt_le HO1 HO2 hlh
  have hF := hF2 _ _ hlh
  have hFi : ((F a0 : Nat) : Int) ≤ (F a1 : Nat) := by omega
  have hFd : decide (((F a0 : Nat) : Int) ≤ (F a1 : Nat)) = true := decide_eq_true hFi
  have hb1 := HO1.bd
  have hb2 := HO2.bd
  have hbA : p0 < 10000 ∧ p1 < 100 ∧ p2 < 100 ∧ p3 < 100 ∧ p4 < 100 ∧ p5 < 100 := by omega
  have hbB : q0 < 10000 ∧ q1 < 100 ∧ q2 < 100 ∧ q3 < 100 ∧ q4 < 100 ∧ q5 < 100 := by omega
  clear HO1 HO2 hb1 hb2 hF2 hlh
  go_enter Tryd.func7, Tryd.ntmps7
  go_wp2_with fail
  refine (awake12_any _ hp).mono ?_; rintro e w0 ⟨rfl, hk⟩
  have HB0 := Lib.hid hk
  have hp0 := Lib.hid (hp.below hk)
  clear hk hp
  go_wp2_with fail
  refine (H5.out _).mono ?_; rintro e w1 ⟨rfl, hk⟩
  have hb1 := below_then HB0.out hk
  have hp1 := hp0.out.below hk
  have hb2 := hb1.alloc hb1.size (.cells #[.int .i64 (p0 : Nat), .int .i64 (p1 : Nat), .int .i64 (p2 : Nat), .int .i64 (p3 : Nat), .int .i64 (p4 : Nat), .int .i64 (p5 : Nat)] 23)
  have hx := heap_alloc_new w1 (.cells #[.int .i64 (p0 : Nat), .int .i64 (p1 : Nat), .int .i64 (p2 : Nat), .int .i64 (p3 : Nat), .int .i64 (p4 : Nat), .int .i64 (p5 : Nat)] 23)
  have hp2 := hp1.below ((Below.refl w1.heap.size w1).alloc (Nat.le_refl _) (.cells #[.int .i64 (p0 : Nat), .int .i64 (p1 : Nat), .int .i64 (p2 : Nat), .int .i64 (p3 : Nat), .int .i64 (p4 : Nat), .int .i64 (p5 : Nat)] 23))
  go_wp2_with fail
  generalize w1.alloc (.cells #[.int .i64 (p0 : Nat), .int .i64 (p1 : Nat), .int .i64 (p2 : Nat), .int .i64 (p3 : Nat), .int .i64 (p4 : Nat), .int .i64 (p5 : Nat)] 23) = wb at *
  generalize w1.heap.size = gx at *
  clear hk hb1 HB0 H5 hp1 hp0
  refine (H6.out _).mono ?_; rintro e w2 ⟨rfl, hk⟩
  have hb3 := below_then hb2 hk
  have hp3 := hp2.below hk
  have hb4 := hb3.alloc hb3.size (.cells #[.int .i64 (q0 : Nat), .int .i64 (q1 : Nat), .int .i64 (q2 : Nat), .int .i64 (q3 : Nat), .int .i64 (q4 : Nat), .int .i64 (q5 : Nat)] 23)
  have hy := heap_alloc_new w2 (.cells #[.int .i64 (q0 : Nat), .int .i64 (q1 : Nat), .int .i64 (q2 : Nat), .int .i64 (q3 : Nat), .int .i64 (q4 : Nat), .int .i64 (q5 : Nat)] 23)
  have hx2 := (hk.block _ (lt_of_heap hx)).trans hx
  have hx3 := (Below.heap_alloc w2 (.cells #[.int .i64 (q0 : Nat), .int .i64 (q1 : Nat), .int .i64 (q2 : Nat), .int .i64 (q3 : Nat), .int .i64 (q4 : Nat), .int .i64 (q5 : Nat)] 23) _ (lt_of_heap hx2)).trans hx2
  have hp4 := hp3.below ((Below.refl w2.heap.size w2).alloc (Nat.le_refl _) (.cells #[.int .i64 (q0 : Nat), .int .i64 (q1 : Nat), .int .i64 (q2 : Nat), .int .i64 (q3 : Nat), .int .i64 (q4 : Nat), .int .i64 (q5 : Nat)] 23))
  clear hx hx2 hb2 hb3 hk H6 hp2 hp3
  go_upto_region 7 with fail
  generalize w2.alloc (.cells #[.int .i64 (q0 : Nat), .int .i64 (q1 : Nat), .int .i64 (q2 : Nat), .int .i64 (q3 : Nat), .int .i64 (q4 : Nat), .int .i64 (q5 : Nat)] 23) = wc at *
  generalize w2.heap.size = gy at *
  obtain ⟨x0, x1, x2, x3, x4, x5⟩ := cells6 hx3
  obtain ⟨y0, y1, y2, y3, y4, y5⟩ := cells6 hy
  have HI : (Below w.heap.size w wc ∧ (gx < wc.heap.size ∧ gy < wc.heap.size) ∧ Pow wc) := ⟨hb4, ⟨lt_of_heap hx3, lt_of_heap hy⟩, hp4⟩
  clear hx3 hy hb4 hp4
  have keep : ∀ a b : World, (Below w.heap.size w a ∧ (gx < a.heap.size ∧ gy < a.heap.size) ∧ Pow a) → Below a.heap.size a b → (a.cell? ⟨gx, 0, none⟩ = some (.int .i64 (p0 : Nat)) ∧ a.cell? ⟨gx, 1, none⟩ = some (.int .i64 (p1 : Nat)) ∧ a.cell? ⟨gx, 2, none⟩ = some (.int .i64 (p2 : Nat)) ∧ a.cell? ⟨gx, 3, none⟩ = some (.int .i64 (p3 : Nat)) ∧ a.cell? ⟨gx, 4, none⟩ = some (.int .i64 (p4 : Nat)) ∧ a.cell? ⟨gx, 5, none⟩ = some (.int .i64 (p5 : Nat)) ∧ a.cell? ⟨gy, 0, none⟩ = some (.int .i64 (q0 : Nat)) ∧ a.cell? ⟨gy, 1, none⟩ = some (.int .i64 (q1 : Nat)) ∧ a.cell? ⟨gy, 2, none⟩ = some (.int .i64 (q2 : Nat)) ∧ a.cell? ⟨gy, 3, none⟩ = some (.int .i64 (q3 : Nat)) ∧ a.cell? ⟨gy, 4, none⟩ = some (.int .i64 (q4 : Nat)) ∧ a.cell? ⟨gy, 5, none⟩ = some (.int .i64 (q5 : Nat))) → (b.cell? ⟨gx, 0, none⟩ = some (.int .i64 (p0 : Nat)) ∧ b.cell? ⟨gx, 1, none⟩ = some (.int .i64 (p1 : Nat)) ∧ b.cell? ⟨gx, 2, none⟩ = some (.int .i64 (p2 : Nat)) ∧ b.cell? ⟨gx, 3, none⟩ = some (.int .i64 (p3 : Nat)) ∧ b.cell? ⟨gx, 4, none⟩ = some (.int .i64 (p4 : Nat)) ∧ b.cell? ⟨gx, 5, none⟩ = some (.int .i64 (p5 : Nat)) ∧ b.cell? ⟨gy, 0, none⟩ = some (.int .i64 (q0 : Nat)) ∧ b.cell? ⟨gy, 1, none⟩ = some (.int .i64 (q1 : Nat)) ∧ b.cell? ⟨gy, 2, none⟩ = some (.int .i64 (q2 : Nat)) ∧ b.cell? ⟨gy, 3, none⟩ = some (.int .i64 (q3 : Nat)) ∧ b.cell? ⟨gy, 4, none⟩ = some (.int .i64 (q4 : Nat)) ∧ b.cell? ⟨gy, 5, none⟩ = some (.int .i64 (q5 : Nat))) ∧ (Below w.heap.size w b ∧ (gx < b.heap.size ∧ gy < b.heap.size) ∧ Pow b) := by
    intro a b ⟨ha, hl, hpa⟩ hk ⟨k0, k1, k2, k3, k4, k5, k6, k7, k8, k9, k10, k11⟩
    have m : ∀ {g : Nat} (i : Nat) (v : Value), g < a.heap.size → a.cell? ⟨g, i, none⟩ = some v → b.cell? ⟨g, i, none⟩ = some v := fun i v hl h => (hk.cell (p := ⟨_, i, none⟩) hl).trans h
    exact ⟨⟨m _ _ hl.1 k0, m _ _ hl.1 k1, m _ _ hl.1 k2, m _ _ hl.1 k3, m _ _ hl.1 k4, m _ _ hl.1 k5, m _ _ hl.2 k6, m _ _ hl.2 k7, m _ _ hl.2 k8, m _ _ hl.2 k9, m _ _ hl.2 k10, m _ _ hl.2 k11⟩, below_then ha hk, ⟨Nat.lt_of_lt_of_le hl.1 hk.size, Nat.lt_of_lt_of_le hl.2 hk.size⟩, hpa.below hk⟩
  have K1 : Hid (∀ (t : Int) (a : World), (Below w.heap.size w a ∧ (gx < a.heap.size ∧ gy < a.heap.size) ∧ Pow a) → (a.cell? ⟨gx, 0, none⟩ = some (.int .i64 (p0 : Nat)) ∧ a.cell? ⟨gx, 1, none⟩ = some (.int .i64 (p1 : Nat)) ∧ a.cell? ⟨gx, 2, none⟩ = some (.int .i64 (p2 : Nat)) ∧ a.cell? ⟨gx, 3, none⟩ = some (.int .i64 (p3 : Nat)) ∧ a.cell? ⟨gx, 4, none⟩ = some (.int .i64 (p4 : Nat)) ∧ a.cell? ⟨gx, 5, none⟩ = some (.int .i64 (p5 : Nat)) ∧ a.cell? ⟨gy, 0, none⟩ = some (.int .i64 (q0 : Nat)) ∧ a.cell? ⟨gy, 1, none⟩ = some (.int .i64 (q1 : Nat)) ∧ a.cell? ⟨gy, 2, none⟩ = some (.int .i64 (q2 : Nat)) ∧ a.cell? ⟨gy, 3, none⟩ = some (.int .i64 (q3 : Nat)) ∧ a.cell? ⟨gy, 4, none⟩ = some (.int .i64 (q4 : Nat)) ∧ a.cell? ⟨gy, 5, none⟩ = some (.int .i64 (q5 : Nat))) → Calls Tryd.prog 17 #[.int .i64 t] a fun e b => e = .returned (.int .u32 (F t : Nat)) ∧ (b.cell? ⟨gx, 0, none⟩ = some (.int .i64 (p0 : Nat)) ∧ b.cell? ⟨gx, 1, none⟩ = some (.int .i64 (p1 : Nat)) ∧ b.cell? ⟨gx, 2, none⟩ = some (.int .i64 (p2 : Nat)) ∧ b.cell? ⟨gx, 3, none⟩ = some (.int .i64 (p3 : Nat)) ∧ b.cell? ⟨gx, 4, none⟩ = some (.int .i64 (p4 : Nat)) ∧ b.cell? ⟨gx, 5, none⟩ = some (.int .i64 (p5 : Nat)) ∧ b.cell? ⟨gy, 0, none⟩ = some (.int .i64 (q0 : Nat)) ∧ b.cell? ⟨gy, 1, none⟩ = some (.int .i64 (q1 : Nat)) ∧ b.cell? ⟨gy, 2, none⟩ = some (.int .i64 (q2 : Nat)) ∧ b.cell? ⟨gy, 3, none⟩ = some (.int .i64 (q3 : Nat)) ∧ b.cell? ⟨gy, 4, none⟩ = some (.int .i64 (q4 : Nat)) ∧ b.cell? ⟨gy, 5, none⟩ = some (.int .i64 (q5 : Nat))) ∧ (Below w.heap.size w b ∧ (gx < b.heap.size ∧ gy < b.heap.size) ∧ Pow b)) := fun t a ha hS => (hF1 t a).mono fun e b ⟨he, hk⟩ => ⟨he, keep a b ha hk hS⟩
  have K2 : Hid (∀ (y m d h mi s : Nat) (a : World), (y < 10000 ∧ m < 100 ∧ d < 100 ∧ h < 100 ∧ mi < 100 ∧ s < 100) → (Below w.heap.size w a ∧ (gx < a.heap.size ∧ gy < a.heap.size) ∧ Pow a) → (a.cell? ⟨gx, 0, none⟩ = some (.int .i64 (p0 : Nat)) ∧ a.cell? ⟨gx, 1, none⟩ = some (.int .i64 (p1 : Nat)) ∧ a.cell? ⟨gx, 2, none⟩ = some (.int .i64 (p2 : Nat)) ∧ a.cell? ⟨gx, 3, none⟩ = some (.int .i64 (p3 : Nat)) ∧ a.cell? ⟨gx, 4, none⟩ = some (.int .i64 (p4 : Nat)) ∧ a.cell? ⟨gx, 5, none⟩ = some (.int .i64 (p5 : Nat)) ∧ a.cell? ⟨gy, 0, none⟩ = some (.int .i64 (q0 : Nat)) ∧ a.cell? ⟨gy, 1, none⟩ = some (.int .i64 (q1 : Nat)) ∧ a.cell? ⟨gy, 2, none⟩ = some (.int .i64 (q2 : Nat)) ∧ a.cell? ⟨gy, 3, none⟩ = some (.int .i64 (q3 : Nat)) ∧ a.cell? ⟨gy, 4, none⟩ = some (.int .i64 (q4 : Nat)) ∧ a.cell? ⟨gy, 5, none⟩ = some (.int .i64 (q5 : Nat))) → Calls Tryd.prog 20 #[.agg #[.int .i64 (y : Nat), .int .i64 (m : Nat), .int .i64 (d : Nat), .int .i64 (h : Nat), .int .i64 (mi : Nat), .int .i64 (s : Nat)]] a fun e b => e = .returned (.string (txt y m d h mi s)) ∧ (b.cell? ⟨gx, 0, none⟩ = some (.int .i64 (p0 : Nat)) ∧ b.cell? ⟨gx, 1, none⟩ = some (.int .i64 (p1 : Nat)) ∧ b.cell? ⟨gx, 2, none⟩ = some (.int .i64 (p2 : Nat)) ∧ b.cell? ⟨gx, 3, none⟩ = some (.int .i64 (p3 : Nat)) ∧ b.cell? ⟨gx, 4, none⟩ = some (.int .i64 (p4 : Nat)) ∧ b.cell? ⟨gx, 5, none⟩ = some (.int .i64 (p5 : Nat)) ∧ b.cell? ⟨gy, 0, none⟩ = some (.int .i64 (q0 : Nat)) ∧ b.cell? ⟨gy, 1, none⟩ = some (.int .i64 (q1 : Nat)) ∧ b.cell? ⟨gy, 2, none⟩ = some (.int .i64 (q2 : Nat)) ∧ b.cell? ⟨gy, 3, none⟩ = some (.int .i64 (q3 : Nat)) ∧ b.cell? ⟨gy, 4, none⟩ = some (.int .i64 (q4 : Nat)) ∧ b.cell? ⟨gy, 5, none⟩ = some (.int .i64 (q5 : Nat))) ∧ (Below w.heap.size w b ∧ (gx < b.heap.size ∧ gy < b.heap.size) ∧ Pow b)) := fun y m d h mi s a hn ha hS => (text_any y m d h mi s hn.1 hn.2.1 hn.2.2.1 hn.2.2.2.1 hn.2.2.2.2.1 hn.2.2.2.2.2 a ha.2.2).mono fun e b ⟨he, hk⟩ => ⟨he, keep a b ha hk hS⟩
  have DR : Hid (∀ a : World, (Below w.heap.size w a ∧ (gx < a.heap.size ∧ gy < a.heap.size) ∧ Pow a) → (Below w.heap.size w a.drew ∧ (gx < a.drew.heap.size ∧ gy < a.drew.heap.size) ∧ Pow a.drew)) := fun a ⟨h1, h2, h3⟩ => ⟨h1.drew, h2, h3.below (Below.refl _ a).drew⟩
  clear keep hF1
  go_region_held3 (fun w' => w'.cell? ⟨gx, 0, none⟩ = some (.int .i64 (p0 : Nat)) ∧ w'.cell? ⟨gx, 1, none⟩ = some (.int .i64 (p1 : Nat)) ∧ w'.cell? ⟨gx, 2, none⟩ = some (.int .i64 (p2 : Nat)) ∧ w'.cell? ⟨gx, 3, none⟩ = some (.int .i64 (p3 : Nat)) ∧ w'.cell? ⟨gx, 4, none⟩ = some (.int .i64 (p4 : Nat)) ∧ w'.cell? ⟨gx, 5, none⟩ = some (.int .i64 (p5 : Nat)) ∧ w'.cell? ⟨gy, 0, none⟩ = some (.int .i64 (q0 : Nat)) ∧ w'.cell? ⟨gy, 1, none⟩ = some (.int .i64 (q1 : Nat)) ∧ w'.cell? ⟨gy, 2, none⟩ = some (.int .i64 (q2 : Nat)) ∧ w'.cell? ⟨gy, 3, none⟩ = some (.int .i64 (q3 : Nat)) ∧ w'.cell? ⟨gy, 4, none⟩ = some (.int .i64 (q4 : Nat)) ∧ w'.cell? ⟨gy, 5, none⟩ = some (.int .i64 (q5 : Nat))) (go_keep) (first | (go_at_call 17; (refine (K1.out _ _ (by first | assumption | exact DR.out _ (by assumption)) (by go_keep)).mono ?_); rintro e wy ⟨rfl, ⟨n0, n1, n2, n3, n4, n5, n6, n7, n8, n9, n10, n11⟩, nb⟩) | (go_at_call 20; (refine (K2.out _ _ _ _ _ _ _ (by assumption) (by first | assumption | exact DR.out _ (by assumption)) (by go_keep)).mono ?_); rintro e wy ⟨rfl, ⟨n0, n1, n2, n3, n4, n5, n6, n7, n8, n9, n10, n11⟩, nb⟩))
  go_wp2
  go_ret
  exact ⟨rfl, nb.1⟩
end Go.Proofs.YtmbifoockenniaaDoor
