/-
  Contracts: the document's Seconds.
-/
import Derived.Test.YtmbifoockenniaaDoorStF
import Derived.Deep.RegionHeld3
import Derived.Deep.DrawnRows
namespace Go.Proofs.YtmbifoockenniaaDoor
set_option maxRecDepth 100000
open Go.RowKit Go.Joins Go.Deep
attribute [local go_sem ↓] Go.wp_at_zero Go.wp_at_succ

theorem rlong_int (Y M : Int) (hY : 1 ≤ Y ∧ Y ≤ 9999) (hM : 1 ≤ M ∧ M ≤ 12) (w : World) :
    Calls Tryd.prog 37 #[.int .i64 Y, .int .i64 M] w fun e w' => e = .returned (.int .i64 (ml Y.toNat M.toNat : Nat)) ∧ Below w.heap.size w w' := by
  obtain ⟨y, rfl⟩ := Int.eq_ofNat_of_zero_le (show 0 ≤ Y by omega)
  obtain ⟨m, rfl⟩ := Int.eq_ofNat_of_zero_le (show 0 ≤ M by omega)
  exact rlong_any y m (by omega) (by omega) (by omega) w

/-- The front, where year or month or day are not in their bounds. -/
theorem rsec_front (Y M D h mi s : Int) (hr : (Y < 1 ∨ 9999 < Y) ∨ (M < 1 ∨ 12 < M) ∨ D < 1) (w : World) :
    Calls Tryd.prog 14 #[.agg #[.int .i64 Y, .int .i64 M, .int .i64 D, .int .i64 h, .int .i64 mi, .int .i64 s]] w fun e w' => e = .returned (.tuple #[.int .i64 0, .int .i64 23]) ∧ Below w.heap.size w w' := by
  have HB := Lib.hid ((Below.refl w.heap.size w).alloc (Nat.le_refl _) (.cells #[.int .i64 Y, .int .i64 M, .int .i64 D, .int .i64 h, .int .i64 mi, .int .i64 s] 28))
  by_cases c0 : Y < 1
  case pos =>
    have d0 : decide (Y < 1) = true := decide_eq_true c0
    clear hr
    go_enter Tryd.func14, Tryd.ntmps14
    go_wp2_with fail
    go_quiet (fail)
    go_wp2_with fail
    go_ret2
    exact ⟨rfl, below_drewN HB.out _⟩
  have d0 : decide (Y < 1) = false := decide_eq_false c0
  by_cases c1 : 9999 < Y
  case pos =>
    have d1 : decide (9999 < Y) = true := decide_eq_true c1
    clear hr
    go_enter Tryd.func14, Tryd.ntmps14
    go_wp2_with fail
    go_quiet (fail)
    go_wp2_with fail
    go_ret2
    exact ⟨rfl, below_drewN HB.out _⟩
  have d1 : decide (9999 < Y) = false := decide_eq_false c1
  by_cases c2 : M < 1
  case pos =>
    have d2 : decide (M < 1) = true := decide_eq_true c2
    clear hr
    go_enter Tryd.func14, Tryd.ntmps14
    go_wp2_with fail
    go_quiet (fail)
    go_wp2_with fail
    go_ret2
    exact ⟨rfl, below_drewN HB.out _⟩
  have d2 : decide (M < 1) = false := decide_eq_false c2
  by_cases c3 : 12 < M
  case pos =>
    have d3 : decide (12 < M) = true := decide_eq_true c3
    clear hr
    go_enter Tryd.func14, Tryd.ntmps14
    go_wp2_with fail
    go_quiet (fail)
    go_wp2_with fail
    go_ret2
    exact ⟨rfl, below_drewN HB.out _⟩
  have d3 : decide (12 < M) = false := decide_eq_false c3
  by_cases c4 : D < 1
  case pos =>
    have d4 : decide (D < 1) = true := decide_eq_true c4
    clear hr
    go_enter Tryd.func14, Tryd.ntmps14
    go_wp2_with fail
    go_quiet (fail)
    go_wp2_with fail
    go_ret2
    exact ⟨rfl, below_drewN HB.out _⟩
  have d4 : decide (D < 1) = false := decide_eq_false c4
  omega

set_option maxHeartbeats 2000000 in
/-- What is behind the front. -/
theorem rsec_mid (y m : Nat) (D h mi s : Int) (V : Value) (y1 : 1 ≤ y) (y2 : y ≤ 9999) (m1 : 1 ≤ m) (m2 : m ≤ 12) (hD : 1 ≤ D)
    (hV1 : (D ≤ (ml y m : Nat) ∧ (0 ≤ h ∧ h ≤ 23) ∧ (0 ≤ mi ∧ mi ≤ 59) ∧ (0 ≤ s ∧ s ≤ 59)) → V = .tuple #[.int .i64 ((((dbf y : Nat) : Int) - 719162 + (mb y m : Nat) + D - 1) * 86400 + h * 3600 + mi * 60 + s), .int .i64 0])
    (hV2 : ¬ (D ≤ (ml y m : Nat) ∧ (0 ≤ h ∧ h ≤ 23) ∧ (0 ≤ mi ∧ mi ≤ 59) ∧ (0 ≤ s ∧ s ≤ 59)) → V = .tuple #[.int .i64 0, .int .i64 23]) (w : World) :
    Calls Tryd.prog 14 #[.agg #[.int .i64 (y : Nat), .int .i64 (m : Nat), .int .i64 D, .int .i64 h, .int .i64 mi, .int .i64 s]] w fun e w' => e = .returned V ∧ Below w.heap.size w w' := by
  have hb := (Below.refl w.heap.size w).alloc (Nat.le_refl _) (.cells #[.int .i64 (y : Nat), .int .i64 (m : Nat), .int .i64 D, .int .i64 h, .int .i64 mi, .int .i64 s] 28)
  have hx := heap_alloc_new w (.cells #[.int .i64 (y : Nat), .int .i64 (m : Nat), .int .i64 D, .int .i64 h, .int .i64 mi, .int .i64 s] 28)
  have HLG := Lib.hid (fun w => rlong_any y m (by omega) m1 m2 w)
  have d0 : decide (((y : Nat) : Int) < 1) = false := decide_eq_false (by omega)
  have d1 : decide ((9999 : Int) < (y : Nat)) = false := decide_eq_false (by omega)
  have d2 : decide (((m : Nat) : Int) < 1) = false := decide_eq_false (by omega)
  have d3 : decide ((12 : Int) < (m : Nat)) = false := decide_eq_false (by omega)
  have d4 : decide (D < 1) = false := decide_eq_false (by omega)
  have hml := ml_bd y m
  have HV1 := Lib.hid hV1
  have HV2 := Lib.hid hV2
  have HMB : Hid (∀ k, 1 ≤ k → k < m → mb y (k + 1) = mb y k + ml y k) := fun k a _ => mb_succ y k a
  have HML : Hid (∀ k, 1 ≤ k → k ≤ m → mb y k ≤ 366 ∧ ml y k ≤ 31) := fun k a b => ⟨by have := mb_le y k a (by omega); omega, (ml_bd y k).2⟩
  have HMD : Hid (∀ (k : Nat) (w : World), 1 ≤ k → k ≤ 12 → Calls Tryd.prog 37 #[.int .i64 (y : Nat), .int .i64 (k : Nat)] w fun e w' => e = .returned (.int .i64 (ml y k : Nat)) ∧ Below w.heap.size w w') := fun k w a b => rlong_any y k (by omega) a b w
  have HDA := Lib.hid (fun w => rfirst_any y y1 y2 w)
  have HM1 : Hid (mb y 1 = 0) := mb_one y
  have hdb := dbf_small y (by omega)
  clear hV1 hV2
  generalize hLL : ml y m = L at *
  clear hLL
  go_enter Tryd.func14, Tryd.ntmps14
  go_wp2_with fail
  generalize w.alloc (.cells #[.int .i64 (y : Nat), .int .i64 (m : Nat), .int .i64 D, .int .i64 h, .int .i64 mi, .int .i64 s] 28) = wa at *
  have x0 : wa.cell? ⟨w.heap.size, 0, none⟩ = some (.int .i64 (y : Nat)) := by rw [cell_of_row _ _ 0 _ _ _ hx]; rfl
  have x1 : wa.cell? ⟨w.heap.size, 1, none⟩ = some (.int .i64 (m : Nat)) := by rw [cell_of_row _ _ 1 _ _ _ hx]; rfl
  have x2 : wa.cell? ⟨w.heap.size, 2, none⟩ = some (.int .i64 D) := by rw [cell_of_row _ _ 2 _ _ _ hx]; rfl
  have x3 : wa.cell? ⟨w.heap.size, 3, none⟩ = some (.int .i64 h) := by rw [cell_of_row _ _ 3 _ _ _ hx]; rfl
  have x4 : wa.cell? ⟨w.heap.size, 4, none⟩ = some (.int .i64 mi) := by rw [cell_of_row _ _ 4 _ _ _ hx]; rfl
  have x5 : wa.cell? ⟨w.heap.size, 5, none⟩ = some (.int .i64 s) := by rw [cell_of_row _ _ 5 _ _ _ hx]; rfl
  have HLX := Lib.hid (lt_of_heap hx)
  have HB := Lib.hid hb
  clear hx hb
  have H5 : Hid (∀ a : World, Below w.heap.size w a → (a.cell? ⟨w.heap.size, 0, none⟩ = some (.int .i64 (y : Nat)) ∧ a.cell? ⟨w.heap.size, 1, none⟩ = some (.int .i64 (m : Nat)) ∧ a.cell? ⟨w.heap.size, 2, none⟩ = some (.int .i64 D) ∧ a.cell? ⟨w.heap.size, 3, none⟩ = some (.int .i64 h) ∧ a.cell? ⟨w.heap.size, 4, none⟩ = some (.int .i64 mi) ∧ a.cell? ⟨w.heap.size, 5, none⟩ = some (.int .i64 s)) → w.heap.size < a.heap.size → Calls Tryd.prog 37 #[.int .i64 (y : Nat), .int .i64 (m : Nat)] a fun e b => e = .returned (.int .i64 (L : Nat)) ∧ (b.cell? ⟨w.heap.size, 0, none⟩ = some (.int .i64 (y : Nat)) ∧ b.cell? ⟨w.heap.size, 1, none⟩ = some (.int .i64 (m : Nat)) ∧ b.cell? ⟨w.heap.size, 2, none⟩ = some (.int .i64 D) ∧ b.cell? ⟨w.heap.size, 3, none⟩ = some (.int .i64 h) ∧ b.cell? ⟨w.heap.size, 4, none⟩ = some (.int .i64 mi) ∧ b.cell? ⟨w.heap.size, 5, none⟩ = some (.int .i64 s)) ∧ (Below w.heap.size w b ∧ w.heap.size < b.heap.size)) := by
    intro a ha ⟨k0, k1, k2, k3, k4, k5⟩ hl
    refine (HLG.out a).mono fun e b ⟨he, hk⟩ => ?_
    have m : ∀ (i : Nat) (v : Value), a.cell? ⟨w.heap.size, i, none⟩ = some v → b.cell? ⟨w.heap.size, i, none⟩ = some v := fun i v h => (hk.cell (p := ⟨w.heap.size, i, none⟩) hl).trans h
    exact ⟨he, ⟨m _ _ k0, m _ _ k1, m _ _ k2, m _ _ k3, m _ _ k4, m _ _ k5⟩, below_then ha hk, Nat.lt_of_lt_of_le hl hk.size⟩
  clear HLG
  go_region_held3 (fun w' => w'.cell? ⟨w.heap.size, 0, none⟩ = some (.int .i64 (y : Nat)) ∧ w'.cell? ⟨w.heap.size, 1, none⟩ = some (.int .i64 (m : Nat)) ∧ w'.cell? ⟨w.heap.size, 2, none⟩ = some (.int .i64 D) ∧ w'.cell? ⟨w.heap.size, 3, none⟩ = some (.int .i64 h) ∧ w'.cell? ⟨w.heap.size, 4, none⟩ = some (.int .i64 mi) ∧ w'.cell? ⟨w.heap.size, 5, none⟩ = some (.int .i64 s)) (go_keep) ((go_at_call 37; (refine (H5.out _ (by first | exact HB.out | exact HB.out.drew) (by go_keep) (by exact HLX.out)).mono ?_); rintro e wy ⟨rfl, ⟨n0, n1, n2, n3, n4, n5⟩, nb⟩))
  have NB := Lib.hid nb
  clear nb x0 x1 x2 x3 x4 x5 d0 d1 d2 d3 d4 H5
  by_cases cL : (L : Int) < D
  case pos =>
    have dL : decide ((L : Int) < D) = true := decide_eq_true cL
    have HO := Lib.hid (HV2.out (fun k => by have := k.1; omega))
    go_wp2
    go_ret2
    exact ⟨by rw [HO.out]; rfl, NB.out.1⟩
  have dL : decide ((L : Int) < D) = false := decide_eq_false cL
  by_cases c0 : h < 0
  case pos =>
    have q0 : decide (h < 0) = true := decide_eq_true c0
    have HO := Lib.hid (HV2.out (fun k => by omega))
    go_wp2
    go_ret2
    exact ⟨by rw [HO.out]; rfl, NB.out.1⟩
  have q0 : decide (h < 0) = false := decide_eq_false c0
  by_cases c1 : 23 < h
  case pos =>
    have q1 : decide (23 < h) = true := decide_eq_true c1
    have HO := Lib.hid (HV2.out (fun k => by omega))
    go_wp2
    go_ret2
    exact ⟨by rw [HO.out]; rfl, NB.out.1⟩
  have q1 : decide (23 < h) = false := decide_eq_false c1
  by_cases c2 : mi < 0
  case pos =>
    have q2 : decide (mi < 0) = true := decide_eq_true c2
    have HO := Lib.hid (HV2.out (fun k => by omega))
    go_wp2
    go_ret2
    exact ⟨by rw [HO.out]; rfl, NB.out.1⟩
  have q2 : decide (mi < 0) = false := decide_eq_false c2
  by_cases c3 : 59 < mi
  case pos =>
    have q3 : decide (59 < mi) = true := decide_eq_true c3
    have HO := Lib.hid (HV2.out (fun k => by omega))
    go_wp2
    go_ret2
    exact ⟨by rw [HO.out]; rfl, NB.out.1⟩
  have q3 : decide (59 < mi) = false := decide_eq_false c3
  by_cases c4 : s < 0
  case pos =>
    have q4 : decide (s < 0) = true := decide_eq_true c4
    have HO := Lib.hid (HV2.out (fun k => by omega))
    go_wp2
    go_ret2
    exact ⟨by rw [HO.out]; rfl, NB.out.1⟩
  have q4 : decide (s < 0) = false := decide_eq_false c4
  by_cases c5 : 59 < s
  case pos =>
    have q5 : decide (59 < s) = true := decide_eq_true c5
    have HO := Lib.hid (HV2.out (fun k => by omega))
    go_wp2
    go_ret2
    exact ⟨by rw [HO.out]; rfl, NB.out.1⟩
  have q5 : decide (59 < s) = false := decide_eq_false c5
  have HO := Lib.hid (HV1.out ⟨by omega, by omega, by omega, by omega⟩)
  have hD31 : D ≤ 31 := by omega
  have hLD : D ≤ ((L : Nat) : Int) := by omega
  have hh : 0 ≤ h ∧ h ≤ 23 := by omega
  have hmi : 0 ≤ mi ∧ mi ≤ 59 := by omega
  have hss : 0 ≤ s ∧ s ≤ 59 := by omega
  obtain ⟨hh1, hh2⟩ := hh
  obtain ⟨hmi1, hmi2⟩ := hmi
  obtain ⟨hs1, hs2⟩ := hss
  clear HV1 HV2 cL c0 c1 c2 c3 c4 c5
  go_wp2_with fail
  refine (HDA.out _).mono ?_; rintro e w2 ⟨rfl, rfl⟩
  generalize dbf y = F at *
  go_wp2_with fail
  go_loopw [4, 5] (fun v i wr => ∃ k : Nat, 1 ≤ k ∧ k ≤ m ∧ i = .int .i64 (k : Nat) ∧ v = .int .i64 (((F : Nat) : Int) - 719162 + (mb y k : Nat)) ∧ (wr.cell? ⟨w.heap.size, 0, none⟩ = some (.int .i64 (y : Nat)) ∧ wr.cell? ⟨w.heap.size, 1, none⟩ = some (.int .i64 (m : Nat)) ∧ wr.cell? ⟨w.heap.size, 2, none⟩ = some (.int .i64 D) ∧ wr.cell? ⟨w.heap.size, 3, none⟩ = some (.int .i64 h) ∧ wr.cell? ⟨w.heap.size, 4, none⟩ = some (.int .i64 mi) ∧ wr.cell? ⟨w.heap.size, 5, none⟩ = some (.int .i64 s)) ∧ (Below w.heap.size w wr ∧ w.heap.size < wr.heap.size)) (fun _ i _ => m - (intOf i).toNat)
  case atStart => exact ⟨1, by omega, m1, rfl, by rw [HM1.out]; go_num, ⟨n0, n1, n2, n3, n4, n5⟩, NB.out⟩
  case round =>
    clear n0 n1 n2 n3 n4 n5 NB
    obtain ⟨k, k1, k2, rfl, rfl, ⟨n0, n1, n2, n3, n4, n5⟩, nb⟩ := hrel
    have NB := Lib.hid nb
    clear nb
    obtain ⟨b1, b2⟩ := HML.out k k1 k2
    by_cases hk : k < m
    · have HMS := Lib.hid (HMB.out k k1 hk)
      generalize mb y k = B at *
      have N0 := Lib.hid n0; have N1 := Lib.hid n1; have N2 := Lib.hid n2; have N3 := Lib.hid n3; have N4 := Lib.hid n4; have N5 := Lib.hid n5
      go_wp2_with fail
      refine (HMD.out k _ k1 (by omega)).mono ?_; rintro e w3 ⟨rfl, h3⟩
      have mm : ∀ (i : Nat) (v : Value), wr.cell? ⟨w.heap.size, i, none⟩ = some v → w3.cell? ⟨w.heap.size, i, none⟩ = some v := fun i v h => (h3.cell (p := ⟨w.heap.size, i, none⟩) NB.out.2).trans h
      have MM : Hid ((w3.cell? ⟨w.heap.size, 0, none⟩ = some (.int .i64 (y : Nat)) ∧ w3.cell? ⟨w.heap.size, 1, none⟩ = some (.int .i64 (m : Nat)) ∧ w3.cell? ⟨w.heap.size, 2, none⟩ = some (.int .i64 D) ∧ w3.cell? ⟨w.heap.size, 3, none⟩ = some (.int .i64 h) ∧ w3.cell? ⟨w.heap.size, 4, none⟩ = some (.int .i64 mi) ∧ w3.cell? ⟨w.heap.size, 5, none⟩ = some (.int .i64 s)) ∧ (Below w.heap.size w w3 ∧ w.heap.size < w3.heap.size)) := ⟨⟨mm _ _ N0.out, mm _ _ N1.out, mm _ _ N2.out, mm _ _ N3.out, mm _ _ N4.out, mm _ _ N5.out⟩, below_then NB.out.1 h3, Nat.lt_of_lt_of_le NB.out.2 h3.size⟩
      clear mm h3 N0 N1 N2 N3 N4 N5 n0 n1 n2 n3 n4 n5
      generalize ml y k = Q at *
      go_wp2_with fail
      go_roundw
      case rel => exact ⟨k + 1, by omega, by omega, by go_num, by rw [HMS.out]; go_num, MM.out.1, MM.out.2⟩
      case measure => simp [intOf]; omega
    · obtain rfl : k = m := by omega
      generalize mb y k = B at *
      clear HMB HML HMD
      go_wp2_with fail
      go_ret2
      exact ⟨by rw [HO.out]; rfl, NB.out.1⟩
end Go.Proofs.YtmbifoockenniaaDoor
