/-
  Contracts: the document's leap, year, First, Long.
  Contracts: the document's Of.
  Contracts: the document's Seconds.
  Contracts: Seconds at anything, FromDOS, ToDOS on both sides, Fits.
-/
import Derived.Test.YtjnoapbddifcpaaGreatDoorPkCE
import Derived.Deep.DeepCutAuto
import Derived.Deep.CutBlock
import Derived.Deep.RegionHeld3
import Derived.Deep.DrawnRows

namespace Go.Proofs.YtjnoapbddifcpaaGreatDoor
set_option maxRecDepth 100000
open Go.RowKit Go.Joins

theorem rleap_any (y : Nat) (hy : y ≤ 20000) (w : World) :
    Calls Tryz.prog 161 #[.int .i64 (y : Nat)] w fun e w' => e = .returned (.bool (leapB y)) ∧ w = w' := by
  have h4 : (((y : Nat) : Int) % 4 == 0) = decide (y % 4 = 0) := by rw [Bool.eq_iff_iff, beq_iff_eq, decide_eq_true_iff]; omega
  have h100 : (((y : Nat) : Int) % 100 != 0) = !decide (y % 100 = 0) := by rw [Bool.eq_iff_iff, bne_iff_ne, Bool.not_eq_true', decide_eq_false_iff_not]; omega
  have h400 : (((y : Nat) : Int) % 400 == 0) = decide (y % 400 = 0) := by rw [Bool.eq_iff_iff, beq_iff_eq, decide_eq_true_iff]; omega
  have HB : Hid (leapB y = (decide (y % 4 = 0) && (!decide (y % 100 = 0) || decide (y % 400 = 0)))) := by
    show _ = _
    rw [Bool.eq_iff_iff, leap_iff]
    simp
    omega
  generalize decide (y % 4 = 0) = b4 at *
  generalize decide (y % 100 = 0) = b100 at *
  generalize decide (y % 400 = 0) = b400 at *
  go_enter Tryz.func161, Tryz.ntmps161
  cases b4 <;> cases b100 <;> cases b400
  all_goals
    go_wp2_with fail
    go_ret
    exact ⟨by rw [HB.out]; rfl, rfl⟩
theorem rleap_y (y : Nat) (hy : y ≤ 20000) (h : leapB y = true) (w : World) :
    Calls Tryz.prog 161 #[.int .i64 (y : Nat)] w fun e w' => e = .returned (.bool true) ∧ w = w' := by
  have := rleap_any y hy w
  rw [h] at this
  exact this
theorem rleap_n (y : Nat) (hy : y ≤ 20000) (h : leapB y = false) (w : World) :
    Calls Tryz.prog 161 #[.int .i64 (y : Nat)] w fun e w' => e = .returned (.bool false) ∧ w = w' := by
  have := rleap_any y hy w
  rw [h] at this
  exact this
theorem ryear_any (y : Nat) (hy : y ≤ 20000) (w : World) :
    Calls Tryz.prog 162 #[.int .i64 (y : Nat)] w fun e w' => e = .returned (.int .i64 (yl y : Nat)) ∧ w = w' := by
  cases hl : leapB y with
  | true =>
    have HM : Hid (yl y = 366) := by show yl y = _; unfold yl lpN; rw [if_pos hl]
    have HL := Lib.hid (fun w => rleap_y y hy hl w)
    clear hl
    go_enter Tryz.func162, Tryz.ntmps162
    go_wp2_with fail
    refine (HL.out _).mono ?_; rintro r w1 ⟨rfl, rfl⟩
    go_wp2_with fail
    go_ret
    exact ⟨by rw [HM.out]; rfl, rfl⟩
  | false =>
    have HM : Hid (yl y = 365) := by show yl y = _; unfold yl lpN; rw [if_neg (by rw [hl]; decide)]
    have HL := Lib.hid (fun w => rleap_n y hy hl w)
    clear hl
    go_enter Tryz.func162, Tryz.ntmps162
    go_wp2_with fail
    refine (HL.out _).mono ?_; rintro r w1 ⟨rfl, rfl⟩
    go_wp2_with fail
    go_ret
    exact ⟨by rw [HM.out]; rfl, rfl⟩
theorem dbf_small (y : Nat) (h : y ≤ 10001) : dbf y ≤ 3700000 := by
  by_cases h1 : 1 ≤ y
  · have := (dbf_ge y h1).2
    omega
  · obtain rfl : y = 0 := by omega
    decide
theorem rfirst_any (y : Nat) (h1 : 1 ≤ y) (h2 : y ≤ 9999) (w : World) :
    Calls Tryz.prog 124 #[.int .i64 (y : Nat)] w fun e w' => e = .returned (.int .i64 (dbf y : Nat)) ∧ w = w' := by
  go_enter Tryz.func124, Tryz.ntmps124
  go_wp2_with fail
  go_loop [3, 4] (fun v i => ∃ k : Nat, 1 ≤ k ∧ k ≤ y ∧ i = .int .i64 (k : Nat) ∧ v = .int .i64 (dbf k : Nat)) (fun _ i => y - (intOf i).toNat)
  case atStart => exact ⟨1, by omega, h1, rfl, by rw [dbf_one]; rfl⟩
  case round =>
    obtain ⟨k, k1, k2, rfl, rfl⟩ := hrel
    have hb := dbf_small k (by omega)
    by_cases hk : k < y
    · have HS := Lib.hid (dbf_succ k k1)
      have hyl : yl k ≤ 366 := by have := lpN_le k; unfold yl; omega
      generalize dbf k = D at *
      go_wp2_with fail
      refine (ryear_any k (by omega) _).mono ?_; rintro e w1 ⟨rfl, rfl⟩
      generalize yl k = L at *
      go_wp2_with fail
      go_round
      case rel => exact ⟨k + 1, by omega, by omega, by go_num, by rw [HS.out]; go_num⟩
      case measure => simp [intOf]; omega
    · obtain rfl : k = y := by omega
      go_wp2_with fail
      go_ret
      exact ⟨rfl, rfl⟩

set_option maxHeartbeats 4000000 in
theorem rlong_any (y m : Nat) (hy : y ≤ 20000) (h1 : 1 ≤ m) (h2 : m ≤ 12) (w : World) :
    Calls Tryz.prog 123 #[.int .i64 (y : Nat), .int .i64 (m : Nat)] w fun e w' => e = .returned (.int .i64 (ml y m : Nat)) ∧ Below w.heap.size w w' := by
  have HB : Hid (∀ o, Below w.heap.size w (w.alloc o)) := fun o => (Below.refl w.heap.size w).alloc (Nat.le_refl _) o
  by_cases e2 : m = 2
  · subst e2
    cases hl : leapB y with
    | true =>
      have HM : Hid (ml y 2 = 29) := by show ml y 2 = _; rw [ml_two]; unfold lpN; rw [if_pos hl]
      have HL := Lib.hid (fun w => rleap_y y hy hl w)
      clear hl
      go_enter Tryz.func123, Tryz.ntmps123
      go_wp2_with fail
      refine (HL.out _).mono ?_; rintro r w1 ⟨rfl, rfl⟩
      go_wp2_with fail
      go_ret
      exact ⟨by rw [HM.out]; rfl, HB.out _⟩
    | false =>
      have HM : Hid (ml y 2 = 28) := by show ml y 2 = _; rw [ml_two]; unfold lpN; rw [if_neg (by rw [hl]; decide)]
      have HL := Lib.hid (fun w => rleap_n y hy hl w)
      clear hl
      go_enter Tryz.func123, Tryz.ntmps123
      go_wp2_with fail
      refine (HL.out _).mono ?_; rintro r w1 ⟨rfl, rfl⟩
      go_wp2_with fail
      go_ret
      exact ⟨by rw [HM.out]; rfl, HB.out _⟩
  · have hm : ml y m = if m = 4 ∨ m = 6 ∨ m = 9 ∨ m = 11 then 30 else 31 := if_neg e2
    have : m = 1 ∨ m = 3 ∨ m = 4 ∨ m = 5 ∨ m = 6 ∨ m = 7 ∨ m = 8 ∨ m = 9 ∨ m = 10 ∨ m = 11 ∨ m = 12 := by omega
    have HM := Lib.hid hm
    clear hm h1 h2
    go_enter Tryz.func123, Tryz.ntmps123
    rcases this with rfl | rfl | rfl | rfl | rfl | rfl | rfl | rfl | rfl | rfl | rfl
    all_goals
      clear e2
      go_wp2_with fail
      go_ret
      exact ⟨by rw [HM.out]; rfl, HB.out _⟩
end Go.Proofs.YtjnoapbddifcpaaGreatDoor

namespace Go.Proofs.YtjnoapbddifcpaaGreatDoor
set_option maxRecDepth 100000
open Go.RowKit Go.Joins

end Go.Proofs.YtjnoapbddifcpaaGreatDoor

namespace Go.Proofs.YtjnoapbddifcpaaGreatDoor
set_option maxRecDepth 100000
open Go.RowKit Go.Joins Go.Deep
attribute [local go_sem ↓] Go.wp_at_zero Go.wp_at_succ

/-- The front, where year or month or day are not in their bounds. -/
theorem rsec_front (Y M D h mi s : Int) (hr : (Y < 1 ∨ 9999 < Y) ∨ (M < 1 ∨ 12 < M) ∨ D < 1) (w : World) :
    Calls Tryz.prog 84 #[.agg #[.int .i64 Y, .int .i64 M, .int .i64 D, .int .i64 h, .int .i64 mi, .int .i64 s]] w fun e w' => e = .returned (.tuple #[.int .i64 0, .int .i64 23]) ∧ Below w.heap.size w w' := by
  have HB := Lib.hid ((Below.refl w.heap.size w).alloc (Nat.le_refl _) (.cells #[.int .i64 Y, .int .i64 M, .int .i64 D, .int .i64 h, .int .i64 mi, .int .i64 s] 180))
  by_cases c0 : Y < 1
  case pos =>
    have d0 : decide (Y < 1) = true := decide_eq_true c0
    clear hr
    go_enter Tryz.func84, Tryz.ntmps84
    go_wp2_with fail
    go_quiet (fail)
    go_wp2_with fail
    go_ret2
    exact ⟨rfl, below_drewN HB.out _⟩
  have d0 : decide (Y < 1) = false := decide_eq_false c0
  by_cases c1 : 9999 < Y
  case pos =>
    have d1 : decide (9999 < Y) = true := decide_eq_true c1
    clear hr
    go_enter Tryz.func84, Tryz.ntmps84
    go_wp2_with fail
    go_quiet (fail)
    go_wp2_with fail
    go_ret2
    exact ⟨rfl, below_drewN HB.out _⟩
  have d1 : decide (9999 < Y) = false := decide_eq_false c1
  by_cases c2 : M < 1
  case pos =>
    have d2 : decide (M < 1) = true := decide_eq_true c2
    clear hr
    go_enter Tryz.func84, Tryz.ntmps84
    go_wp2_with fail
    go_quiet (fail)
    go_wp2_with fail
    go_ret2
    exact ⟨rfl, below_drewN HB.out _⟩
  have d2 : decide (M < 1) = false := decide_eq_false c2
  by_cases c3 : 12 < M
  case pos =>
    have d3 : decide (12 < M) = true := decide_eq_true c3
    clear hr
    go_enter Tryz.func84, Tryz.ntmps84
    go_wp2_with fail
    go_quiet (fail)
    go_wp2_with fail
    go_ret2
    exact ⟨rfl, below_drewN HB.out _⟩
  have d3 : decide (12 < M) = false := decide_eq_false c3
  by_cases c4 : D < 1
  case pos =>
    have d4 : decide (D < 1) = true := decide_eq_true c4
    clear hr
    go_enter Tryz.func84, Tryz.ntmps84
    go_wp2_with fail
    go_quiet (fail)
    go_wp2_with fail
    go_ret2
    exact ⟨rfl, below_drewN HB.out _⟩
  have d4 : decide (D < 1) = false := decide_eq_false c4
  omega

set_option maxHeartbeats 2000000 in
/-- What is behind the front. -/
theorem rsec_mid (y m : Nat) (D h mi s : Int) (V : Value) (y1 : 1 ≤ y) (y2 : y ≤ 9999) (m1 : 1 ≤ m) (m2 : m ≤ 12) (hD : 1 ≤ D)
    (hV1 : (D ≤ (ml y m : Nat) ∧ (0 ≤ h ∧ h ≤ 23) ∧ (0 ≤ mi ∧ mi ≤ 59) ∧ (0 ≤ s ∧ s ≤ 59)) → V = .tuple #[.int .i64 ((((dbf y : Nat) : Int) - 719162 + (mb y m : Nat) + D - 1) * 86400 + h * 3600 + mi * 60 + s), .int .i64 0])
    (hV2 : ¬ (D ≤ (ml y m : Nat) ∧ (0 ≤ h ∧ h ≤ 23) ∧ (0 ≤ mi ∧ mi ≤ 59) ∧ (0 ≤ s ∧ s ≤ 59)) → V = .tuple #[.int .i64 0, .int .i64 23]) (w : World) :
    Calls Tryz.prog 84 #[.agg #[.int .i64 (y : Nat), .int .i64 (m : Nat), .int .i64 D, .int .i64 h, .int .i64 mi, .int .i64 s]] w fun e w' => e = .returned V ∧ Below w.heap.size w w' := by
  have hb := (Below.refl w.heap.size w).alloc (Nat.le_refl _) (.cells #[.int .i64 (y : Nat), .int .i64 (m : Nat), .int .i64 D, .int .i64 h, .int .i64 mi, .int .i64 s] 180)
  have hx := heap_alloc_new w (.cells #[.int .i64 (y : Nat), .int .i64 (m : Nat), .int .i64 D, .int .i64 h, .int .i64 mi, .int .i64 s] 180)
  have HLG := Lib.hid (fun w => rlong_any y m (by omega) m1 m2 w)
  have d0 : decide (((y : Nat) : Int) < 1) = false := decide_eq_false (by omega)
  have d1 : decide ((9999 : Int) < (y : Nat)) = false := decide_eq_false (by omega)
  have d2 : decide (((m : Nat) : Int) < 1) = false := decide_eq_false (by omega)
  have d3 : decide ((12 : Int) < (m : Nat)) = false := decide_eq_false (by omega)
  have d4 : decide (D < 1) = false := decide_eq_false (by omega)
  have hml := ml_bd y m
  have HV1 := Lib.hid hV1
  have HV2 := Lib.hid hV2
  have HMB : Hid (∀ k, 1 ≤ k → k < m → mb y (k + 1) = mb y k + ml y k) := fun k a _ => mb_succ y k a
  have HML : Hid (∀ k, 1 ≤ k → k ≤ m → mb y k ≤ 366 ∧ ml y k ≤ 31) := fun k a b => ⟨by have := mb_le y k a (by omega); omega, (ml_bd y k).2⟩
  have HMD : Hid (∀ (k : Nat) (w : World), 1 ≤ k → k ≤ 12 → Calls Tryz.prog 123 #[.int .i64 (y : Nat), .int .i64 (k : Nat)] w fun e w' => e = .returned (.int .i64 (ml y k : Nat)) ∧ Below w.heap.size w w') := fun k w a b => rlong_any y k (by omega) a b w
  have HDA := Lib.hid (fun w => rfirst_any y y1 y2 w)
  have HM1 : Hid (mb y 1 = 0) := mb_one y
  have hdb := dbf_small y (by omega)
  clear hV1 hV2
  generalize hLL : ml y m = L at *
  clear hLL
  go_enter Tryz.func84, Tryz.ntmps84
  go_wp2_with fail
  generalize w.alloc (.cells #[.int .i64 (y : Nat), .int .i64 (m : Nat), .int .i64 D, .int .i64 h, .int .i64 mi, .int .i64 s] 180) = wa at *
  have x0 : wa.cell? ⟨w.heap.size, 0, none⟩ = some (.int .i64 (y : Nat)) := by rw [cell_of_row _ _ 0 _ _ _ hx]; rfl
  have x1 : wa.cell? ⟨w.heap.size, 1, none⟩ = some (.int .i64 (m : Nat)) := by rw [cell_of_row _ _ 1 _ _ _ hx]; rfl
  have x2 : wa.cell? ⟨w.heap.size, 2, none⟩ = some (.int .i64 D) := by rw [cell_of_row _ _ 2 _ _ _ hx]; rfl
  have x3 : wa.cell? ⟨w.heap.size, 3, none⟩ = some (.int .i64 h) := by rw [cell_of_row _ _ 3 _ _ _ hx]; rfl
  have x4 : wa.cell? ⟨w.heap.size, 4, none⟩ = some (.int .i64 mi) := by rw [cell_of_row _ _ 4 _ _ _ hx]; rfl
  have x5 : wa.cell? ⟨w.heap.size, 5, none⟩ = some (.int .i64 s) := by rw [cell_of_row _ _ 5 _ _ _ hx]; rfl
  have HLX := Lib.hid (lt_of_heapS hx)
  have HB := Lib.hid hb
  clear hx hb
  have H5 : Hid (∀ a : World, Below w.heap.size w a → (a.cell? ⟨w.heap.size, 0, none⟩ = some (.int .i64 (y : Nat)) ∧ a.cell? ⟨w.heap.size, 1, none⟩ = some (.int .i64 (m : Nat)) ∧ a.cell? ⟨w.heap.size, 2, none⟩ = some (.int .i64 D) ∧ a.cell? ⟨w.heap.size, 3, none⟩ = some (.int .i64 h) ∧ a.cell? ⟨w.heap.size, 4, none⟩ = some (.int .i64 mi) ∧ a.cell? ⟨w.heap.size, 5, none⟩ = some (.int .i64 s)) → w.heap.size < a.heap.size → Calls Tryz.prog 123 #[.int .i64 (y : Nat), .int .i64 (m : Nat)] a fun e b => e = .returned (.int .i64 (L : Nat)) ∧ (b.cell? ⟨w.heap.size, 0, none⟩ = some (.int .i64 (y : Nat)) ∧ b.cell? ⟨w.heap.size, 1, none⟩ = some (.int .i64 (m : Nat)) ∧ b.cell? ⟨w.heap.size, 2, none⟩ = some (.int .i64 D) ∧ b.cell? ⟨w.heap.size, 3, none⟩ = some (.int .i64 h) ∧ b.cell? ⟨w.heap.size, 4, none⟩ = some (.int .i64 mi) ∧ b.cell? ⟨w.heap.size, 5, none⟩ = some (.int .i64 s)) ∧ (Below w.heap.size w b ∧ w.heap.size < b.heap.size)) := by
    intro a ha ⟨k0, k1, k2, k3, k4, k5⟩ hl
    refine (HLG.out a).mono fun e b ⟨he, hk⟩ => ?_
    have m : ∀ (i : Nat) (v : Value), a.cell? ⟨w.heap.size, i, none⟩ = some v → b.cell? ⟨w.heap.size, i, none⟩ = some v := fun i v h => (hk.cell (p := ⟨w.heap.size, i, none⟩) hl).trans h
    exact ⟨he, ⟨m _ _ k0, m _ _ k1, m _ _ k2, m _ _ k3, m _ _ k4, m _ _ k5⟩, below_then ha hk, Nat.lt_of_lt_of_le hl hk.size⟩
  clear HLG
  go_region_held3 (fun w' => w'.cell? ⟨w.heap.size, 0, none⟩ = some (.int .i64 (y : Nat)) ∧ w'.cell? ⟨w.heap.size, 1, none⟩ = some (.int .i64 (m : Nat)) ∧ w'.cell? ⟨w.heap.size, 2, none⟩ = some (.int .i64 D) ∧ w'.cell? ⟨w.heap.size, 3, none⟩ = some (.int .i64 h) ∧ w'.cell? ⟨w.heap.size, 4, none⟩ = some (.int .i64 mi) ∧ w'.cell? ⟨w.heap.size, 5, none⟩ = some (.int .i64 s)) (go_keep) ((go_at_call 123; (refine (H5.out _ (by first | exact HB.out | exact HB.out.drew) (by go_keep) (by exact HLX.out)).mono ?_); rintro e wy ⟨rfl, ⟨n0, n1, n2, n3, n4, n5⟩, nb⟩))
  have NB := Lib.hid nb
  clear nb x0 x1 x2 x3 x4 x5 d0 d1 d2 d3 d4 H5
  by_cases cL : (L : Int) < D
  case pos =>
    have dL : decide ((L : Int) < D) = true := decide_eq_true cL
    have HO := Lib.hid (HV2.out (fun k => by have := k.1; omega))
    go_wp2
    go_ret2
    exact ⟨by rw [HO.out]; rfl, NB.out.1⟩
  have dL : decide ((L : Int) < D) = false := decide_eq_false cL
  by_cases c0 : h < 0
  case pos =>
    have q0 : decide (h < 0) = true := decide_eq_true c0
    have HO := Lib.hid (HV2.out (fun k => by omega))
    go_wp2
    go_ret2
    exact ⟨by rw [HO.out]; rfl, NB.out.1⟩
  have q0 : decide (h < 0) = false := decide_eq_false c0
  by_cases c1 : 23 < h
  case pos =>
    have q1 : decide (23 < h) = true := decide_eq_true c1
    have HO := Lib.hid (HV2.out (fun k => by omega))
    go_wp2
    go_ret2
    exact ⟨by rw [HO.out]; rfl, NB.out.1⟩
  have q1 : decide (23 < h) = false := decide_eq_false c1
  by_cases c2 : mi < 0
  case pos =>
    have q2 : decide (mi < 0) = true := decide_eq_true c2
    have HO := Lib.hid (HV2.out (fun k => by omega))
    go_wp2
    go_ret2
    exact ⟨by rw [HO.out]; rfl, NB.out.1⟩
  have q2 : decide (mi < 0) = false := decide_eq_false c2
  by_cases c3 : 59 < mi
  case pos =>
    have q3 : decide (59 < mi) = true := decide_eq_true c3
    have HO := Lib.hid (HV2.out (fun k => by omega))
    go_wp2
    go_ret2
    exact ⟨by rw [HO.out]; rfl, NB.out.1⟩
  have q3 : decide (59 < mi) = false := decide_eq_false c3
  by_cases c4 : s < 0
  case pos =>
    have q4 : decide (s < 0) = true := decide_eq_true c4
    have HO := Lib.hid (HV2.out (fun k => by omega))
    go_wp2
    go_ret2
    exact ⟨by rw [HO.out]; rfl, NB.out.1⟩
  have q4 : decide (s < 0) = false := decide_eq_false c4
  by_cases c5 : 59 < s
  case pos =>
    have q5 : decide (59 < s) = true := decide_eq_true c5
    have HO := Lib.hid (HV2.out (fun k => by omega))
    go_wp2
    go_ret2
    exact ⟨by rw [HO.out]; rfl, NB.out.1⟩
  have q5 : decide (59 < s) = false := decide_eq_false c5
  have HO := Lib.hid (HV1.out ⟨by omega, by omega, by omega, by omega⟩)
  have hD31 : D ≤ 31 := by omega
  have hLD : D ≤ ((L : Nat) : Int) := by omega
  have hh : 0 ≤ h ∧ h ≤ 23 := by omega
  have hmi : 0 ≤ mi ∧ mi ≤ 59 := by omega
  have hss : 0 ≤ s ∧ s ≤ 59 := by omega
  obtain ⟨hh1, hh2⟩ := hh
  obtain ⟨hmi1, hmi2⟩ := hmi
  obtain ⟨hs1, hs2⟩ := hss
  clear HV1 HV2 cL c0 c1 c2 c3 c4 c5
  go_wp2_with fail
  refine (HDA.out _).mono ?_; rintro e w2 ⟨rfl, rfl⟩
  generalize dbf y = F at *
  go_wp2_with fail
  go_loopw [4, 5] (fun v i wr => ∃ k : Nat, 1 ≤ k ∧ k ≤ m ∧ i = .int .i64 (k : Nat) ∧ v = .int .i64 (((F : Nat) : Int) - 719162 + (mb y k : Nat)) ∧ (wr.cell? ⟨w.heap.size, 0, none⟩ = some (.int .i64 (y : Nat)) ∧ wr.cell? ⟨w.heap.size, 1, none⟩ = some (.int .i64 (m : Nat)) ∧ wr.cell? ⟨w.heap.size, 2, none⟩ = some (.int .i64 D) ∧ wr.cell? ⟨w.heap.size, 3, none⟩ = some (.int .i64 h) ∧ wr.cell? ⟨w.heap.size, 4, none⟩ = some (.int .i64 mi) ∧ wr.cell? ⟨w.heap.size, 5, none⟩ = some (.int .i64 s)) ∧ (Below w.heap.size w wr ∧ w.heap.size < wr.heap.size)) (fun _ i _ => m - (intOf i).toNat)
  case atStart => exact ⟨1, by omega, m1, rfl, by rw [HM1.out]; go_num, ⟨n0, n1, n2, n3, n4, n5⟩, NB.out⟩
  case round =>
    clear n0 n1 n2 n3 n4 n5 NB
    obtain ⟨k, k1, k2, rfl, rfl, ⟨n0, n1, n2, n3, n4, n5⟩, nb⟩ := hrel
    have NB := Lib.hid nb
    clear nb
    obtain ⟨b1, b2⟩ := HML.out k k1 k2
    by_cases hk : k < m
    · have HMS := Lib.hid (HMB.out k k1 hk)
      generalize mb y k = B at *
      have N0 := Lib.hid n0; have N1 := Lib.hid n1; have N2 := Lib.hid n2; have N3 := Lib.hid n3; have N4 := Lib.hid n4; have N5 := Lib.hid n5
      go_wp2_with fail
      refine (HMD.out k _ k1 (by omega)).mono ?_; rintro e w3 ⟨rfl, h3⟩
      have mm : ∀ (i : Nat) (v : Value), wr.cell? ⟨w.heap.size, i, none⟩ = some v → w3.cell? ⟨w.heap.size, i, none⟩ = some v := fun i v h => (h3.cell (p := ⟨w.heap.size, i, none⟩) NB.out.2).trans h
      have MM : Hid ((w3.cell? ⟨w.heap.size, 0, none⟩ = some (.int .i64 (y : Nat)) ∧ w3.cell? ⟨w.heap.size, 1, none⟩ = some (.int .i64 (m : Nat)) ∧ w3.cell? ⟨w.heap.size, 2, none⟩ = some (.int .i64 D) ∧ w3.cell? ⟨w.heap.size, 3, none⟩ = some (.int .i64 h) ∧ w3.cell? ⟨w.heap.size, 4, none⟩ = some (.int .i64 mi) ∧ w3.cell? ⟨w.heap.size, 5, none⟩ = some (.int .i64 s)) ∧ (Below w.heap.size w w3 ∧ w.heap.size < w3.heap.size)) := ⟨⟨mm _ _ N0.out, mm _ _ N1.out, mm _ _ N2.out, mm _ _ N3.out, mm _ _ N4.out, mm _ _ N5.out⟩, below_then NB.out.1 h3, Nat.lt_of_lt_of_le NB.out.2 h3.size⟩
      clear mm h3 N0 N1 N2 N3 N4 N5 n0 n1 n2 n3 n4 n5
      generalize ml y k = Q at *
      go_wp2_with fail
      go_roundw
      case rel => exact ⟨k + 1, by omega, by omega, by go_num, by rw [HMS.out]; go_num, MM.out.1, MM.out.2⟩
      case measure => simp [intOf]; omega
    · obtain rfl : k = m := by omega
      generalize mb y k = B at *
      clear HMB HML HMD
      go_wp2_with fail
      go_ret2
      exact ⟨by rw [HO.out]; rfl, NB.out.1⟩
end Go.Proofs.YtjnoapbddifcpaaGreatDoor

namespace Go.Proofs.YtjnoapbddifcpaaGreatDoor
set_option maxRecDepth 100000
open Go.RowKit Go.Joins Go.Deep

theorem rsec_y (y m d t : Nat) (hd : IsDate y m d t) (w : World) :
    Calls Tryz.prog 84 #[.agg #[.int .i64 (y : Nat), .int .i64 (m : Nat), .int .i64 (d : Nat), .int .i64 (t / 3600 : Nat), .int .i64 (t / 60 % 60 : Nat), .int .i64 (t % 60 : Nat)]] w fun e w' => e = .returned (.tuple #[.int .i64 (tI y m d t), .int .i64 0]) ∧ Below w.heap.size w w' := by
  have h1 := hd.d1; have h2 := hd.d2; have h3 := hd.s2
  refine rsec_mid y m (d : Nat) (t / 3600 : Nat) (t / 60 % 60 : Nat) (t % 60 : Nat) _ hd.y1 hd.y2 hd.m1 hd.m2 (by omega) (fun _ => ?_) (fun k => (k ⟨by omega, by omega, by omega, by omega⟩).elim) w
  rw [show (((dbf y : Nat) : Int) - 719162 + (mb y m : Nat) + (d : Nat) - 1) * 86400 + (t / 3600 : Nat) * 3600 + (t / 60 % 60 : Nat) * 60 + (t % 60 : Nat) = tI y m d t from by rw [← tI_eq hd]; generalize dbf y = a; generalize mb y m = b; omega]
theorem rsec_n (Y M D h mi s : Int) (hr : ¬ RightS Y M D h mi s) (w : World) :
    Calls Tryz.prog 84 #[.agg #[.int .i64 Y, .int .i64 M, .int .i64 D, .int .i64 h, .int .i64 mi, .int .i64 s]] w fun e w' => e = .returned (.tuple #[.int .i64 0, .int .i64 23]) ∧ Below w.heap.size w w' := by
  by_cases hf : (Y < 1 ∨ 9999 < Y) ∨ (M < 1 ∨ 12 < M) ∨ D < 1
  · exact rsec_front Y M D h mi s hf w
  · obtain ⟨y, rfl⟩ := Int.eq_ofNat_of_zero_le (show 0 ≤ Y by omega)
    obtain ⟨m, rfl⟩ := Int.eq_ofNat_of_zero_le (show 0 ≤ M by omega)
    exact rsec_mid y m D h mi s _ (by omega) (by omega) (by omega) (by omega) (by omega) (fun k => (hr ⟨by omega, by omega, by rw [Int.toNat_natCast, Int.toNat_natCast]; omega, k.2⟩).elim) (fun _ => rfl) w

/-- What Seconds answers: the time, its error. -/
def SecIs (Y M D h mi s : Int) (x : Int) (z : Nat) : Prop :=
  (∃ y m d t : Nat, IsDate y m d t ∧ Y = (y : Nat) ∧ M = (m : Nat) ∧ D = (d : Nat) ∧ h = (t / 3600 : Nat) ∧ mi = (t / 60 % 60 : Nat) ∧ s = (t % 60 : Nat) ∧ x = tI y m d t ∧ z = 0) ∨ (¬ RightS Y M D h mi s ∧ x = 0 ∧ z = 23)
theorem sec_ex (Y M D h mi s : Int) : ∃ x z, SecIs Y M D h mi s x z := by
  by_cases hr : RightS Y M D h mi s
  · obtain ⟨y, m, d, t, h0, h1, h2, h3, h4, h5, h6⟩ := right_nat hr
    exact ⟨_, _, .inl ⟨y, m, d, t, h0, h1, h2, h3, h4, h5, h6, rfl, rfl⟩⟩
  · exact ⟨_, _, .inr ⟨hr, rfl, rfl⟩⟩
theorem sec_any {Y M D h mi s x : Int} {z : Nat} (H : SecIs Y M D h mi s x z) (w : World) :
    Calls Tryz.prog 113 #[.agg #[.int .i64 Y, .int .i64 M, .int .i64 D, .int .i64 h, .int .i64 mi, .int .i64 s]] w fun e w' => e = .returned (.tuple #[.int .i64 x, .int .i64 (z : Nat)]) ∧ Below w.heap.size w w' := by
  rcases H with ⟨y, m, d, t, hd, rfl, rfl, rfl, rfl, rfl, rfl, rfl, rfl⟩ | ⟨hr, rfl, rfl⟩
  · exact seconds_y y m d t hd w
  · exact seconds_n _ _ _ _ _ _ hr w
theorem rsec_any {Y M D h mi s x : Int} {z : Nat} (H : SecIs Y M D h mi s x z) (w : World) :
    Calls Tryz.prog 84 #[.agg #[.int .i64 Y, .int .i64 M, .int .i64 D, .int .i64 h, .int .i64 mi, .int .i64 s]] w fun e w' => e = .returned (.tuple #[.int .i64 x, .int .i64 (z : Nat)]) ∧ Below w.heap.size w w' := by
  rcases H with ⟨y, m, d, t, hd, rfl, rfl, rfl, rfl, rfl, rfl, rfl, rfl⟩ | ⟨hr, rfl, rfl⟩
  · exact rsec_y y m d t hd w
  · exact rsec_n _ _ _ _ _ _ hr w

/-! ### FromDOS -/
def fY (n : Nat) : Nat := 1980 + n / 33554432
def fM (n : Nat) : Nat := n / 2097152 % 16
def fD (n : Nat) : Nat := n / 65536 % 32
def fh (n : Nat) : Nat := n / 2048 % 32
def fm (n : Nat) : Nat := n / 32 % 64
def fs (n : Nat) : Nat := n % 32 * 2
def FdIs (n : Nat) (x : Int) (z : Nat) : Prop := SecIs (fY n : Nat) (fM n : Nat) (fD n : Nat) (fh n : Nat) (fm n : Nat) (fs n : Nat) x z
theorem mask (a k : Nat) (ha : a < 4294967296) (hk : k ≤ 8) : bits .and .u32 (a : Int) ((2 ^ k - 1 : Nat) : Int) = ((a % 2 ^ k : Nat) : Int) := by
  have : 2 ^ k ≤ 2 ^ 8 := Nat.pow_le_pow_right (by omega) hk
  rw [u32_and_nat a (2 ^ k - 1) ha (by omega), Nat.and_two_pow_sub_one_eq_mod]
theorem fromDOS_any {n : Nat} {x : Int} {z : Nat} (hn : n < 4294967296) (H : FdIs n x z) (w : World) :
    Calls Tryz.prog 74 #[.int .u32 (n : Nat)] w fun e w' => e = .returned (.tuple #[.int .i64 x, .int .i64 (z : Nat)]) ∧ Below w.heap.size w w' := by
  have HH := Lib.hid (fun w => sec_any H w)
  have e1 : bits .and .u32 (((n : Nat) : Int) / 2097152) 15 = ((fM n : Nat) : Int) := mask (n / 2097152) 4 (by omega) (by omega)
  have e2 : bits .and .u32 (((n : Nat) : Int) / 65536) 31 = ((fD n : Nat) : Int) := mask (n / 65536) 5 (by omega) (by omega)
  have e3 : bits .and .u32 (((n : Nat) : Int) / 2048) 31 = ((fh n : Nat) : Int) := mask (n / 2048) 5 (by omega) (by omega)
  have e4 : bits .and .u32 (((n : Nat) : Int) / 32) 63 = ((fm n : Nat) : Int) := mask (n / 32) 6 (by omega) (by omega)
  have e5 : bits .and .u32 ((n : Nat) : Int) 31 = ((n % 32 : Nat) : Int) := mask n 5 (by omega) (by omega)
  have EY : Hid ((1980 : Int) + ((n : Nat) : Int) / 33554432 = ((fY n : Nat) : Int)) := by show _ = _; unfold fY; omega
  have ES : Hid (((n % 32 : Nat) : Int) * 2 = ((fs n : Nat) : Int)) := by show _ = _; unfold fs; omega
  have l1 : fM n ≤ 15 := by unfold fM; omega
  have l2 : fD n ≤ 31 := by unfold fD; omega
  have l3 : fh n ≤ 31 := by unfold fh; omega
  have l4 : fm n ≤ 63 := by unfold fm; omega
  have l5 : n % 32 ≤ 31 := by omega
  clear H
  generalize fY n = F0 at *
  generalize fM n = F1 at *
  generalize fD n = F2 at *
  generalize fh n = F3 at *
  generalize fm n = F4 at *
  generalize fs n = F5 at *
  generalize n % 32 = r at *
  go_enter Tryz.func74, Tryz.ntmps74
  go_wp2_with fail
  rw [EY.out, ES.out]
  refine (HH.out _).mono ?_; rintro e w1 ⟨rfl, hb⟩
  go_wp2_with fail
  go_ret2
  exact ⟨rfl, hb⟩
theorem rfromDOS_any {n : Nat} {x : Int} {z : Nat} (hn : n < 4294967296) (H : FdIs n x z) (w : World) :
    Calls Tryz.prog 55 #[.int .u32 (n : Nat)] w fun e w' => e = .returned (.tuple #[.int .i64 x, .int .i64 (z : Nat)]) ∧ Below w.heap.size w w' := by
  have HH := Lib.hid (fun w => rsec_any H w)
  have E0 : Hid (((n : Nat) : Int) / 65536 / 512 + 1980 = ((fY n : Nat) : Int)) := by show _ = _; unfold fY; omega
  have E1 : Hid (((n : Nat) : Int) / 65536 / 32 % 16 = ((fM n : Nat) : Int)) := by show _ = _; unfold fM; omega
  have E2 : Hid (((n : Nat) : Int) / 65536 % 32 = ((fD n : Nat) : Int)) := by show _ = _; unfold fD; omega
  have E3 : Hid (((n : Nat) : Int) % 65536 / 2048 = ((fh n : Nat) : Int)) := by show _ = _; unfold fh; omega
  have E4 : Hid (((n : Nat) : Int) % 65536 / 32 % 64 = ((fm n : Nat) : Int)) := by show _ = _; unfold fm; omega
  have E5 : Hid (((n : Nat) : Int) % 32 * 2 = ((fs n : Nat) : Int)) := by show _ = _; unfold fs; omega
  clear H
  generalize fY n = F0 at *
  generalize fM n = F1 at *
  generalize fD n = F2 at *
  generalize fh n = F3 at *
  generalize fm n = F4 at *
  generalize fs n = F5 at *
  go_enter Tryz.func55, Tryz.ntmps55
  go_wp2_with fail
  rw [E0.out, E1.out, E2.out, E3.out, E4.out, E5.out]
  refine (HH.out _).mono ?_; rintro e w1 ⟨rfl, hb⟩
  go_wp2_with fail
  go_ret2
  exact ⟨rfl, hb⟩

/-! ### ToDOS -/
def dosN (y m d t : Nat) : Nat := (y - 1980) * 33554432 + m * 2097152 + d * 65536 + t / 3600 * 2048 + t / 60 % 60 * 32 + t % 60 / 2
end Go.Proofs.YtjnoapbddifcpaaGreatDoor
