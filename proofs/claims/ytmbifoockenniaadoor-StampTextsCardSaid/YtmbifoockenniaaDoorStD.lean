/-
  Contracts: Of.
-/
import Derived.Test.YtmbifoockenniaaDoorStC
namespace Go.Proofs.YtmbifoockenniaaDoor
set_option maxRecDepth 100000
open Go.RowKit Go.Joins

theorem of_n (t : Int) (h : t < -62135596800 ∨ 253402300799 < t) (w : World) :
    Calls Tryd.prog 11 #[.int .i64 t] w fun e w' => e = .returned (.tuple #[.agg #[.int .i64 0, .int .i64 0, .int .i64 0, .int .i64 0, .int .i64 0, .int .i64 0], .int .i64 23]) ∧ Below w.heap.size w w' := by
  have HZ := zero_date
  have HB := Lib.hid ((Below.refl w.heap.size w).alloc (Nat.le_refl _) (.cells #[.int .i64 0, .int .i64 0, .int .i64 0, .int .i64 0, .int .i64 0, .int .i64 0] 23))
  have HR := Lib.hid (heap_alloc_new w (.cells #[.int .i64 0, .int .i64 0, .int .i64 0, .int .i64 0, .int .i64 0, .int .i64 0] 23))
  rcases h with h | h
  · go_enter Tryd.func11, Tryd.ntmps11
    go_wp2_with (refine wpList_store_row rfl 23 (.tmp 2) (.tmp 14) rfl w.heap.size #[.int .i64 0, .int .i64 0, .int .i64 0, .int .i64 0, .int .i64 0, .int .i64 0] rfl rfl 23 #[.int .i64 0, .int .i64 0, .int .i64 0, .int .i64 0, .int .i64 0, .int .i64 0] HR.out info_date rfl (six_one _ _ _ _ _ _) ?_)
    exact bodyPost_ret (results_ct_row rfl _ _ w.heap.size 23 #[.int .i64 0, .int .i64 0, .int .i64 0, .int .i64 0, .int .i64 0, .int .i64 0] (0, 0) _ rfl (setRow_heap _ _ _ _ _ _ HR.out) Tryd.underlying23 rfl info_date) rfl ⟨rfl, below_setRow HB.out (Nat.le_refl _) _⟩
  · have h1 : ¬ t < -62135596800 := by omega
    have h1' : decide (t < -62135596800) = false := decide_eq_false h1
    clear h1
    go_enter Tryd.func11, Tryd.ntmps11
    go_wp2_with (refine wpList_store_row rfl 23 (.tmp 2) (.tmp 14) rfl w.heap.size #[.int .i64 0, .int .i64 0, .int .i64 0, .int .i64 0, .int .i64 0, .int .i64 0] rfl rfl 23 #[.int .i64 0, .int .i64 0, .int .i64 0, .int .i64 0, .int .i64 0, .int .i64 0] HR.out info_date rfl (six_one _ _ _ _ _ _) ?_)
    exact bodyPost_ret (results_ct_row rfl _ _ w.heap.size 23 #[.int .i64 0, .int .i64 0, .int .i64 0, .int .i64 0, .int .i64 0, .int .i64 0] (0, 0) _ rfl (setRow_heap _ _ _ _ _ _ HR.out) Tryd.underlying23 rfl info_date) rfl ⟨rfl, below_setRow HB.out (Nat.le_refl _) _⟩

set_option maxHeartbeats 1000000 in
theorem of_y (y m d s : Nat) (hd : IsDate y m d s) (w : World) :
    Calls Tryd.prog 11 #[.int .i64 (tI y m d s)] w fun e w' => e = .returned (.tuple #[.agg #[.int .i64 (y : Nat), .int .i64 (m : Nat), .int .i64 (d : Nat), .int .i64 (s / 3600 : Nat), .int .i64 (s / 60 % 60 : Nat), .int .i64 (s % 60 : Nat)], .int .i64 0]) ∧ Below w.heap.size w w' := by
  have HZ := zero_date
  have HB := Lib.hid ((Below.refl w.heap.size w).alloc (Nat.le_refl _) (.cells #[.int .i64 0, .int .i64 0, .int .i64 0, .int .i64 0, .int .i64 0, .int .i64 0] 23))
  have HR := Lib.hid (heap_alloc_new w (.cells #[.int .i64 0, .int .i64 0, .int .i64 0, .int .i64 0, .int .i64 0, .int .i64 0] 23))
  have y1 := hd.y1; have y2 := hd.y2; have m1 := hd.m1; have m2 := hd.m2; have d1 := hd.d1; have d2 := hd.d2; have s2 := hd.s2
  obtain ⟨b1, b2⟩ := tI_bd hd
  have hlt := hd.lt
  have htm := hd.time
  have hdays := hd.days
  have hT : ((timeN y m d s : Nat) : Int) / 86400 = ((dbf y + (mb y m + (d - 1)) : Nat) : Int) ∧ ((timeN y m d s : Nat) : Int) % 86400 = (s : Nat) := by
    unfold timeN
    generalize dbf y = a
    generalize mb y m = b
    omega
  have e1 : tI y m d s - -62135596800 = (timeN y m d s : Nat) := by unfold tI; omega
  have HY := Lib.hid (fun w => yearOf_any y (mb y m + (d - 1)) y1 y2 (by omega) w)
  rw [← hT.1] at HY
  have HT2 := Lib.hid hT.2
  have HMB : Hid (∀ k, 1 ≤ k → k < m → mb y (k + 1) = mb y k + ml y k ∧ mb y k + ml y k ≤ mb y m + (d - 1)) := fun k a b => ⟨mb_succ y k a, by have := mb_strict y k m a b; omega⟩
  have HML : Hid (∀ k, 1 ≤ k → k ≤ m → mb y k ≤ mb y m ∧ ml y k ≤ 31) := fun k a b => ⟨mb_mono y k m a b, (ml_bd y k).2⟩
  have HMD : Hid (∀ (k : Nat) (w : World), 1 ≤ k → k ≤ 12 → Calls Tryd.prog 35 #[.int .i64 (y : Nat), .int .i64 (k : Nat)] w fun e w' => e = .returned (.int .i64 (ml y k : Nat)) ∧ w = w') := fun k w a b => monthDays_any y k (by omega) a b w
  have HM1 : Hid (mb y 1 = 0) := mb_one y
  have hml := ml_bd y m
  have hmle := mb_le y m m1 m2
  have hT0 : 0 ≤ ((timeN y m d s : Nat) : Int) := by omega
  have hT1 : ((timeN y m d s : Nat) : Int) ≤ 315537897600 := by omega
  clear hT hlt hdays htm hd
  generalize ((timeN y m d s : Nat) : Int) = T at *
  generalize tI y m d s = TT at *
  have hsm : s / 3600 ≤ 23 := by omega
  go_enter Tryd.func11, Tryd.ntmps11
  go_wp2_with fail
  refine (HY.out _).mono ?_; rintro r w1 ⟨rfl, rfl⟩
  generalize w.alloc (.cells #[.int .i64 0, .int .i64 0, .int .i64 0, .int .i64 0, .int .i64 0, .int .i64 0] 23) = wz at *
  clear HY e1
  go_wp2_with fail
  go_loop [5, 6] (fun v i => ∃ k : Nat, 1 ≤ k ∧ k ≤ m ∧ i = .int .i64 (k : Nat) ∧ v = .int .i64 ((mb y m + (d - 1) - mb y k : Nat) : Int)) (fun _ i => m - (intOf i).toNat)
  case atStart => exact ⟨1, by omega, m1, rfl, by rw [HM1.out]; rfl⟩
  case round =>
    obtain ⟨k, k1, k2, rfl, rfl⟩ := hrel
    obtain ⟨b1, b2⟩ := HML.out k k1 k2
    by_cases hk : k < m
    · obtain ⟨hs1, hs2⟩ := HMB.out k k1 hk
      have HMS := Lib.hid hs1
      have hge : ml y k ≤ mb y m + (d - 1) - mb y k := by omega
      have hsb : mb y m + (d - 1) - mb y k ≤ 400 := by omega
      have HSB : Hid (mb y m + (d - 1) - mb y (k + 1) = (mb y m + (d - 1) - mb y k) - ml y k) := by show _ = _; rw [hs1]; omega
      clear hs1 hs2
      generalize mb y m + (d - 1) - mb y k = V at *
      go_wp2_with fail
      refine (HMD.out k _ k1 (by omega)).mono ?_; rintro e w2 ⟨rfl, rfl⟩
      go_wp2_with fail
      refine (HMD.out k _ k1 (by omega)).mono ?_; rintro e w2 ⟨rfl, rfl⟩
      go_wp2_with fail
      go_round
      case rel => exact ⟨k + 1, by omega, by omega, by go_num, by rw [HSB.out]; go_num⟩
      case measure => simp [intOf]; omega
    · obtain rfl : k = m := by omega
      have hV : mb y k + (d - 1) - mb y k = d - 1 := by omega
      have HD1 : Hid (((d - 1 : Nat) : Int) + 1 = (d : Nat)) := by show _ = _; omega
      rw [hV]
      have hlt : d - 1 < ml y k := by omega
      have hdb : d - 1 ≤ 31 := by omega
      clear hV HMB HML
      generalize d - 1 = V at *
      go_wp2_with fail
      refine (HMD.out k _ k1 (by omega)).mono ?_; rintro e w2 ⟨rfl, rfl⟩
      have ht := HT2.out
      generalize ml y k = L at *
      go_wp2_with (refine wpList_store_row rfl 23 (.tmp 2) (.tmp 48) rfl w.heap.size #[.int .i64 (y : Nat), .int .i64 (k : Nat), .int .i64 (((V : Nat) : Int) + 1), .int .i64 (((s : Nat) : Int) / 3600), .int .i64 (((s : Nat) : Int) / 60 % 60), .int .i64 (((s : Nat) : Int) % 60)] rfl rfl 23 #[.int .i64 0, .int .i64 0, .int .i64 0, .int .i64 0, .int .i64 0, .int .i64 0] HR.out info_date rfl (six_one _ _ _ _ _ _) ?_)
      exact bodyPost_ret (results_ct_row rfl _ _ w.heap.size 23 #[.int .i64 (y : Nat), .int .i64 (k : Nat), .int .i64 (((V : Nat) : Int) + 1), .int .i64 (((s : Nat) : Int) / 3600), .int .i64 (((s : Nat) : Int) / 60 % 60), .int .i64 (((s : Nat) : Int) % 60)] (0, 0) _ rfl (setRow_heap _ _ _ _ _ _ HR.out) Tryd.underlying23 rfl info_date) rfl ⟨by rw [HD1.out]; rfl, below_setRow HB.out (Nat.le_refl _) _⟩
end Go.Proofs.YtmbifoockenniaaDoor
