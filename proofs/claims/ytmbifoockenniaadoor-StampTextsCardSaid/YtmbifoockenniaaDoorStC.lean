/-
  Contracts: Seconds, Of.
-/
import Derived.Test.YtmbifoockenniaaDoorStB
namespace Go.Proofs.YtmbifoockenniaaDoor
set_option maxRecDepth 100000
open Go.RowKit Go.Joins

/-- A date's time. -/
def tI (y m d t : Nat) : Int := (timeN y m d t : Nat) - 62135596800
theorem tI_eq {y m d t : Nat} (h : IsDate y m d t) : (((dbf y : Nat) : Int) + (((d : Nat) : Int) - 1 + (mb y m : Nat)) - 719162) * 86400 + ((t / 3600 : Nat) * 3600 + (t / 60 % 60 : Nat) * 60 + (t % 60 : Nat)) = tI y m d t := by
  have h1 := h.d1
  unfold tI timeN
  generalize dbf y = a
  generalize mb y m = b
  omega
theorem tI_bd {y m d t : Nat} (h : IsDate y m d t) : -62135596800 ≤ tI y m d t ∧ tI y m d t ≤ 253402300799 := by
  have := h.time
  unfold tI
  omega
theorem lt_of_heap {w : World} {g : Nat} {o : Obj} (h : w.heap[g]? = some o) : g < w.heap.size := by
  rcases Nat.lt_or_ge g w.heap.size with hlt | hge
  · exact hlt
  · rw [Array.getElem?_eq_none hge] at h; cases h

theorem seconds_n (Y M D h mi s : Int) (hr : ¬ Right Y M D h mi s) (w : World) :
    Calls Tryd.prog 13 #[.agg #[.int .i64 Y, .int .i64 M, .int .i64 D, .int .i64 h, .int .i64 mi, .int .i64 s]] w fun e w' => e = .returned (.tuple #[.int .i64 0, .int .i64 23]) ∧ Below w.heap.size w w' := by
  have HE := Lib.hid (fun w => exists_n Y M D h mi s hr w)
  have HB := Lib.hid ((Below.refl w.heap.size w).alloc (Nat.le_refl _) (.cells #[.int .i64 Y, .int .i64 M, .int .i64 D, .int .i64 h, .int .i64 mi, .int .i64 s] 23))
  clear hr
  go_enter Tryd.func13, Tryd.ntmps13
  go_wp2_with fail
  refine (HE.out _).mono ?_; rintro r w1 ⟨rfl, h1⟩
  have HC := Lib.hid (below_then HB.out h1)
  clear h1
  go_wp2_with fail
  go_ret2
  exact ⟨rfl, HC.out⟩

set_option maxHeartbeats 1000000 in
theorem seconds_y (y m d t : Nat) (hd : IsDate y m d t) (w : World) :
    Calls Tryd.prog 13 #[.agg #[.int .i64 (y : Nat), .int .i64 (m : Nat), .int .i64 (d : Nat), .int .i64 (t / 3600 : Nat), .int .i64 (t / 60 % 60 : Nat), .int .i64 (t % 60 : Nat)]] w fun e w' => e = .returned (.tuple #[.int .i64 (tI y m d t), .int .i64 0]) ∧ Below w.heap.size w w' := by
  have HE := Lib.hid (fun w => exists_y _ _ _ _ _ _ (right_of hd) w)
  have HT := Lib.hid (tI_eq hd)
  have HTB := tI_bd hd
  have y1 := hd.y1; have y2 := hd.y2; have m1 := hd.m1; have m2 := hd.m2; have d1 := hd.d1; have d2 := hd.d2; have s2 := hd.s2
  have hml := ml_bd y m
  have hmle := mb_le y m m1 m2
  have hdb := (dbf_ge y y1).2
  have hdb2 : dbf y ≤ 3700000 := by omega
  have hA : t / 3600 ≤ 23 := by omega
  have hBb : t / 60 % 60 ≤ 59 := by omega
  have hCc : t % 60 ≤ 59 := by omega
  have HMB : Hid (∀ k, 1 ≤ k → k < m → mb y (k + 1) = mb y k + ml y k) := fun k a _ => mb_succ y k a
  have HML : Hid (∀ k, 1 ≤ k → k ≤ m → mb y k ≤ 366 ∧ ml y k ≤ 31) := fun k a b => ⟨by have := mb_le y k a (by omega); omega, (ml_bd y k).2⟩
  have HMD : Hid (∀ (k : Nat) (w : World), 1 ≤ k → k ≤ 12 → Calls Tryd.prog 35 #[.int .i64 (y : Nat), .int .i64 (k : Nat)] w fun e w' => e = .returned (.int .i64 (ml y k : Nat)) ∧ w = w') := fun k w a b => monthDays_any y k (by omega) a b w
  have HDA := Lib.hid (fun w => daysAhead_any y y1 (by omega) w)
  have HM1 : Hid (mb y 1 = 0) := mb_one y
  have HB := Lib.hid ((Below.refl w.heap.size w).alloc (Nat.le_refl _) (.cells #[.int .i64 (y : Nat), .int .i64 (m : Nat), .int .i64 (d : Nat), .int .i64 (t / 3600 : Nat), .int .i64 (t / 60 % 60 : Nat), .int .i64 (t % 60 : Nat)] 23))
  have HR := Lib.hid (heap_alloc_new w (.cells #[.int .i64 (y : Nat), .int .i64 (m : Nat), .int .i64 (d : Nat), .int .i64 (t / 3600 : Nat), .int .i64 (t / 60 % 60 : Nat), .int .i64 (t % 60 : Nat)] 23))
  generalize tI y m d t = TT at *
  clear hd s2
  generalize t / 3600 = a at *
  generalize t / 60 % 60 = b at *
  generalize t % 60 = c at *
  go_enter Tryd.func13, Tryd.ntmps13
  go_wp2_with fail
  refine (HE.out _).mono ?_; rintro r w1 ⟨rfl, h1⟩
  have hb1 := below_then HB.out h1
  have hr1 := (h1.block _ (lt_of_heap HR.out)).trans HR.out
  clear h1 HB HR HE
  have c0 : w1.cell? ⟨w.heap.size, 0, none⟩ = some (.int .i64 (y : Nat)) := by rw [cell_of_row _ _ 0 _ _ _ hr1]; rfl
  have c1 : w1.cell? ⟨w.heap.size, 1, none⟩ = some (.int .i64 (m : Nat)) := by rw [cell_of_row _ _ 1 _ _ _ hr1]; rfl
  have c2 : w1.cell? ⟨w.heap.size, 2, none⟩ = some (.int .i64 (d : Nat)) := by rw [cell_of_row _ _ 2 _ _ _ hr1]; rfl
  have c3 : w1.cell? ⟨w.heap.size, 3, none⟩ = some (.int .i64 (a : Nat)) := by rw [cell_of_row _ _ 3 _ _ _ hr1]; rfl
  have c4 : w1.cell? ⟨w.heap.size, 4, none⟩ = some (.int .i64 (b : Nat)) := by rw [cell_of_row _ _ 4 _ _ _ hr1]; rfl
  have c5 : w1.cell? ⟨w.heap.size, 5, none⟩ = some (.int .i64 (c : Nat)) := by rw [cell_of_row _ _ 5 _ _ _ hr1]; rfl
  have HB1 := Lib.hid hb1
  clear hb1 hr1
  go_wp2_with fail
  go_loop [4, 5] (fun v i => ∃ k : Nat, 1 ≤ k ∧ k ≤ m ∧ i = .int .i64 (k : Nat) ∧ v = .int .i64 (((d : Nat) : Int) - 1 + (mb y k : Nat))) (fun _ i => m - (intOf i).toNat)
  case atStart => exact ⟨1, by omega, m1, rfl, by rw [HM1.out]; go_num⟩
  case round =>
    obtain ⟨k, k1, k2, rfl, rfl⟩ := hrel
    obtain ⟨b1, b2⟩ := HML.out k k1 k2
    by_cases hk : k < m
    · have HMS := Lib.hid (HMB.out k k1 hk)
      generalize mb y k = B at *
      go_wp2_with fail
      refine (HMD.out k _ k1 (by omega)).mono ?_; rintro e w2 ⟨rfl, rfl⟩
      generalize ml y k = L at *
      go_wp2_with fail
      go_round
      case rel => exact ⟨k + 1, by omega, by omega, by go_num, by rw [HMS.out]; go_num⟩
      case measure => simp [intOf]; omega
    · obtain rfl : k = m := by omega
      generalize mb y k = B at *
      generalize dbf y = F at *
      clear HMB HML HMD
      go_wp2_with fail
      refine (HDA.out _).mono ?_; rintro e w2 ⟨rfl, rfl⟩
      go_wp2_with fail
      go_ret2
      exact ⟨by rw [← HT.out]; rfl, HB1.out⟩
end Go.Proofs.YtmbifoockenniaaDoor
