/-
  Contracts: the document's Of.
-/
import Derived.Test.YtmbifoockenniaaDoorStE
import Derived.Deep.DeepCutAuto
import Derived.Deep.CutBlock
namespace Go.Proofs.YtmbifoockenniaaDoor
set_option maxRecDepth 100000
open Go.RowKit Go.Joins

theorem info_rdate : (Tryd.prog.info? 28).map (·.size) = some 6 := by kernel_rfl
theorem zero_rdate (w : World) : (zeroValue 28).run Tryd.prog w = .ok (.agg #[.int .i64 0, .int .i64 0, .int .i64 0, .int .i64 0, .int .i64 0, .int .i64 0]) w := by kernel_rfl
theorem tdiv_neg (t : Int) (h : t < 0) : 86400 * t.tdiv 86400 + t.tmod 86400 = t ∧ t.tmod 86400 ≤ 0 ∧ -86400 < t.tmod 86400 ∧ t.tdiv 86400 ≤ 0 := by
  obtain ⟨n, rfl⟩ : ∃ n : Nat, t = -(n : Int) := ⟨t.natAbs, by omega⟩
  rw [Int.neg_tdiv, Int.neg_tmod]
  have h1 : ((n : Nat) : Int).tdiv 86400 = ((n / 86400 : Nat) : Int) := by
    rw [Int.tdiv_eq_ediv_of_nonneg (by omega)]
    omega
  have h2 : ((n : Nat) : Int).tmod 86400 = ((n % 86400 : Nat) : Int) := by
    rw [Int.tmod_eq_emod_of_nonneg (by omega)]
    omega
  rw [h1, h2]
  omega

theorem tdiv_all (t : Int) : 86400 * t.tdiv 86400 + t.tmod 86400 = t ∧ t.tmod 86400 < 86400 ∧ -86400 < t.tmod 86400 := by
  by_cases h : t < 0
  · obtain ⟨h1, h2, h3, _⟩ := tdiv_neg t h
    exact ⟨h1, by omega, h3⟩
  · rw [Int.tdiv_eq_ediv_of_nonneg (by omega), Int.tmod_eq_emod_of_nonneg (by omega)]
    omega

set_option maxHeartbeats 2000000 in
theorem rof_no (t : Int) (h : t < -62135596800 ∨ 253402300799 < t) (hw : (Lit.int .i64 t).wf = true) (w : World) :
    Calls Tryd.prog 12 #[.int .i64 t] w fun e w' => e = .returned (.tuple #[.agg #[.int .i64 0, .int .i64 0, .int .i64 0, .int .i64 0, .int .i64 0, .int .i64 0], .int .i64 23]) ∧ Below w.heap.size w w' := by
  have HZ := zero_rdate
  have hb := bounds_i64 hw
  clear hw
  have HB := Lib.hid ((Below.refl w.heap.size w).alloc (Nat.le_refl _) (.cells #[.int .i64 0, .int .i64 0, .int .i64 0, .int .i64 0, .int .i64 0, .int .i64 0] 28))
  have HR := Lib.hid (heap_alloc_new w (.cells #[.int .i64 0, .int .i64 0, .int .i64 0, .int .i64 0, .int .i64 0, .int .i64 0] 28))
  rcases h with h | h
  · obtain ⟨k1, k2, k3, k4⟩ := tdiv_neg t (by omega)
    generalize hq : t.tdiv 86400 = q at *
    generalize hr : t.tmod 86400 = r at *
    have k5 : -110000000000000 ≤ q := by omega
    by_cases h0 : r < 0
    · have g : q - 1 < -719162 := by omega
      clear k1
      go_enter Tryd.func12, Tryd.ntmps12
      go_wp2_with (refine wpList_store_row rfl 28 (.tmp 2) (.tmp 25) rfl w.heap.size #[.int .i64 0, .int .i64 0, .int .i64 0, .int .i64 0, .int .i64 0, .int .i64 0] rfl rfl 28 #[.int .i64 0, .int .i64 0, .int .i64 0, .int .i64 0, .int .i64 0, .int .i64 0] HR.out info_rdate rfl (six_one _ _ _ _ _ _) ?_)
      exact bodyPost_ret (results_ct_row rfl _ _ w.heap.size 28 #[.int .i64 0, .int .i64 0, .int .i64 0, .int .i64 0, .int .i64 0, .int .i64 0] (0, 0) _ rfl (setRow_heap _ _ _ _ _ _ HR.out) Tryd.underlying28 rfl info_rdate) rfl ⟨rfl, below_setRow HB.out (Nat.le_refl _) _⟩
    · have g : q < -719162 := by omega
      clear k1
      go_enter Tryd.func12, Tryd.ntmps12
      go_wp2_with (refine wpList_store_row rfl 28 (.tmp 2) (.tmp 25) rfl w.heap.size #[.int .i64 0, .int .i64 0, .int .i64 0, .int .i64 0, .int .i64 0, .int .i64 0] rfl rfl 28 #[.int .i64 0, .int .i64 0, .int .i64 0, .int .i64 0, .int .i64 0, .int .i64 0] HR.out info_rdate rfl (six_one _ _ _ _ _ _) ?_)
      exact bodyPost_ret (results_ct_row rfl _ _ w.heap.size 28 #[.int .i64 0, .int .i64 0, .int .i64 0, .int .i64 0, .int .i64 0, .int .i64 0] (0, 0) _ rfl (setRow_heap _ _ _ _ _ _ HR.out) Tryd.underlying28 rfl info_rdate) rfl ⟨rfl, below_setRow HB.out (Nat.le_refl _) _⟩
  · have h1 : 2932896 < t / 86400 := by omega
    have h2 : 0 ≤ t % 86400 := by omega
    have h3 : 0 ≤ t := by omega
    have d1 : decide (t / 86400 < -719162) = false := decide_eq_false (by omega)
    go_enter Tryd.func12, Tryd.ntmps12
    go_wp2_with (refine wpList_store_row rfl 28 (.tmp 2) (.tmp 25) rfl w.heap.size #[.int .i64 0, .int .i64 0, .int .i64 0, .int .i64 0, .int .i64 0, .int .i64 0] rfl rfl 28 #[.int .i64 0, .int .i64 0, .int .i64 0, .int .i64 0, .int .i64 0, .int .i64 0] HR.out info_rdate rfl (six_one _ _ _ _ _ _) ?_)
    exact bodyPost_ret (results_ct_row rfl _ _ w.heap.size 28 #[.int .i64 0, .int .i64 0, .int .i64 0, .int .i64 0, .int .i64 0, .int .i64 0] (0, 0) _ rfl (setRow_heap _ _ _ _ _ _ HR.out) Tryd.underlying28 rfl info_rdate) rfl ⟨rfl, below_setRow HB.out (Nat.le_refl _) _⟩

set_option maxHeartbeats 4000000 in
theorem rof_y (y m d s : Nat) (hd : IsDate y m d s) (w : World) :
    Calls Tryd.prog 12 #[.int .i64 (tI y m d s)] w fun e w' => e = .returned (.tuple #[.agg #[.int .i64 (y : Nat), .int .i64 (m : Nat), .int .i64 (d : Nat), .int .i64 (s / 3600 : Nat), .int .i64 (s / 60 % 60 : Nat), .int .i64 (s % 60 : Nat)], .int .i64 0]) ∧ Below w.heap.size w w' := by
  have HZ := zero_rdate
  have HB0 := Lib.hid ((Below.refl w.heap.size w).alloc (Nat.le_refl _) (.cells #[.int .i64 0, .int .i64 0, .int .i64 0, .int .i64 0, .int .i64 0, .int .i64 0] 28))
  have HR0 := Lib.hid (heap_alloc_new w (.cells #[.int .i64 0, .int .i64 0, .int .i64 0, .int .i64 0, .int .i64 0, .int .i64 0] 28))
  have y1 := hd.y1; have y2 := hd.y2; have m1 := hd.m1; have m2 := hd.m2; have d1 := hd.d1; have d2 := hd.d2; have s2 := hd.s2
  obtain ⟨b1, b2⟩ := tI_bd hd
  have hlt := hd.lt
  have hdays := hd.days
  -- day and rest
  have hT : tI y m d s = (((dbf y + (mb y m + (d - 1)) : Nat) : Int) - 719162) * 86400 + (s : Nat) := by
    unfold tI timeN
    generalize dbf y = a
    generalize mb y m = b
    omega
  have hD : dbf y + (mb y m + (d - 1)) < 3652059 := by omega
  have HYS : Hid (∀ k, 1 ≤ k → k < y → dbf (k + 1) = dbf k + yl k ∧ dbf k + yl k ≤ dbf y) := fun k a b => ⟨dbf_succ k a, dbf_strict k y a b⟩
  have HYM : Hid (∀ k, 1 ≤ k → k ≤ y → dbf k ≤ dbf y) := fun k a b => dbf_mono k y a b
  have HY1 : Hid (dbf 1 = 0) := dbf_one
  have HMB : Hid (∀ k, 1 ≤ k → k < m → mb y (k + 1) = mb y k + ml y k ∧ mb y k + ml y k ≤ mb y m + (d - 1)) := fun k a b => ⟨mb_succ y k a, by have := mb_strict y k m a b; omega⟩
  have HML : Hid (∀ k, 1 ≤ k → k ≤ m → mb y k ≤ mb y m ∧ ml y k ≤ 31) := fun k a b => ⟨mb_mono y k m a b, (ml_bd y k).2⟩
  have HMD : Hid (∀ (k : Nat) (w : World), 1 ≤ k → k ≤ 12 → Calls Tryd.prog 37 #[.int .i64 (y : Nat), .int .i64 (k : Nat)] w fun e w' => e = .returned (.int .i64 (ml y k : Nat)) ∧ Below w.heap.size w w') := fun k w a b => rlong_any y k (by omega) a b w
  have HYL : Hid (∀ (k : Nat) (w : World), k ≤ y → Calls Tryd.prog 36 #[.int .i64 (k : Nat)] w fun e w' => e = .returned (.int .i64 (yl k : Nat)) ∧ w = w') := fun k w a => ryear_any k (by omega) w
  have HM1 : Hid (mb y 1 = 0) := mb_one y
  have hyl : mb y m + (d - 1) < yl y := by omega
  have hylb : yl y ≤ 366 := by have := lpN_le y; unfold yl; omega
  have hsm : s / 3600 ≤ 23 := by omega
  generalize hR : mb y m + (d - 1) = R at *
  have HRR := Lib.hid hR
  generalize hDD : dbf y + R = D at *
  have HDD := Lib.hid hDD
  clear hdays hlt hd hR hDD
  generalize tI y m d s = t at *
  obtain ⟨k1, k2, k3⟩ := tdiv_all t
  generalize hq : t.tdiv 86400 = q at *
  generalize hr : t.tmod 86400 = r at *
  have k5 : -110000000000000 ≤ q := by omega
  have k6 : q ≤ 110000000000000 := by omega
  have KK : Hid ((r < 0 → r + 86400 = (s : Nat) ∧ q - 1 = ((D : Nat) : Int) - 719162) ∧ (0 ≤ r → r = (s : Nat) ∧ q = ((D : Nat) : Int) - 719162)) := ⟨fun h => by omega, fun h => by omega⟩
  clear hT k1
  go_enter Tryd.func12, Tryd.ntmps12
  go_upto_if 14 with fail
  go_cut [4, 5] from 9 (fun v u wx => v = .int .i64 (((D : Nat) : Int) - 719162) ∧ u = .int .i64 (s : Nat) ∧ wx = w.alloc (.cells #[.int .i64 0, .int .i64 0, .int .i64 0, .int .i64 0, .int .i64 0, .int .i64 0] 28))
  case first => as_aux_lemma =>
    by_cases h1 : r < 0
    · obtain ⟨e1, e2⟩ := KK.out.1 h1
      have E1 := Lib.hid e1
      have E2 := Lib.hid e2
      clear e1 e2 KK
      go_wp2_with fail
      go_meet
      exact ⟨by rw [← E2.out], by rw [← E1.out], rfl⟩
    · obtain ⟨e1, e2⟩ := KK.out.2 (by omega)
      have E1 := Lib.hid e1
      have E2 := Lib.hid e2
      clear e1 e2 KK
      go_wp2_with fail
      go_meet
      exact ⟨by rw [← E2.out], by rw [← E1.out], rfl⟩
  case rest =>
  obtain ⟨rfl, rfl, rfl⟩ := hcut
  clear KK k2 k3 k5 k6 b1 b2 hq hr
  have HR := Lib.hid HR0.out
  have HB := Lib.hid HB0.out
  clear HR0 HB0
  generalize w.alloc (.cells #[.int .i64 0, .int .i64 0, .int .i64 0, .int .i64 0, .int .i64 0, .int .i64 0] 28) = wz at *
  have eD : ((D : Nat) : Int) - 719162 + 719162 = (D : Nat) := by omega
  have dec1 : decide (((D : Nat) : Int) - 719162 < -719162) = false := decide_eq_false (by omega)
  have dec2 : decide (2932896 < ((D : Nat) : Int) - 719162) = false := decide_eq_false (by omega)
  go_wp2_with fail
  clear eD dec1 dec2
  go_loop [6, 7] (fun v i => ∃ k : Nat, 1 ≤ k ∧ k ≤ y ∧ i = .int .i64 (k : Nat) ∧ v = .int .i64 ((D - dbf k : Nat) : Int)) (fun _ i => y - (intOf i).toNat)
  case atStart => exact ⟨1, by omega, y1, rfl, by rw [HY1.out]; first | rfl | (congr 1; omega)⟩
  case round =>
    obtain ⟨k, k1, k2, rfl, rfl⟩ := hrel
    have hkm := HYM.out k k1 k2
    have hylk : yl k ≤ 366 := by have := lpN_le k; unfold yl; omega
    by_cases hk : k < y
    · obtain ⟨hs1, hs2⟩ := HYS.out k k1 hk
      have hge : yl k ≤ D - dbf k := by have := HDD.out; omega
      have hsb : D - dbf k ≤ 3700000 := by omega
      have HSB : Hid (D - dbf (k + 1) = (D - dbf k) - yl k) := by show _ = _; rw [hs1]; omega
      clear hs1 hs2 hkm
      generalize D - dbf k = V at *
      go_wp2_with fail
      refine (HYL.out k _ k2).mono ?_; rintro e w2 ⟨rfl, rfl⟩
      go_wp2_with fail
      refine (HYL.out k _ k2).mono ?_; rintro e w2 ⟨rfl, rfl⟩
      go_wp2_with fail
      go_round
      case rel => exact ⟨k + 1, by omega, by omega, by go_num, by rw [HSB.out]; go_num⟩
      case measure => simp [intOf]; omega
    · obtain rfl : k = y := by omega
      have hV : D - dbf k = R := by have := HDD.out; omega
      rw [hV]
      have dec3 : decide (yl k ≤ R) = false := decide_eq_false (by omega)
      clear hV hkm HYM HYS HY1
      go_wp2_with fail
      refine (HYL.out k _ k2).mono ?_; rintro e w2 ⟨rfl, rfl⟩
      go_wp2_with fail
      go_loopw [6, 8] (fun v i wr => ∃ j : Nat, 1 ≤ j ∧ j ≤ m ∧ i = .int .i64 (j : Nat) ∧ v = .int .i64 ((R - mb k j : Nat) : Int) ∧ wr.heap[w.heap.size]? = some (.cells #[.int .i64 0, .int .i64 0, .int .i64 0, .int .i64 0, .int .i64 0, .int .i64 0] 28 (0, 0)) ∧ Below w.heap.size w wr) (fun _ i _ => m - (intOf i).toNat)
      case atStart => exact ⟨1, by omega, m1, rfl, by rw [HM1.out]; rfl, HR.out, HB.out⟩
      case round =>
        clear HR HB
        obtain ⟨j, j1, j2, rfl, rfl, hr, hb⟩ := hrel
        have HR := Lib.hid hr
        have HB := Lib.hid hb
        clear hr hb
        obtain ⟨b1, b2⟩ := HML.out j j1 j2
        by_cases hj : j < m
        · obtain ⟨hs1, hs2⟩ := HMB.out j j1 hj
          have hge : ml k j ≤ R - mb k j := by omega
          have hsb : R - mb k j ≤ 400 := by omega
          have HSB : Hid (R - mb k (j + 1) = (R - mb k j) - ml k j) := by show _ = _; rw [hs1]; omega
          clear hs1 hs2 b1
          generalize R - mb k j = V at *
          go_wp2_with fail
          refine (HMD.out j _ j1 (by omega)).mono ?_; rintro e w2 ⟨rfl, h2⟩
          have HR2 := Lib.hid ((h2.block _ (lt_of_heap HR.out)).trans HR.out)
          have HB2 := Lib.hid (below_then HB.out h2)
          clear h2
          go_wp2_with fail
          refine (HMD.out j _ j1 (by omega)).mono ?_; rintro e w3 ⟨rfl, h3⟩
          have HR3 := Lib.hid ((h3.block _ (lt_of_heap HR2.out)).trans HR2.out)
          have HB3 := Lib.hid (below_then HB2.out h3)
          clear h3
          go_wp2_with fail
          go_roundw
          case rel => exact ⟨j + 1, by omega, by omega, by go_num, by rw [HSB.out]; go_num, HR3.out, HB3.out⟩
          case measure => simp [intOf]; omega
        · obtain rfl : j = m := by omega
          have hV : R - mb k j = d - 1 := by have := HRR.out; omega
          have HD1 : Hid (((d - 1 : Nat) : Int) + 1 = (d : Nat)) := by show _ = _; omega
          rw [hV]
          have hlt : d - 1 < ml k j := by omega
          have hdb : d - 1 ≤ 31 := by omega
          have HSS : Hid (((s : Nat) : Int) % 3600 / 60 = ((s / 60 % 60 : Nat) : Int)) := by show _ = _; omega
          clear hV HMB HML b1
          generalize d - 1 = V at *
          go_wp2_with fail
          refine (HMD.out j _ j1 (by omega)).mono ?_; rintro e w2 ⟨rfl, h2⟩
          have HR2 := Lib.hid ((h2.block _ (lt_of_heap HR.out)).trans HR.out)
          have HB2 := Lib.hid (below_then HB.out h2)
          clear h2
          generalize ml k j = L at *
          go_wp2_with (refine wpList_store_row rfl 28 (.tmp 2) (.tmp 61) rfl w.heap.size #[.int .i64 (k : Nat), .int .i64 (j : Nat), .int .i64 (((V : Nat) : Int) + 1), .int .i64 (((s : Nat) : Int) / 3600), .int .i64 (((s : Nat) : Int) % 3600 / 60), .int .i64 (((s : Nat) : Int) % 60)] rfl rfl 28 #[.int .i64 0, .int .i64 0, .int .i64 0, .int .i64 0, .int .i64 0, .int .i64 0] HR2.out info_rdate rfl (six_one _ _ _ _ _ _) ?_)
          exact bodyPost_ret (results_ct_row rfl _ _ w.heap.size 28 #[.int .i64 (k : Nat), .int .i64 (j : Nat), .int .i64 (((V : Nat) : Int) + 1), .int .i64 (((s : Nat) : Int) / 3600), .int .i64 (((s : Nat) : Int) % 3600 / 60), .int .i64 (((s : Nat) : Int) % 60)] (0, 0) _ rfl (setRow_heap _ _ _ _ _ _ HR2.out) Tryd.underlying28 rfl info_rdate) rfl ⟨by rw [HD1.out, HSS.out]; rfl, below_setRow HB2.out (Nat.le_refl _) _⟩
end Go.Proofs.YtmbifoockenniaaDoor
