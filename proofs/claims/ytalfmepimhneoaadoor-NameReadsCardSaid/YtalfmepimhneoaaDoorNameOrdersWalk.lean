/-
  The walk of NameOrders: it returns true, whatever the paths.
-/
import Derived.Test.YtalfmepimhneoaaDoorNamG
namespace Go.Proofs.YtalfmepimhneoaaDoor
set_option maxRecDepth 100000
open Go.RowKit Go.Deep Go.Joins Go.Lib

theorem ordT_neg (a b : ByteArray) : ordT b a = - ordT a b := ordL_neg _ _
theorem ordT_three (a b : ByteArray) : ordT a b = -1 ∨ ordT a b = 0 ∨ ordT a b = 1 := ordL_three _ _
theorem nums_inj {a b : ByteArray} (h : nums a = nums b) : a = b := by rw [← text_nums a, ← text_nums b, h]
theorem ordT_zero (a b : ByteArray) : ordT a b = 0 ↔ a = b := ⟨fun h => nums_inj ((ordL_zero _ _).1 h), fun h => by rw [h]; exact ordL_self _⟩
theorem eq_texts (a b : ByteArray) : (a.toList == b.toList) = decide (a = b) := by
  by_cases h : a = b
  · subst h; simp
  · rw [decide_eq_false h, beq_eq_false_iff_ne, Lib.toList_data, Lib.toList_data]
    intro e
    exact h (ByteArray.ext (Array.toList_inj.1 e))
theorem und_le (a b : ByteArray) (h : undB a b = true) : ordT b a ≤ 0 := by
  unfold undB at h
  have h1 : Lib.hasPrefix a.data.toList b.data.toList = true := by
    cases e : Lib.hasPrefix a.data.toList b.data.toList with
    | true => rfl
    | false => rw [e] at h; exact absurd h (by simp)
  unfold Lib.hasPrefix at h1
  rw [List.isPrefixOf_iff_prefix] at h1
  obtain ⟨t, ht⟩ := h1
  unfold ordT
  have e : nums a = nums b ++ t.map UInt8.toNat := by unfold nums; rw [← ht, List.map_append]
  rw [e]
  exact ordL_prefix _ _

theorem orders_big (a b c : ByteArray) (w : World) (hE : Env w) (h : ¬ (a.size ≤ 1000 ∧ b.size ≤ 1000 ∧ c.size ≤ 1000)) :
    Calls Tryd.prog 8 #[.string a, .string b, .string c] w fun e w' => e = .returned (.bool true) ∧ Below w.heap.size w w' := by
  have HA := Lib.hid (awake10_any w hE)
  by_cases h1 : 1000 < a.size
  · have g1 : decide ((1000 : Int) < (a.size : Int)) = true := decide_eq_true (by omega)
    clear h
    go_enter Tryd.func8, Tryd.ntmps8
    go_wp2_with fail
    refine (HA.out).mono ?_
    rintro e w1 ⟨rfl, hb⟩
    go_wp2_with fail
    go_ret
    exact ⟨rfl, hb⟩
  · have g1 : decide ((1000 : Int) < (a.size : Int)) = false := decide_eq_false (by omega)
    by_cases h2 : 1000 < b.size
    · have g2 : decide ((1000 : Int) < (b.size : Int)) = true := decide_eq_true (by omega)
      clear h h1
      go_enter Tryd.func8, Tryd.ntmps8
      go_wp2_with fail
      refine (HA.out).mono ?_
      rintro e w1 ⟨rfl, hb⟩
      go_wp2_with fail
      go_ret
      exact ⟨rfl, hb⟩
    · have g2 : decide ((1000 : Int) < (b.size : Int)) = false := decide_eq_false (by omega)
      have g3 : decide ((1000 : Int) < (c.size : Int)) = true := decide_eq_true (by omega)
      clear h h1 h2
      go_enter Tryd.func8, Tryd.ntmps8
      go_wp2_with fail
      refine (HA.out).mono ?_
      rintro e w1 ⟨rfl, hb⟩
      go_wp2_with fail
      go_ret
      exact ⟨rfl, hb⟩
set_option maxHeartbeats 4000000 in
theorem orders_m_t_n (a b c : ByteArray) (w : World) (hE : Env w) (ha : a.size ≤ 1000) (hb : b.size ≤ 1000) (hc : c.size ≤ 1000) (hX : ordT a b = -1) (hZ : 0 < ordT b c) (hU : undB a b = false) :
    Calls Tryd.prog 8 #[.string a, .string b, .string c] w fun e w' => e = .returned (.bool true) ∧ Below w.heap.size w w' := by
  have HA := Lib.hid (awake10_any w hE)
  have HAB := Lib.hid (fun w => order_any a b w (by omega))
  have HBA := Lib.hid (fun w => order_any b a w (by omega))
  have HBC := Lib.hid (fun w => order_any b c w (by omega))
  have HAC := Lib.hid (fun w => order_any a c w (by omega))
  have HUN := Lib.hid (fun w => under_any a b w)
  have hq : (a.toList == b.toList) = false := by rw [eq_texts]; exact decide_eq_false (fun e => absurd (((ordT_zero a b).2 e).symm.trans hX) (by decide))
  rw [hX] at HAB
  rw [ordT_neg a b, hX] at HBA
  rw [hU] at HUN
  have g1 : decide ((1000 : Int) < (a.size : Int)) = false := decide_eq_false (by omega)
  have g2 : decide ((1000 : Int) < (b.size : Int)) = false := decide_eq_false (by omega)
  have g3 : decide ((1000 : Int) < (c.size : Int)) = false := decide_eq_false (by omega)
  have g4 : decide ((0 : Int) < ordT b c) = true := decide_eq_true hZ
  clear hZ
  generalize ordT b c = Z at *
  generalize ordT a c = T at *
  clear ha hb hc hX hU
  go_enter Tryd.func8, Tryd.ntmps8
  go_wp2_with fail
  refine (HA.out).mono ?_
  rintro e w1 ⟨rfl, hb1⟩
  have HB1 := Lib.hid hb1
  clear hb1
  go_wp2_with fail
  refine (HAB.out _).mono ?_
  rintro e w2 ⟨rfl, n2, hw2⟩
  have HB2 : Hid (Below w.heap.size w w2) := by subst hw2; exact below_drewN HB1.out n2
  clear hw2
  go_wp2_with fail
  refine (HBA.out _).mono ?_
  rintro e w3 ⟨rfl, n3, hw3⟩
  have HB3 : Hid (Below w.heap.size w w3) := by subst hw3; exact below_drewN HB2.out n3
  clear hw3
  go_wp2_with fail
  refine (HBC.out _).mono ?_
  rintro e w4 ⟨rfl, n4, hw4⟩
  have HB4 : Hid (Below w.heap.size w w4) := by subst hw4; exact below_drewN HB3.out n4
  clear hw4
  go_wp2_with fail
  refine (HUN.out _).mono ?_
  rintro e wu ⟨rfl, rfl⟩
  go_wp2_with fail
  go_ret
  exact ⟨rfl, HB4.out⟩
set_option maxHeartbeats 4000000 in
theorem orders_m_f_n (a b c : ByteArray) (w : World) (hE : Env w) (ha : a.size ≤ 1000) (hb : b.size ≤ 1000) (hc : c.size ≤ 1000) (hX : ordT a b = -1) (hZ : ¬ 0 < ordT b c) (hT : ordT a c ≤ 0) (hU : undB a b = false) :
    Calls Tryd.prog 8 #[.string a, .string b, .string c] w fun e w' => e = .returned (.bool true) ∧ Below w.heap.size w w' := by
  have HA := Lib.hid (awake10_any w hE)
  have HAB := Lib.hid (fun w => order_any a b w (by omega))
  have HBA := Lib.hid (fun w => order_any b a w (by omega))
  have HBC := Lib.hid (fun w => order_any b c w (by omega))
  have HAC := Lib.hid (fun w => order_any a c w (by omega))
  have HUN := Lib.hid (fun w => under_any a b w)
  have hq : (a.toList == b.toList) = false := by rw [eq_texts]; exact decide_eq_false (fun e => absurd (((ordT_zero a b).2 e).symm.trans hX) (by decide))
  rw [hX] at HAB
  rw [ordT_neg a b, hX] at HBA
  rw [hU] at HUN
  have g1 : decide ((1000 : Int) < (a.size : Int)) = false := decide_eq_false (by omega)
  have g2 : decide ((1000 : Int) < (b.size : Int)) = false := decide_eq_false (by omega)
  have g3 : decide ((1000 : Int) < (c.size : Int)) = false := decide_eq_false (by omega)
  have g4 : decide ((0 : Int) < ordT b c) = false := decide_eq_false hZ
  have g5 : decide (ordT a c ≤ (0 : Int)) = true := decide_eq_true hT
  clear hZ hT
  generalize ordT b c = Z at *
  generalize ordT a c = T at *
  clear ha hb hc hX hU
  go_enter Tryd.func8, Tryd.ntmps8
  go_wp2_with fail
  refine (HA.out).mono ?_
  rintro e w1 ⟨rfl, hb1⟩
  have HB1 := Lib.hid hb1
  clear hb1
  go_wp2_with fail
  refine (HAB.out _).mono ?_
  rintro e w2 ⟨rfl, n2, hw2⟩
  have HB2 : Hid (Below w.heap.size w w2) := by subst hw2; exact below_drewN HB1.out n2
  clear hw2
  go_wp2_with fail
  refine (HBA.out _).mono ?_
  rintro e w3 ⟨rfl, n3, hw3⟩
  have HB3 : Hid (Below w.heap.size w w3) := by subst hw3; exact below_drewN HB2.out n3
  clear hw3
  go_wp2_with fail
  refine (HBC.out _).mono ?_
  rintro e w4 ⟨rfl, n4, hw4⟩
  have HB4 : Hid (Below w.heap.size w w4) := by subst hw4; exact below_drewN HB3.out n4
  clear hw4
  go_wp2_with fail
  refine (HAC.out _).mono ?_
  rintro e w5 ⟨rfl, n5, hw5⟩
  have HB5 : Hid (Below w.heap.size w w5) := by subst hw5; exact below_drewN HB4.out n5
  clear hw5
  go_wp2_with fail
  refine (HUN.out _).mono ?_
  rintro e wu ⟨rfl, rfl⟩
  go_wp2_with fail
  go_ret
  exact ⟨rfl, HB5.out⟩
set_option maxHeartbeats 4000000 in
theorem orders_z_t_u (a b c : ByteArray) (w : World) (hE : Env w) (ha : a.size ≤ 1000) (hb : b.size ≤ 1000) (hc : c.size ≤ 1000) (hX : ordT a b = 0) (hZ : 0 < ordT b c) (hU : undB a b = true) :
    Calls Tryd.prog 8 #[.string a, .string b, .string c] w fun e w' => e = .returned (.bool true) ∧ Below w.heap.size w w' := by
  have HA := Lib.hid (awake10_any w hE)
  have HAB := Lib.hid (fun w => order_any a b w (by omega))
  have HBA := Lib.hid (fun w => order_any b a w (by omega))
  have HBC := Lib.hid (fun w => order_any b c w (by omega))
  have HAC := Lib.hid (fun w => order_any a c w (by omega))
  have HUN := Lib.hid (fun w => under_any a b w)
  have hq : (a.toList == b.toList) = true := by rw [eq_texts]; exact decide_eq_true ((ordT_zero a b).1 hX)
  rw [hX] at HAB
  rw [ordT_neg a b, hX] at HBA
  rw [hU] at HUN
  have g1 : decide ((1000 : Int) < (a.size : Int)) = false := decide_eq_false (by omega)
  have g2 : decide ((1000 : Int) < (b.size : Int)) = false := decide_eq_false (by omega)
  have g3 : decide ((1000 : Int) < (c.size : Int)) = false := decide_eq_false (by omega)
  have g4 : decide ((0 : Int) < ordT b c) = true := decide_eq_true hZ
  clear hZ
  generalize ordT b c = Z at *
  generalize ordT a c = T at *
  clear ha hb hc hX hU
  go_enter Tryd.func8, Tryd.ntmps8
  go_wp2_with fail
  refine (HA.out).mono ?_
  rintro e w1 ⟨rfl, hb1⟩
  have HB1 := Lib.hid hb1
  clear hb1
  go_wp2_with fail
  refine (HAB.out _).mono ?_
  rintro e w2 ⟨rfl, n2, hw2⟩
  have HB2 : Hid (Below w.heap.size w w2) := by subst hw2; exact below_drewN HB1.out n2
  clear hw2
  go_wp2_with fail
  refine (HBA.out _).mono ?_
  rintro e w3 ⟨rfl, n3, hw3⟩
  have HB3 : Hid (Below w.heap.size w w3) := by subst hw3; exact below_drewN HB2.out n3
  clear hw3
  go_wp2_with fail
  refine (HBC.out _).mono ?_
  rintro e w4 ⟨rfl, n4, hw4⟩
  have HB4 : Hid (Below w.heap.size w w4) := by subst hw4; exact below_drewN HB3.out n4
  clear hw4
  go_wp2_with fail
  refine (HUN.out _).mono ?_
  rintro e wu ⟨rfl, rfl⟩
  go_wp2_with fail
  refine (HBA.out _).mono ?_
  rintro e w5 ⟨rfl, n5, hw5⟩
  have HB5 : Hid (Below w.heap.size w w5) := by subst hw5; exact below_drewN HB4.out n5
  clear hw5
  go_wp2_with fail
  go_ret
  exact ⟨rfl, HB5.out⟩
set_option maxHeartbeats 4000000 in
theorem orders_z_t_n (a b c : ByteArray) (w : World) (hE : Env w) (ha : a.size ≤ 1000) (hb : b.size ≤ 1000) (hc : c.size ≤ 1000) (hX : ordT a b = 0) (hZ : 0 < ordT b c) (hU : undB a b = false) :
    Calls Tryd.prog 8 #[.string a, .string b, .string c] w fun e w' => e = .returned (.bool true) ∧ Below w.heap.size w w' := by
  have HA := Lib.hid (awake10_any w hE)
  have HAB := Lib.hid (fun w => order_any a b w (by omega))
  have HBA := Lib.hid (fun w => order_any b a w (by omega))
  have HBC := Lib.hid (fun w => order_any b c w (by omega))
  have HAC := Lib.hid (fun w => order_any a c w (by omega))
  have HUN := Lib.hid (fun w => under_any a b w)
  have hq : (a.toList == b.toList) = true := by rw [eq_texts]; exact decide_eq_true ((ordT_zero a b).1 hX)
  rw [hX] at HAB
  rw [ordT_neg a b, hX] at HBA
  rw [hU] at HUN
  have g1 : decide ((1000 : Int) < (a.size : Int)) = false := decide_eq_false (by omega)
  have g2 : decide ((1000 : Int) < (b.size : Int)) = false := decide_eq_false (by omega)
  have g3 : decide ((1000 : Int) < (c.size : Int)) = false := decide_eq_false (by omega)
  have g4 : decide ((0 : Int) < ordT b c) = true := decide_eq_true hZ
  clear hZ
  generalize ordT b c = Z at *
  generalize ordT a c = T at *
  clear ha hb hc hX hU
  go_enter Tryd.func8, Tryd.ntmps8
  go_wp2_with fail
  refine (HA.out).mono ?_
  rintro e w1 ⟨rfl, hb1⟩
  have HB1 := Lib.hid hb1
  clear hb1
  go_wp2_with fail
  refine (HAB.out _).mono ?_
  rintro e w2 ⟨rfl, n2, hw2⟩
  have HB2 : Hid (Below w.heap.size w w2) := by subst hw2; exact below_drewN HB1.out n2
  clear hw2
  go_wp2_with fail
  refine (HBA.out _).mono ?_
  rintro e w3 ⟨rfl, n3, hw3⟩
  have HB3 : Hid (Below w.heap.size w w3) := by subst hw3; exact below_drewN HB2.out n3
  clear hw3
  go_wp2_with fail
  refine (HBC.out _).mono ?_
  rintro e w4 ⟨rfl, n4, hw4⟩
  have HB4 : Hid (Below w.heap.size w w4) := by subst hw4; exact below_drewN HB3.out n4
  clear hw4
  go_wp2_with fail
  refine (HUN.out _).mono ?_
  rintro e wu ⟨rfl, rfl⟩
  go_wp2_with fail
  go_ret
  exact ⟨rfl, HB4.out⟩
set_option maxHeartbeats 4000000 in
theorem orders_z_f_u (a b c : ByteArray) (w : World) (hE : Env w) (ha : a.size ≤ 1000) (hb : b.size ≤ 1000) (hc : c.size ≤ 1000) (hX : ordT a b = 0) (hZ : ¬ 0 < ordT b c) (hT : ordT a c ≤ 0) (hU : undB a b = true) :
    Calls Tryd.prog 8 #[.string a, .string b, .string c] w fun e w' => e = .returned (.bool true) ∧ Below w.heap.size w w' := by
  have HA := Lib.hid (awake10_any w hE)
  have HAB := Lib.hid (fun w => order_any a b w (by omega))
  have HBA := Lib.hid (fun w => order_any b a w (by omega))
  have HBC := Lib.hid (fun w => order_any b c w (by omega))
  have HAC := Lib.hid (fun w => order_any a c w (by omega))
  have HUN := Lib.hid (fun w => under_any a b w)
  have hq : (a.toList == b.toList) = true := by rw [eq_texts]; exact decide_eq_true ((ordT_zero a b).1 hX)
  rw [hX] at HAB
  rw [ordT_neg a b, hX] at HBA
  rw [hU] at HUN
  have g1 : decide ((1000 : Int) < (a.size : Int)) = false := decide_eq_false (by omega)
  have g2 : decide ((1000 : Int) < (b.size : Int)) = false := decide_eq_false (by omega)
  have g3 : decide ((1000 : Int) < (c.size : Int)) = false := decide_eq_false (by omega)
  have g4 : decide ((0 : Int) < ordT b c) = false := decide_eq_false hZ
  have g5 : decide (ordT a c ≤ (0 : Int)) = true := decide_eq_true hT
  clear hZ hT
  generalize ordT b c = Z at *
  generalize ordT a c = T at *
  clear ha hb hc hX hU
  go_enter Tryd.func8, Tryd.ntmps8
  go_wp2_with fail
  refine (HA.out).mono ?_
  rintro e w1 ⟨rfl, hb1⟩
  have HB1 := Lib.hid hb1
  clear hb1
  go_wp2_with fail
  refine (HAB.out _).mono ?_
  rintro e w2 ⟨rfl, n2, hw2⟩
  have HB2 : Hid (Below w.heap.size w w2) := by subst hw2; exact below_drewN HB1.out n2
  clear hw2
  go_wp2_with fail
  refine (HBA.out _).mono ?_
  rintro e w3 ⟨rfl, n3, hw3⟩
  have HB3 : Hid (Below w.heap.size w w3) := by subst hw3; exact below_drewN HB2.out n3
  clear hw3
  go_wp2_with fail
  refine (HBC.out _).mono ?_
  rintro e w4 ⟨rfl, n4, hw4⟩
  have HB4 : Hid (Below w.heap.size w w4) := by subst hw4; exact below_drewN HB3.out n4
  clear hw4
  go_wp2_with fail
  refine (HAC.out _).mono ?_
  rintro e w5 ⟨rfl, n5, hw5⟩
  have HB5 : Hid (Below w.heap.size w w5) := by subst hw5; exact below_drewN HB4.out n5
  clear hw5
  go_wp2_with fail
  refine (HUN.out _).mono ?_
  rintro e wu ⟨rfl, rfl⟩
  go_wp2_with fail
  refine (HBA.out _).mono ?_
  rintro e w6 ⟨rfl, n6, hw6⟩
  have HB6 : Hid (Below w.heap.size w w6) := by subst hw6; exact below_drewN HB5.out n6
  clear hw6
  go_wp2_with fail
  go_ret
  exact ⟨rfl, HB6.out⟩
set_option maxHeartbeats 4000000 in
theorem orders_z_f_n (a b c : ByteArray) (w : World) (hE : Env w) (ha : a.size ≤ 1000) (hb : b.size ≤ 1000) (hc : c.size ≤ 1000) (hX : ordT a b = 0) (hZ : ¬ 0 < ordT b c) (hT : ordT a c ≤ 0) (hU : undB a b = false) :
    Calls Tryd.prog 8 #[.string a, .string b, .string c] w fun e w' => e = .returned (.bool true) ∧ Below w.heap.size w w' := by
  have HA := Lib.hid (awake10_any w hE)
  have HAB := Lib.hid (fun w => order_any a b w (by omega))
  have HBA := Lib.hid (fun w => order_any b a w (by omega))
  have HBC := Lib.hid (fun w => order_any b c w (by omega))
  have HAC := Lib.hid (fun w => order_any a c w (by omega))
  have HUN := Lib.hid (fun w => under_any a b w)
  have hq : (a.toList == b.toList) = true := by rw [eq_texts]; exact decide_eq_true ((ordT_zero a b).1 hX)
  rw [hX] at HAB
  rw [ordT_neg a b, hX] at HBA
  rw [hU] at HUN
  have g1 : decide ((1000 : Int) < (a.size : Int)) = false := decide_eq_false (by omega)
  have g2 : decide ((1000 : Int) < (b.size : Int)) = false := decide_eq_false (by omega)
  have g3 : decide ((1000 : Int) < (c.size : Int)) = false := decide_eq_false (by omega)
  have g4 : decide ((0 : Int) < ordT b c) = false := decide_eq_false hZ
  have g5 : decide (ordT a c ≤ (0 : Int)) = true := decide_eq_true hT
  clear hZ hT
  generalize ordT b c = Z at *
  generalize ordT a c = T at *
  clear ha hb hc hX hU
  go_enter Tryd.func8, Tryd.ntmps8
  go_wp2_with fail
  refine (HA.out).mono ?_
  rintro e w1 ⟨rfl, hb1⟩
  have HB1 := Lib.hid hb1
  clear hb1
  go_wp2_with fail
  refine (HAB.out _).mono ?_
  rintro e w2 ⟨rfl, n2, hw2⟩
  have HB2 : Hid (Below w.heap.size w w2) := by subst hw2; exact below_drewN HB1.out n2
  clear hw2
  go_wp2_with fail
  refine (HBA.out _).mono ?_
  rintro e w3 ⟨rfl, n3, hw3⟩
  have HB3 : Hid (Below w.heap.size w w3) := by subst hw3; exact below_drewN HB2.out n3
  clear hw3
  go_wp2_with fail
  refine (HBC.out _).mono ?_
  rintro e w4 ⟨rfl, n4, hw4⟩
  have HB4 : Hid (Below w.heap.size w w4) := by subst hw4; exact below_drewN HB3.out n4
  clear hw4
  go_wp2_with fail
  refine (HAC.out _).mono ?_
  rintro e w5 ⟨rfl, n5, hw5⟩
  have HB5 : Hid (Below w.heap.size w w5) := by subst hw5; exact below_drewN HB4.out n5
  clear hw5
  go_wp2_with fail
  refine (HUN.out _).mono ?_
  rintro e wu ⟨rfl, rfl⟩
  go_wp2_with fail
  go_ret
  exact ⟨rfl, HB5.out⟩
set_option maxHeartbeats 4000000 in
theorem orders_p_n_u (a b c : ByteArray) (w : World) (hE : Env w) (ha : a.size ≤ 1000) (hb : b.size ≤ 1000) (hc : c.size ≤ 1000) (hX : ordT a b = 1) (hU : undB a b = true) :
    Calls Tryd.prog 8 #[.string a, .string b, .string c] w fun e w' => e = .returned (.bool true) ∧ Below w.heap.size w w' := by
  have HA := Lib.hid (awake10_any w hE)
  have HAB := Lib.hid (fun w => order_any a b w (by omega))
  have HBA := Lib.hid (fun w => order_any b a w (by omega))
  have HBC := Lib.hid (fun w => order_any b c w (by omega))
  have HAC := Lib.hid (fun w => order_any a c w (by omega))
  have HUN := Lib.hid (fun w => under_any a b w)
  have hq : (a.toList == b.toList) = false := by rw [eq_texts]; exact decide_eq_false (fun e => absurd (((ordT_zero a b).2 e).symm.trans hX) (by decide))
  rw [hX] at HAB
  rw [ordT_neg a b, hX] at HBA
  rw [hU] at HUN
  have g1 : decide ((1000 : Int) < (a.size : Int)) = false := decide_eq_false (by omega)
  have g2 : decide ((1000 : Int) < (b.size : Int)) = false := decide_eq_false (by omega)
  have g3 : decide ((1000 : Int) < (c.size : Int)) = false := decide_eq_false (by omega)
  generalize ordT b c = Z at *
  generalize ordT a c = T at *
  clear ha hb hc hX hU
  go_enter Tryd.func8, Tryd.ntmps8
  go_wp2_with fail
  refine (HA.out).mono ?_
  rintro e w1 ⟨rfl, hb1⟩
  have HB1 := Lib.hid hb1
  clear hb1
  go_wp2_with fail
  refine (HAB.out _).mono ?_
  rintro e w2 ⟨rfl, n2, hw2⟩
  have HB2 : Hid (Below w.heap.size w w2) := by subst hw2; exact below_drewN HB1.out n2
  clear hw2
  go_wp2_with fail
  refine (HBA.out _).mono ?_
  rintro e w3 ⟨rfl, n3, hw3⟩
  have HB3 : Hid (Below w.heap.size w w3) := by subst hw3; exact below_drewN HB2.out n3
  clear hw3
  go_wp2_with fail
  refine (HUN.out _).mono ?_
  rintro e wu ⟨rfl, rfl⟩
  go_wp2_with fail
  refine (HBA.out _).mono ?_
  rintro e w4 ⟨rfl, n4, hw4⟩
  have HB4 : Hid (Below w.heap.size w w4) := by subst hw4; exact below_drewN HB3.out n4
  clear hw4
  go_wp2_with fail
  go_ret
  exact ⟨rfl, HB4.out⟩
set_option maxHeartbeats 4000000 in
theorem orders_p_n_n (a b c : ByteArray) (w : World) (hE : Env w) (ha : a.size ≤ 1000) (hb : b.size ≤ 1000) (hc : c.size ≤ 1000) (hX : ordT a b = 1) (hU : undB a b = false) :
    Calls Tryd.prog 8 #[.string a, .string b, .string c] w fun e w' => e = .returned (.bool true) ∧ Below w.heap.size w w' := by
  have HA := Lib.hid (awake10_any w hE)
  have HAB := Lib.hid (fun w => order_any a b w (by omega))
  have HBA := Lib.hid (fun w => order_any b a w (by omega))
  have HBC := Lib.hid (fun w => order_any b c w (by omega))
  have HAC := Lib.hid (fun w => order_any a c w (by omega))
  have HUN := Lib.hid (fun w => under_any a b w)
  have hq : (a.toList == b.toList) = false := by rw [eq_texts]; exact decide_eq_false (fun e => absurd (((ordT_zero a b).2 e).symm.trans hX) (by decide))
  rw [hX] at HAB
  rw [ordT_neg a b, hX] at HBA
  rw [hU] at HUN
  have g1 : decide ((1000 : Int) < (a.size : Int)) = false := decide_eq_false (by omega)
  have g2 : decide ((1000 : Int) < (b.size : Int)) = false := decide_eq_false (by omega)
  have g3 : decide ((1000 : Int) < (c.size : Int)) = false := decide_eq_false (by omega)
  generalize ordT b c = Z at *
  generalize ordT a c = T at *
  clear ha hb hc hX hU
  go_enter Tryd.func8, Tryd.ntmps8
  go_wp2_with fail
  refine (HA.out).mono ?_
  rintro e w1 ⟨rfl, hb1⟩
  have HB1 := Lib.hid hb1
  clear hb1
  go_wp2_with fail
  refine (HAB.out _).mono ?_
  rintro e w2 ⟨rfl, n2, hw2⟩
  have HB2 : Hid (Below w.heap.size w w2) := by subst hw2; exact below_drewN HB1.out n2
  clear hw2
  go_wp2_with fail
  refine (HBA.out _).mono ?_
  rintro e w3 ⟨rfl, n3, hw3⟩
  have HB3 : Hid (Below w.heap.size w w3) := by subst hw3; exact below_drewN HB2.out n3
  clear hw3
  go_wp2_with fail
  refine (HUN.out _).mono ?_
  rintro e wu ⟨rfl, rfl⟩
  go_wp2_with fail
  go_ret
  exact ⟨rfl, HB3.out⟩
theorem nameOrders_walk (a b c : ByteArray) (_ : a.size ≤ maxLen) (_ : b.size ≤ maxLen) (_ : c.size ≤ maxLen) (w : World) (hE : Env w) :
    Calls Tryd.prog 8 #[.string a, .string b, .string c] w fun e w' => e = .returned (.bool true) ∧ Below w.heap.size w w' := by
  by_cases hs : a.size ≤ 1000 ∧ b.size ≤ 1000 ∧ c.size ≤ 1000
  · obtain ⟨ha, hb, hc⟩ := hs
    have hT : ordT a b ≤ 0 → ordT b c ≤ 0 → ordT a c ≤ 0 := ordL_trans _ _ _
    have hU : undB a b = true → ordT b a ≤ 0 := und_le a b
    rw [ordT_neg a b] at hU
    rcases ordT_three a b with hX | hX | hX
    · cases u : undB a b with
      | true => exact absurd (hU u) (by rw [hX]; decide)
      | false =>
        by_cases hZ : 0 < ordT b c
        · exact orders_m_t_n a b c w hE ha hb hc hX hZ u
        · exact orders_m_f_n a b c w hE ha hb hc hX hZ (hT (by omega) (by omega)) u
    · by_cases hZ : 0 < ordT b c
      · cases u : undB a b with
        | true => exact orders_z_t_u a b c w hE ha hb hc hX hZ u
        | false => exact orders_z_t_n a b c w hE ha hb hc hX hZ u
      · cases u : undB a b with
        | true => exact orders_z_f_u a b c w hE ha hb hc hX hZ (hT (by omega) (by omega)) u
        | false => exact orders_z_f_n a b c w hE ha hb hc hX hZ (hT (by omega) (by omega)) u
    · cases u : undB a b with
      | true => exact orders_p_n_u a b c w hE ha hb hc hX u
      | false => exact orders_p_n_n a b c w hE ha hb hc hX u
  · exact orders_big a b c w hE hs
end Go.Proofs.YtalfmepimhneoaaDoor
