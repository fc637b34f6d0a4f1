/-
  The walk of NameKeeps: it returns true, whatever the name.
-/
import Derived.Test.YtalfmepimhneoaaDoorNamI
namespace Go.Proofs.YtalfmepimhneoaaDoor
set_option maxRecDepth 100000
open Go.RowKit Go.Deep Go.Joins Go.Lib

set_option maxHeartbeats 8000000 in
theorem nameKeeps_walk (s : ByteArray) (_ : s.size ≤ maxLen) (w : World) (hE : Env w) :
    Calls Tryd.prog 7 #[.string s] w fun e w' => e = .returned (.bool true) ∧ Below w.heap.size w w' := by
  have HA := Lib.hid (awake10_any w hE)
  have HE := Lib.hid hE
  clear hE
  by_cases h1 : 3000 < s.size
  · have g1 : decide ((3000 : Int) < (s.size : Int)) = true := decide_eq_true (by omega)
    go_enter Tryd.func7, Tryd.ntmps7
    go_wp2_with fail
    refine (HA.out).mono ?_
    rintro e w1 ⟨rfl, hb⟩
    go_wp2_with fail
    go_ret
    exact ⟨rfl, hb⟩
  · have g1 : decide ((3000 : Int) < (s.size : Int)) = false := decide_eq_false (by omega)
    have HC := Lib.hid (fun w h => check_any s w (by omega) h)
    have HPL : Hid ((pathB s).size ≤ 3000) := by have := path_le s; show _ ≤ _; omega
    clear h1
    rcases chk_cases s with ⟨h2, h3, hR⟩ | ⟨h2, h3⟩
    · generalize chkV s = V at *
      obtain ⟨p, d, e⟩ := V
      simp only at h2 h3
      subst h2 h3
      generalize pathB s = p at *
      have HR := Lib.hid hR
      clear hR
      have hsm := HPL.out
      go_enter Tryd.func7, Tryd.ntmps7
      go_wp2_with fail
      refine (HA.out).mono ?_
      rintro e w1 ⟨rfl, hb⟩
      have HB1 := Lib.hid hb
      clear hb
      go_wp2_with fail
      refine (HC.out _ (HE.out.below HB1.out)).mono ?_
      rintro e w2 ⟨rfl, hb⟩
      have HB2 := Lib.hid (below_then HB1.out hb)
      clear hb
      go_wp2_with fail
      go_loopw [6] (fun v wr => ∃ u : ByteArray, v = .string u ∧ u.size ≤ 3000 ∧ Hid (u.toList.isEmpty = true ∨ Right u ∧ Ahead p u) ∧ Hid (Below w.heap.size w wr)) (fun v _ => match v with | .string u => u.size | _ => 0)
      case atStart => exact ⟨p, rfl, hsm, .inr ⟨HR.out, .inl rfl⟩, HB2.out⟩
      case round =>
        obtain ⟨u, rfl, hu, HU, HB⟩ := hrel
        cases hue : u.toList.isEmpty with
        | true =>
          go_wp2_with fail
          go_ret
          exact ⟨rfl, HB.out⟩
        | false =>
          have hru : Right u ∧ Ahead p u := by
            rcases HU.out with h | h
            · rw [hue] at h; cases h
            · exact h
          have HRU := Lib.hid hru
          have HKU := Lib.hid (fun w h => check_any u w (by omega) h)
          rw [chk_right hru.1] at HKU
          have HUN := Lib.hid (fun w => under_any p u w)
          rw [hru.2.under] at HUN
          have HOR := Lib.hid (fun w => order_any u p w (by omega))
          have hod : decide ((0 : Int) < ordT u p) = false := decide_eq_false (by have := hru.2.order; omega)
          have HBA := Lib.hid (fun w => base_any u w (by omega))
          have HPA := Lib.hid (fun w => parent_any u w (by omega))
          obtain ⟨hmis, hpar⟩ := right_parent hru.1
          have HPR : Hid ((parB u).toList.isEmpty = true ∨ Right (parB u) ∧ Ahead p (parB u)) := by
            cases e : (parB u).toList.isEmpty with
            | true => exact .inl rfl
            | false =>
              rcases hpar with h | h
              · rw [e] at h; cases h
              · exact .inr ⟨h, hru.2.up e⟩
          have HPS := Lib.hid (parent_smaller hue)
          have hps : (parB u).size ≤ 3000 := by have := HPS.out; omega
          have hm1 : (baseB u).toList.isEmpty = false ∧ ((baseB u).toList == [46]) = false ∧ ((baseB u).toList == [46, 46]) = false := by
            unfold misB at hmis
            revert hmis
            cases (baseB u).toList.isEmpty <;> cases ((baseB u).toList == [46]) <;> cases ((baseB u).toList == [46, 46]) <;> simp
          obtain ⟨m1, m2, m3⟩ := hm1
          generalize ordT u p = O at *
          generalize baseB u = bu at *
          generalize parB u = pu at *
          clear hru hmis hpar
          go_wp2_with fail
          refine (HKU.out _ (HE.out.below HB.out)).mono ?_
          rintro e w3 ⟨rfl, hb⟩
          have HB3 := Lib.hid (below_then HB.out hb)
          clear hb
          go_wp2_with fail
          refine (HUN.out _).mono ?_
          rintro e w4 ⟨rfl, rfl⟩
          go_wp2_with fail
          refine (HOR.out _).mono ?_
          rintro e w5 ⟨rfl, n5, hw5⟩
          have HB5 : Hid (Below w.heap.size w w5) := by subst hw5; exact below_drewN HB3.out n5
          clear hw5
          go_wp2_with fail
          refine (HBA.out _).mono ?_
          rintro e w6 ⟨rfl, rfl⟩
          go_wp2_with fail
          refine (HPA.out _).mono ?_
          rintro e w7 ⟨rfl, rfl⟩
          go_wp2_with fail
          go_roundw
          case rel => exact ⟨pu, rfl, hps, HPR, HB5⟩
          case measure => exact HPS.out
    · generalize chkV s = V at *
      obtain ⟨p, d, e⟩ := V
      simp only at h2 h3
      subst h3
      have g2 : (e != 0) = true := by rw [bne_iff_ne]; exact h2
      clear h2
      go_enter Tryd.func7, Tryd.ntmps7
      go_wp2_with fail
      refine (HA.out).mono ?_
      rintro e1 w1 ⟨rfl, hb⟩
      have HB1 := Lib.hid hb
      clear hb
      go_wp2_with fail
      refine (HC.out _ (HE.out.below HB1.out)).mono ?_
      rintro e1 w2 ⟨rfl, hb⟩
      have HB2 := Lib.hid (below_then HB1.out hb)
      clear hb
      go_wp2_with fail
      go_ret
      exact ⟨rfl, HB2.out⟩
end Go.Proofs.YtalfmepimhneoaaDoor
