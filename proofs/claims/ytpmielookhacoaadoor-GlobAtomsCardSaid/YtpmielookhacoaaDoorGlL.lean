/-
  Glob, the document's side: Takes.
-/
import Derived.Test.YtpmielookhacoaaDoorGlK
namespace Go.Proofs.YtpmielookhacoaaDoor
set_option maxRecDepth 100000
open Go.RowKit Go.Joins Go.Deep

theorem info_pair : (Tryd.prog.info? 48).map (·.size) = some 2 := by kernel_rfl
theorem info_prs : (Tryd.prog.info? 42).map (·.size) = some 1 := by kernel_rfl
set_option maxHeartbeats 8000000 in
theorem takes_any (x : Atm) (m : Nat) (Ai : Option Addr) (ci : Nat) (w : World) (hR : Rgs w .i64 Ai x.rs) (hl : x.rs.length ≤ 1000000) :
    Calls Tryd.prog 11 #[.agg #[.int .i64 x.k, .int .i64 x.r, .bool x.n, .slice Ai x.rs.length ci], .int .i64 (m : Nat)] w fun e w' => e = .returned (.bool (takA x m)) ∧ Below w.heap.size w w' := by
  have hir := info_pair
  have hal := below_al w (.cells #[.int .i64 x.k, .int .i64 x.r, .bool x.n, .slice Ai x.rs.length ci] 44)
  have hx0 := heap_alloc_new w (.cells #[.int .i64 x.k, .int .i64 x.r, .bool x.n, .slice Ai x.rs.length ci] 44)
  have hR1 := hR.below (Nat.le_refl _) hal
  have hT : takA x m = if x.k = 1 then decide (x.r = (m : Int)) else if x.k = 2 then true else decide (x.k = 4) && (hasA x.rs m != x.n) := rfl
  obtain ⟨k, xr, nt, rs⟩ := x
  dsimp only at *
  generalize takA ⟨k, xr, nt, rs⟩ m = T at *
  have HAL := Lib.hid hal
  have HX0 := Lib.hid hx0
  have HR1 := Lib.hid hR1
  clear hal hx0 hR1 hR
  by_cases h1 : k = 1
  · subst h1
    have hT' := hT.trans (if_pos rfl)
    subst hT'
    clear hT
    go_enter Tryd.func11, Tryd.ntmps11
    go_wp2_with fail
    go_ret
    exact ⟨rfl, HAL.out⟩
  · have g1 : (k == 1) = false := by rw [beq_eq_false_iff_ne]; exact h1
    rw [if_neg h1] at hT
    by_cases h2 : k = 2
    · subst h2
      rw [if_pos rfl] at hT
      subst hT
      clear h1
      go_enter Tryd.func11, Tryd.ntmps11
      go_wp2_with fail
      go_ret
      exact ⟨rfl, HAL.out⟩
    · have g2 : (k == 2) = false := by rw [beq_eq_false_iff_ne]; exact h2
      rw [if_neg h2] at hT
      have HT := Lib.hid hT
      clear hT h1 h2
      go_enter Tryd.func11, Tryd.ntmps11
      go_wp2_with fail
      generalize w.alloc (.cells #[.int .i64 k, .int .i64 xr, .bool nt, .slice Ai rs.length ci] 44) = w1 at *
      go_loopw [5, 21] (fun v i wr => ∃ j : Nat, j ≤ rs.length ∧ i = .int .i64 (j : Nat) ∧ v = .bool ((rs.take j).any fun p => decide (p.1 ≤ (m : Int)) && decide ((m : Int) ≤ p.2)) ∧ Hid (Below w1.heap.size w1 wr)) (fun _ i _ => rs.length - (intOf i).toNat)
      case atStart => exact ⟨0, Nat.zero_le _, rfl, rfl, Below.refl _ _⟩
      case round =>
        obtain ⟨j, hj, rfl, rfl, HB⟩ := hrel
        by_cases hlt : j < rs.length
        · obtain ⟨b, off, rfl, hb, hcc⟩ := (HR1.out.below (Nat.le_refl _) HB.out) (by omega)
          obtain ⟨c0, c1⟩ := hcc j hlt
          have HQ := Lib.hid (any_take rs (fun p => decide (p.1 ≤ (m : Int)) && decide ((m : Int) ≤ p.2)) j hlt)
          rw [show rs.getD j (0, 0) = rs[j] by rw [List.getD_eq_getElem?_getD, List.getElem?_eq_getElem hlt]; rfl] at c0 c1
          generalize rs[j] = pp at *
          generalize hu : (rs.take j).any (fun p => decide (p.1 ≤ (m : Int)) && decide ((m : Int) ≤ p.2)) = U at *
          clear hcc hu
          obtain ⟨lo, hiR⟩ := pp
          dsimp only at *
          have HB2 := Lib.hid (HB.out.alloc HB.out.size (.cells #[.int .i64 lo, .int .i64 hiR] 48))
          cases U with
          | true =>
            go_wp2_with fail
            go_roundw
            case rel => exact ⟨j + 1, by omega, by go_num, by rw [HQ.out]; rfl, HB2⟩
            case measure => simp [intOf]; omega
          | false =>
            by_cases h5 : lo ≤ (m : Int)
            · have d5 : decide (lo ≤ (m : Int)) = true := decide_eq_true h5
              have HQ2 : Hid (((rs.take (j + 1)).any fun p => decide (p.1 ≤ (m : Int)) && decide ((m : Int) ≤ p.2)) = decide ((m : Int) ≤ hiR)) := by show _ = _; rw [HQ.out, d5]; simp
              go_wp2_with fail
              go_roundw
              case rel => exact ⟨j + 1, by omega, by go_num, by rw [HQ2.out], HB2⟩
              case measure => simp [intOf]; omega
            · have d5 : decide (lo ≤ (m : Int)) = false := decide_eq_false h5
              have HQ2 : Hid (((rs.take (j + 1)).any fun p => decide (p.1 ≤ (m : Int)) && decide ((m : Int) ≤ p.2)) = false) := by show _ = _; rw [HQ.out, d5]; simp
              go_wp2_with fail
              go_roundw
              case rel => exact ⟨j + 1, by omega, by go_num, by rw [HQ2.out], HB2⟩
              case measure => simp [intOf]; omega
        · obtain rfl : j = rs.length := by omega
          have hxr := (HB.out.block w.heap.size (lt_of_block HX0.out)).trans HX0.out
          have y0 := (cell_of_row _ _ 0 _ _ _ hxr).trans (show _ = some (Value.int .i64 k) from rfl)
          have y2 := (cell_of_row _ _ 2 _ _ _ hxr).trans (show _ = some (Value.bool nt) from rfl)
          have HBB := Lib.hid (below_then HAL.out HB.out)
          clear hxr
          have HV : Hid (T = (decide (k = 4) && (((rs.take rs.length).any fun p => decide (p.1 ≤ (m : Int)) && decide ((m : Int) ≤ p.2)) != nt))) := by
            show _ = _
            rw [HT.out, List.take_length]
            rfl
          generalize (rs.take rs.length).any (fun p => decide (p.1 ≤ (m : Int)) && decide ((m : Int) ≤ p.2)) = U at *
          by_cases h4 : k = 4
          · subst h4
            go_wp2_with fail
            go_ret
            exact ⟨by rw [HV.out]; cases U <;> cases nt <;> rfl, HBB.out⟩
          · have g4 : (k == 4) = false := by rw [beq_eq_false_iff_ne]; exact h4
            have HV2 : Hid (T = false) := by show _ = _; rw [HV.out, decide_eq_false h4]; rfl
            clear h4
            go_wp2_with fail
            go_ret
            exact ⟨by rw [HV2.out]; rfl, HBB.out⟩
end Go.Proofs.YtpmielookhacoaaDoor
