/-
  Glob: the law's comparison of atoms (same), of equal ones.
-/
import Derived.Test.YtmhalkkfpbkafaaDoorGlQ
import Derived.BigQuiet
import Derived.Laws.StructEq
namespace Go.Proofs.YtmhalkkfpbkafaaDoor
set_option maxRecDepth 100000
set_option linter.unusedSimpArgs false
open Go.RowKit Go.Joins Go.Deep

theorem size_int1 : ∀ w, (sizeOf 3).run Tryd.prog w = .ok 1 w := by
  obtain ⟨i, hi, hs⟩ := Option.map_eq_some_iff.1 (show (Tryd.prog.info? 3).map (·.size) = some 1 by kernel_rfl)
  intro w
  simp [sizeOf, typeInfo, hi, hs]
theorem eq_pair (u v : Int) (w : World) : (Op.equalIn 10000 87 (.agg #[.int .i64 u, .int .i64 v]) (.agg #[.int .i64 u, .int .i64 v])).run Tryd.prog w = .ok true w := by
  rw [Op.equalIn]
  simp only [Sem.run_bind, run_underlying Tryd.underlying87, Result.andThen_ok, size_int1, Std.Legacy.Range.forIn_eq_forIn_range', Std.Legacy.Range.size, Nat.sub_zero, Nat.add_sub_cancel, Nat.div_one]
  have pe : ∀ z : Int, (Op.equalIn 9999 3 (.int .i64 z) (.int .i64 z)).run Tryd.prog w = .ok true w := fun z => by
    rw [run_equalIn_int w 9998 3 .i64 .i64 _ _ Tryd.underlying3]
    simp
  have p0 : (part 3 #[Value.int .i64 u, Value.int .i64 v] (0 * 1)).run Tryd.prog w = .ok (.int .i64 u) w := by
    simp [part, isAgg, run_underlying Tryd.underlying3]
  have p1 : (part 3 #[Value.int .i64 u, Value.int .i64 v] (1 * 1)).run Tryd.prog w = .ok (.int .i64 v) w := by
    simp [part, isAgg, run_underlying Tryd.underlying3]
  rw [show List.range' 0 2 1 = [0, 1] from rfl]
  simp only [List.forIn_cons, List.forIn_nil, Sem.run_bind, p0, p1, pe, Result.andThen_ok, Bool.not_true, Bool.false_eq_true, if_false, Sem.run_pure]
set_option maxHeartbeats 16000000 in
theorem same_any (ats : List Atm) (A B : Option Addr) (c d : Nat) (hl : ats.length ≤ 100000) (hrs : ∀ x ∈ ats, x.rs.length ≤ 1000000) (w : World) (hA : RAts w A ats) (hB : RAts w B ats) :
    Calls Tryd.prog 13 #[.slice A ats.length c, .slice B ats.length d] w fun e w' => e = .returned (.bool true) ∧ Below w.heap.size w w' := by
  have hira := info_ratom
  have hipr := info_pair
  have hirs := info_prs
  have HRS := Lib.hid hrs
  have HA := Lib.hid hA
  have HB := Lib.hid hB
  clear hrs hA hB
  go_enter Tryd.func13, Tryd.ntmps13
  go_wp2_with fail
  go_loopw [14] (fun i wr => ∃ (j : Nat), i = .int .i64 (j : Nat) ∧ j ≤ ats.length ∧ Hid (Below w.heap.size w wr)) (fun i _ => ats.length - (intOf i).toNat)
  case atStart => exact ⟨0, rfl, Nat.zero_le _, Below.refl _ _⟩
  case round =>
    obtain ⟨j, rfl, hjl, HW⟩ := hrel
    by_cases hlt : j < ats.length
    · obtain ⟨b, off, rfl, hb, hcc⟩ := (HA.out.below HW.out) (by omega)
      obtain ⟨b2, off2, rfl, hb2, hcc2⟩ := (HB.out.below HW.out) (by omega)
      obtain ⟨c0, c1, c2', Ai, ci, c3, hR⟩ := hcc j ats[j] (List.getElem?_eq_getElem hlt)
      obtain ⟨e0, e1, e2', Bi, di, e3, hS⟩ := hcc2 j ats[j] (List.getElem?_eq_getElem hlt)
      have hxl := HRS.out ats[j] (List.getElem_mem hlt)
      generalize ats[j] = x at *
      have HR := Lib.hid hR
      have HSS := Lib.hid hS
      clear hcc hcc2 hR hS
      go_wp2_with fail
      try simp only [List.append_eq, List.cons_append, List.nil_append]
      refine wp_region_quiet_lit (by kernel_rfl) (by kernel_rfl) ?_
      repeat (first | go_big_quiet_skip | (go_big_quiet_want; go_big_quiet_op; go_big_quiet_on))
      refine wpQuiet_nil ?_
      intro _ hw'
      obtain ⟨nq, hw''⟩ := hw'
      subst hw''
      have hbq : Below wr.heap.size wr (wr.drewN nq) := below_drewN (Below.refl _ _) nq
      have k3 := (hbq.cell (p := ⟨b, off + j * 4 + 3, none⟩) hb).trans c3
      have l3 := (hbq.cell (p := ⟨b2, off2 + j * 4 + 3, none⟩) hb2).trans e3
      have HR2 := Lib.hid (HR.out.below (Nat.le_refl _) hbq)
      have HS2 := Lib.hid (HSS.out.below (Nat.le_refl _) hbq)
      have HD2 := Lib.hid (below_then HW.out hbq)
      have hbw : b < (wr.drewN nq).heap.size := Nat.lt_of_lt_of_le hb hbq.size
      have hbw2 : b2 < (wr.drewN nq).heap.size := Nat.lt_of_lt_of_le hb2 hbq.size
      clear c0 c1 c2' c3 e0 e1 e2' e3 hbq HR HSS
      generalize wr.drewN nq = w2 at *
      go_wp2_with fail
      go_loopw [75] (fun i wq => ∃ (k : Nat), i = .int .i64 (k : Nat) ∧ k ≤ x.rs.length ∧ Hid (Below w2.heap.size w2 wq)) (fun i _ => x.rs.length - (intOf i).toNat)
      case atStart => exact ⟨0, rfl, Nat.zero_le _, Below.refl _ _⟩
      case round =>
        obtain ⟨k, rfl, hkl, HX⟩ := hrel
        have m3 := (HX.out.cell (p := ⟨b, off + j * 4 + 3, none⟩) hbw).trans k3
        have n3 := (HX.out.cell (p := ⟨b2, off2 + j * 4 + 3, none⟩) hbw2).trans l3
        by_cases hlt2 : k < x.rs.length
        · obtain ⟨br, ofr, rfl, hbr, hcr⟩ := (HR2.out.below (Nat.le_refl _) HX.out) (by omega)
          obtain ⟨bs, ofs, rfl, hbs, hcs⟩ := (HS2.out.below (Nat.le_refl _) HX.out) (by omega)
          obtain ⟨r0, r1⟩ := hcr k hlt2
          obtain ⟨s0, s1⟩ := hcs k hlt2
          generalize x.rs.getD k (0, 0) = pr at *
          obtain ⟨u, v⟩ := pr
          dsimp only at r0 r1 s0 s1
          clear hcr hcs k3 l3
          go_wp2_with fail
          refine wp_region_quiet_lit (by kernel_rfl) (by kernel_rfl) ?_
          repeat (first | go_big_quiet_skip | (go_big_quiet_want; go_big_quiet_op; go_big_quiet_on))
          go_big_quiet_want
          go_big_quiet_op
          refine ⟨.bool false, fun a => by rw [eq_pair]; exact ⟨rfl, rfl⟩, ?_⟩
          go_big_quiet_on
          refine wpQuiet_nil ?_
          intro _ hw'
          obtain ⟨nq, hw''⟩ := hw'
          subst hw''
          go_wp2_with fail
          go_roundw
          case rel => exact ⟨k + 1, by go_num, by omega, below_drewN HX.out nq⟩
          case measure => simp [intOf]; omega
        · obtain rfl : k = x.rs.length := by omega
          go_wp2_with fail
          go_roundw
          case rel => exact ⟨j + 1, by go_num, by omega, below_then HD2.out HX.out⟩
          case measure => simp [intOf]; omega
    · obtain rfl : j = ats.length := by omega
      go_wp2_with fail
      go_ret
      exact ⟨rfl, HW.out⟩
end Go.Proofs.YtmhalkkfpbkafaaDoor
