/-
  Contracts: a row of lengths.
-/
import Derived.Test.YtbgclbnbnpnolaaInfO
namespace Go.Proofs.Ytbgclbnbnpnolaa
set_option maxRecDepth 100000
open Go.RowKit Go.Deep Go.Joins

def rwOk (B : Nat) (l : List Nat) (r : Ending) (w' : World) : Prop := (∃ A cap, r = .returned (.tuple #[.slice A l.length cap, .int .i64 0]) ∧ w'.ownsRow B 5 1 (.slice A l.length cap) l.length (cells8 l)) ∧ ∀ y ∈ l, y ≤ 15
def rwBad (e : Nat) (r : Ending) : Prop := r = .returned (.tuple #[.slice none 0 0, .int .i64 (e : Nat)])
theorem row_read {w w' : World} {B n gr : Nat} {v : Value} {l : List Value} {s : ByteArray} {a e : Nat} (ho : w.ownsRow B 5 1 v n l) (hr : Rd 81 w gr s a e) (hg : w.grownBy w' (some gr)) : w'.ownsRow B 5 1 v n l :=
  row_kept ho fun b hb => hg.block b (ho.lt b hb).2 fun hh => row_ne (by decide) ho hr (by rw [hb, hh])
theorem run_o {x : Nat} {row : List Nat} {src : Src} {a a1 : Nat} {o o1 : List Nat} {p : Nat × Nat} (h : runM x row src a o = .ok (p, a1, o1)) : o1 = o ∧ a ≤ a1 ∧ p.1 = (runOf x row).1 ∧ (runOf x row).2.1 ≤ p.2 ∧ p.2 < (runOf x row).2.1 + 2 ^ (runOf x row).2.2 := by
  by_cases h0 : x = 16 ∧ row.length = 0
  · unfold runM at h
    rw [if_pos h0] at h
    cases h
  · rw [run_eq x row _ h0 rfl] at h
    split at h
    · injection h with h
      cases h
      have := bitsAt_lt src.N a (runOf x row).2.2
      exact ⟨rfl, by omega, rfl, by simp, by simp; omega⟩
    · cases h
theorem run_le (x : Nat) (row : List Nat) (hx : x < 19) (h15 : ∀ y ∈ row, y ≤ 15) : (runOf x row).1 ≤ 15 ∧ 1 ≤ (runOf x row).2.1 ∧ (runOf x row).2.1 + 2 ^ (runOf x row).2.2 ≤ 139 := by
  unfold runOf
  split
  · refine ⟨?_, by show 1 ≤ 3; omega, by show 3 + 2 ^ 2 ≤ 139; omega⟩
    show row.getD (row.length - 1) 0 ≤ 15
    rw [List.getD_eq_getElem?_getD]
    cases hg : row[row.length - 1]? with
    | none => simp
    | some y => exact h15 y (List.mem_of_getElem? hg)
  · split
    · exact ⟨by decide, by decide, by decide⟩
    · split
      · exact ⟨by decide, by decide, by decide⟩
      · exact ⟨by show x ≤ 15; omega, by show 1 ≤ 1; omega, by show 1 + 2 ^ 0 ≤ 139; omega⟩

set_option maxHeartbeats 8000000 in
theorem row_any (g gr gc a many lim : Nat) (s : ByteArray) (o : List Nat) (c : Cod) (hs : s.size ≤ 1000000) (ha : a ≤ 8 * s.size) (hm : many ≤ 1000) (hn19 : c.n ≤ 19) (w : World) (hp : Pin w g gr) (hr : Rd 81 w gr s a 0) (hc : CdC w gc c) :
    Calls Try.prog 70 #[.pointer (some ⟨g, 0, none⟩), .pointer (some ⟨gc, 0, none⟩), .int .i64 many] w (PRW w gr s (rwOk w.heap.size) rwBad (rowM c many (srcOf s lim) a o)) := by
  have HP := Lib.hid hp
  have HR := Lib.hid hr
  have HC := Lib.hid hc
  clear hp hr hc
  have HOWN0 : Hid (w.ownsRow w.heap.size 5 1 (.slice none 0 0) ([] : List Nat).length (cells8 [])) := World.ownsRow_nil _ _ _ _
  go_enter Try.func70, Try.ntmps70
  go_wp2_with fail
  go_loopw [8] (fun v wr => ∃ row a1, wr.ownsRow w.heap.size 5 1 v row.length (cells8 row) ∧ Rd 81 wr gr s a1 0 ∧ a1 ≤ 8 * s.size ∧ w.grownBy wr (some gr) ∧ row.length ≤ 2000 ∧ (∀ y ∈ row, y ≤ 15) ∧ ∀ ans, Runs (rowStep c many) (srcOf s lim) row a1 o ans → Runs (rowStep c many) (srcOf s lim) [] a o ans) (fun _ wr => 8 * s.size - rdAt gr wr)
  case atStart => exact ⟨[], a, HOWN0.out, HR.out, ha, World.grownBy.refl _ _, Nat.zero_le _, fun y hy => by (cases hy), fun _ h => h⟩
  case round =>
    obtain ⟨row, a1, ho, hrd, ha1, hg, hrl, h15, hrun⟩ := hrel
    obtain ⟨A, cp, rfl⟩ := row_slice ho
    have HO := Lib.hid ho
    have HRD := Lib.hid hrd
    have HG := Lib.hid hg
    have H15 := Lib.hid h15
    have HRUN := Lib.hid hrun
    have HM := Lib.hid (rdAt_of hrd)
    have c0 := (HP.out.grown HR.out hg).c0
    have HPW := Lib.hid (HP.out.grown HR.out hg)
    have HSG := Lib.hid (signC_any gc gr a1 lim c s o hs ha1 wr (HC.out.far (far_read HR.out hg)) hrd)
    have HST : Hid (row.length < many → rowStep c many row (srcOf s lim) a1 o = bindM (signM c) (fun x => bindM (runM x row) fun p => retM (.inl (row ++ List.replicate p.2 p.1))) (srcOf s lim) a1 o) := fun h => by
      unfold rowStep
      rw [if_pos h]
    have HSF : Hid (¬ row.length < many → rowStep c many row (srcOf s lim) a1 o = if many < row.length then .error 10 else .ok (.inr row, a1, o)) := fun h => by
      unfold rowStep
      rw [if_neg h]
      by_cases h2 : many < row.length
      · rw [if_pos h2, if_pos h2]
        rfl
      · rw [if_neg h2, if_neg h2]
        rfl
    clear ho hrd hg h15 hrun
    by_cases hlt : row.length < many
    · have HST1 := Lib.hid (HST.out hlt)
      have HRU := Lib.hid (fun x a2 w1 (hx : x < 19) (h2 : a2 ≤ 8 * s.size) (hw : wr.grownBy w1 (some gr)) (h3 : Rd 81 w1 gr s a2 0) => run_any g gr a2 lim x w.heap.size row.length cp A s o row hs h2 hx rfl (by omega) (fun y hy => by have := H15.out y hy; omega) w1 (HPW.out.grown HRD.out hw) h3 (row_read HO.out HRD.out hw))
      clear HST HSF
      generalize hlen : row.length = n at *
      have HLEN := Lib.hid hlen
      clear hlen
      go_wp2_with fail
      refine (HSG.out).mono ?_; rintro e w2 hpr
      cases hn : signM c (srcOf s lim) a1 o with
      | error k =>
        obtain ⟨hg2, hbad, hk0, hk1⟩ := hpr.of_err hn
        unfold sgBad at hbad
        subst hbad
        have HE := Lib.hid (loop_of (HRUN.out _ (.err (HST1.out.trans (bind_err hn)))))
        have hne : ((k : Int) == 0) = false := by rw [beq_eq_false_iff_ne]; omega
        have HG2 := Lib.hid (grown_then HG.out hg2)
        clear hn hpr hg2
        go_wp2
        go_ret2
        exact .err HE.out HG2.out rfl hk0 hk1
      | ok q =>
        obtain ⟨x, a2, o2⟩ := q
        obtain rfl := sign_same hn
        obtain ⟨hg2, ⟨rfl, hxn⟩, hr2, ha2⟩ := hpr.of_ok hn
        have hlta : a1 < a2 := by
          obtain ⟨l, h1, _, h2, _⟩ := sign_ok _ _ _ _ _ _ _ hn
          omega
        have hx19 : x < 19 := by omega
        have HST2 := Lib.hid (HST1.out.trans (bind_ok hn))
        have HRU2 := Lib.hid (HRU.out x a2 w2 hx19 ha2 hg2 hr2)
        have HO2 := Lib.hid (row_read HO.out HRD.out hg2)
        have HG2 := Lib.hid (grown_then HG.out hg2)
        have HR2 := Lib.hid hr2
        have HRL := Lib.hid (run_le x row hx19 H15.out)
        clear hn hpr hg2 hr2 HST1 HRU HSG
        go_wp2_with fail
        refine (HRU2.out).mono ?_; rintro e w3 hpr
        cases hn : runM x row (srcOf s lim) a2 o2 with
        | error k =>
          obtain ⟨hg3, ⟨y, z, rfl⟩, hk0, hk1⟩ := hpr.of_err hn
          have HE := Lib.hid (loop_of (HRUN.out _ (.err (HST2.out.trans (bind_err hn)))))
          have hne : ((k : Int) == 0) = false := by rw [beq_eq_false_iff_ne]; omega
          have HG3 := Lib.hid (grown_then HG2.out hg3)
          clear hn hpr hg3
          go_wp2
          go_ret2
          exact .err HE.out HG3.out rfl hk0 hk1
        | ok q =>
          obtain ⟨⟨y, t⟩, a3, o3⟩ := q
          obtain ⟨hg3, hrn, hr3, ha3⟩ := hpr.of_ok hn
          unfold rnOk at hrn
          subst hrn
          obtain ⟨ho3, h23, hy, ht1, ht2⟩ := run_o hn
          have hrl2 := HRL.out
          have hy15 : y ≤ 15 := by
            have : y = (runOf x row).1 := hy
            omega
          have ht138 : 1 ≤ t ∧ t ≤ 138 := by
            have h1 : (runOf x row).2.1 ≤ t := ht1
            have h2 : t < (runOf x row).2.1 + 2 ^ (runOf x row).2.2 := ht2
            omega
          obtain ⟨ht0, ht9⟩ := ht138
          subst ho3
          have HST3 := Lib.hid (HST2.out.trans (bind_ok hn))
          have HO3 := Lib.hid (row_read HO2.out HR2.out hg3)
          have HG3 := Lib.hid (grown_then HG2.out hg3)
          have HR3 := Lib.hid hr3
          have HSM := Lib.hid (same_any t y ht0 (by omega) w3)
          clear hn hpr hg3 hr3 hrl2 hy ht1 ht2 HST2 HRU2
          go_wp2_with fail
          refine (HSM.out).mono ?_; rintro e w4 ⟨gB, rfl, hgB, hge, hb4⟩
          have HO4 := Lib.hid (row_kept HO3.out (fun q e => hb4.block q (HO3.out.lt q e).2))
          have HG4 := Lib.hid (grown_then HG3.out (grown_of_below hb4))
          have HR4 := Lib.hid (HR3.out.below hb4 HR3.out.lt)
          have HGB := Lib.hid hgB
          have hbase : w.heap.size ≤ w4.heap.size := HG4.out.size
          have HCL : Hid ((cells8 (List.replicate t y)).length = t) := by show _ = _; simp [cells8]
          have HON : Hid (∀ u ∈ cells8 (List.replicate t y), u.oneCell' = true) := by
            intro u hu
            unfold cells8 at hu
            rw [List.mem_map] at hu
            obtain ⟨_, _, rfl⟩ := hu
            rfl
          have HNW : Hid (∀ q u, (cells8 (List.replicate t y))[q]? = some u → w4.cell? ((⟨gB, 0, none⟩ : Addr).add q) = some u) := by
            intro q u hu
            rw [Addr.add_lit, Nat.zero_add, cell_of_row w4 gB q _ _ _ HGB.out, List.getElem?_toArray]
            exact hu
          obtain ⟨i0, hi, hz0, hz1, hz2⟩ := info_parts info8
          obtain ⟨rep, hrep⟩ : ∃ rep, rep = List.replicate t y := ⟨_, rfl⟩
          rw [← hrep] at HCL HON HNW HST3 HGB
          have HREP := Lib.hid hrep
          clear hgB hge hb4 HSM hrep
          go_wp2_with (at_builtin; refine wpList_append_own_at _ rfl (.tmp 40) (.tmp 43) _ rfl w.heap.size 5 i0 (.int .u8 0) 1 1 Try.underlying22 hi hz0 hz1 hz2 rfl (by decide) _ n (cells8 row) rfl HO4.out ⟨gB, 0, none⟩ t t (cells8 rep) rfl ?c1 ?c2 ?c3 ?c4 ?c5 hbase ?_)
          case c1 => rw [HCL.out, Nat.mul_one]
          case c2 => exact HNW.out
          case c3 => exact HON.out
          case c4 => unfold maxLen; omega
          case c5 => omega
          intro v2 w5 hown hgrow _ hat
          have hR5 : Rd 81 w5 gr s a3 0 := (hgrow.block gr HR4.out.lt (fun e => row_ne (by decide) HO4.out HR4.out e.symm)).trans HR4.out
          have hG5 : w.grownBy w5 (some gr) := ⟨hgrow.os.trans HG4.out.os, hgrow.tape.trans HG4.out.tape, hgrow.output.trans HG4.out.output, Nat.le_trans HG4.out.size hgrow.size, fun i hi hne =>
            (hgrow.block i (Nat.lt_of_lt_of_le hi HG4.out.size) (fun e => by
              have := (HO4.out.lt i e.symm).1
              omega)).trans (HG4.out.block i hi hne)⟩
          have HR5 := Lib.hid hR5
          have HG5 := Lib.hid hG5
          have hlr : (row ++ rep).length = n + t := by rw [List.length_append, HLEN.out, HREP.out, List.length_replicate]
          have HLR := Lib.hid hlr
          have HO5 : Hid (w5.ownsRow w.heap.size 5 1 v2 (row ++ rep).length (cells8 (row ++ rep))) := by
            show World.ownsRow _ _ _ _ _ _ _
            rw [hlr, cells8_app]
            exact hown
          have HE := Lib.hid (fun ans h => HRUN.out ans (.more (HST3.out.trans rfl) h))
          have H15b : Hid (∀ z ∈ row ++ rep, z ≤ 15) := by
            intro z hz
            rw [List.mem_append] at hz
            rcases hz with hz | hz
            · exact H15.out z hz
            · rw [HREP.out, List.mem_replicate] at hz
              omega
          clear hown hgrow hat hR5 hG5 hlr
          go_wp2
          go_roundw
          case rel => exact ⟨row ++ rep, a3, HO5.out, HR5.out, ha3, HG5.out, by rw [HLR.out]; omega, H15b.out, HE.out⟩
          case measure =>
            rw [rdAt_of HR5.out, HM.out]
            omega
    · have HSF1 := Lib.hid (HSF.out hlt)
      clear HST HSF
      by_cases hgt : many < row.length
      · have HE := Lib.hid (loop_of (HRUN.out _ (.err (HSF1.out.trans (if_pos hgt)))))
        generalize row.length = n at *
        go_wp2_with fail
        go_ret2
        exact .err HE.out HG.out rfl (by omega) (by omega)
      · have HE := Lib.hid (loop_of (HRUN.out _ (.done (HSF1.out.trans (if_neg hgt)))))
        have HO9 : Hid ((∃ A' cap', Ending.returned (.tuple #[.slice A row.length cp, .int .i64 0]) = .returned (.tuple #[.slice A' row.length cap', .int .i64 0]) ∧ wr.ownsRow w.heap.size 5 1 (.slice A' row.length cap') row.length (cells8 row)) ∧ ∀ y ∈ row, y ≤ 15) := ⟨⟨A, cp, rfl, HO.out⟩, H15.out⟩
        generalize hlen : row.length = n at *
        have HLEN := Lib.hid hlen
        clear hlen
        go_wp2_with fail
        go_ret2
        refine .ok HE.out HG.out ?_ HRD.out ha1
        unfold rwOk
        rw [HLEN.out]
        exact HO9.out
end Go.Proofs.Ytbgclbnbnpnolaa
