/-
  Glob, the document's side: Matches.
-/
import Derived.Test.YtjnoapbddifcpaaGreatDoorPkAI
import Derived.Deep.RegionHeld3
import Derived.Deep.CutBlock
import Derived.IntWalk
namespace Go.Proofs.YtjnoapbddifcpaaGreatDoor
set_option maxRecDepth 100000
set_option linter.unusedSimpArgs false
open Go.RowKit Go.Joins Go.Deep

def HeldS (ww : World) (g p : Nat) (C : Bool) (bl ol lp ga : Nat) (x : Atm) (Ai : Option Addr) (ci : Nat) : Prop := ww.cell? ⟨g, p, none⟩ = some (.bool C) ∧ ww.cell? ⟨bl, ol + p, none⟩ = some (.int .i64 (lp : Nat)) ∧ ww.cell? ⟨ga, 0, none⟩ = some (.int .i64 x.k) ∧ ww.cell? ⟨ga, 1, none⟩ = some (.int .i64 x.r) ∧ ww.cell? ⟨ga, 2, none⟩ = some (.bool x.n) ∧ ww.cell? ⟨ga, 3, none⟩ = some (.slice Ai x.rs.length ci)
theorem heldF {w ww : World} {N g g2 ga p bl ol : Nat} {F H : Nat → Bool} {x : Atm} {Ai : Option Addr} {ci : Nat} {l : List Nat} (hS : InSt w ww N g g2 ga F H x Ai ci) (hI : Ins ww (some ⟨bl, ol, none⟩) l) (hp : p < l.length) (hpN : p < N + 1) : HeldS ww g p (F p) bl ol (l.getD p 0) ga x Ai ci := by
  obtain ⟨b', o', e, _, hc⟩ := hI (by omega)
  injection e with e
  injection e with e1 e2 _
  subst e1 e2
  exact ⟨(cell_of_row _ _ p _ _ _ hS.c).trans (rowBo_get _ _ p hpN), hc p hp, (cell_of_row _ _ 0 _ _ _ hS.a).trans rfl, (cell_of_row _ _ 1 _ _ _ hS.a).trans rfl, (cell_of_row _ _ 2 _ _ _ hS.a).trans rfl, (cell_of_row _ _ 3 _ _ _ hS.a).trans rfl⟩
theorem in_zero (R : Nat → Bool) (h : R 0 = false) : (fun p => decide (p < 0) && R p) = fun p => decide (p < 1) && R p := by
  funext p
  by_cases e : p = 0
  · subst e; rw [h]; rfl
  · rw [decide_eq_false (Nat.not_lt_zero p), decide_eq_false (by omega)]
theorem in_next (R : Nat → Bool) (i : Nat) (v : Bool) (h : v = R i) : (fun p => if p = i then v else decide (p < i) && R p) = fun p => decide (p < i + 1) && R p := by
  funext p
  by_cases e : p = i
  · subst e
    rw [if_pos rfl, h, decide_eq_true (Nat.lt_succ_self p), Bool.true_and]
  · rw [if_neg e]
    congr 1
    rw [Bool.eq_iff_iff, decide_eq_true_iff, decide_eq_true_iff]
    omega
set_option maxHeartbeats 16000000 in
theorem rmatches_any (ats : List Atm) (A : Option Addr) (c : Nat) (s : ByteArray) (hs : s.size ≤ 100000) (hl : ats.length ≤ 100000) (hrs : ∀ x ∈ ats, x.rs.length ≤ 1000000) (w : World) (hA : RAts w A ats) :
    Calls Tryz.prog 59 #[.slice A ats.length c, .string s] w fun e w' => e = .returned (.bool (mtB ats (runesB s))) ∧ Below w.heap.size w w' := by
  have hira := info_ratom
  have HNU := Lib.hid (numbers_any s (by omega) w)
  have hlen : (runesB s).length ≤ s.size := runeF_len s s.size 0
  have hmx := allR_of (runeF_max s s.size 0)
  have HRF := Lib.hid (row_full ats (runesB s))
  have HA := Lib.hid hA
  have HRN := Lib.hid (fun i hi => row_nil (runesB s) i hi)
  have HMX : Hid (AllR (runesB s)) := hmx
  generalize runesB s = l at *
  have hN0 : l.length ≤ 100000 := by omega
  have hmk := make_bools (l.length + 1) (by omega)
  have hmk' : ∀ w : World, (Instr.makeSlice 185 (.int .i64 ((l.length : Int) + 1)) (.int .i64 ((l.length : Int) + 1))).run Tryz.prog w = .ok (.slice (some ⟨w.heap.size, 0, none⟩) (l.length + 1) (l.length + 1)) (w.alloc (.cells (rowBo (fun _ => false) (l.length + 1)) 4)) := hmk
  obtain ⟨N, hN⟩ : ∃ N, N = l.length := ⟨_, rfl⟩
  rw [← hN] at hmk' HNU HRF HRN hN0
  have HNL := Lib.hid hN
  have HRS := Lib.hid hrs
  obtain ⟨V, hV⟩ : ∃ V, V = mtB ats l := ⟨_, rfl⟩
  rw [← hV]
  rw [← hV] at HRF
  clear hN hA hlen hmk hmx hrs hV
  go_enter Tryz.func59, Tryz.ntmps59
  go_wp2_with fail
  refine HNU.out.mono ?_; rintro e w1 ⟨Al, cl, rfl, hIn, hb1⟩
  have HIN := Lib.hid hIn
  have HB1 := Lib.hid hb1
  have hx2 := heap_alloc_new w1 (.cells (rowBo (fun _ => false) (N + 1)) 4)
  have k0 := (cell_of_row _ _ 0 _ _ _ hx2).trans (rowBo_get _ _ 0 (by omega))
  have f0 := frozen_of_row _ _ 0 _ _ hx2
  clear hIn hb1 hx2
  go_wp2_with fail
  rw [rowBo_set]
  have hx3 := heap_alloc_new w1 (.cells (rowBo (fun p => if p = 0 then true else false) (N + 1)) 4)
  have hb3 := below_then HB1.out (below_alG w1 (.cells (rowBo (fun p => if p = 0 then true else false) (N + 1)) 4))
  have hi3 := HIN.out.below (below_alG w1 (.cells (rowBo (fun p => if p = 0 then true else false) (N + 1)) 4))
  have hg3 : w.heap.size ≤ w1.heap.size := HB1.out.size
  have hre : rowBo (fun p => if p = 0 then true else false) (N + 1) = rowBo (rowM [] l) (N + 1) := rowBo_ext fun p hp => by
    rw [HRN.out p (by omega)]
    by_cases h : p = 0
    · rw [if_pos h, h]; rfl
    · rw [if_neg h]; exact (decide_eq_false h).symm
  rw [hre] at hx3 hb3 hi3 ⊢
  have HX3 : Hid ((w1.alloc (.cells (rowBo (rowM [] l) (N + 1)) 4)).heap[w1.heap.size]? = some (.cells (rowBo (rowM (ats.take 0) l) (N + 1)) 4 (0, 0))) := hx3
  have HB3 := Lib.hid hb3
  have HI3 := Lib.hid hi3
  generalize w1.heap.size = g1 at *
  generalize w1.alloc (.cells (rowBo (rowM [] l) (N + 1)) 4) = w3 at *
  clear k0 f0 hx3 hb3 hi3 hre
  go_loopw [6, 21] (fun v i wr => ∃ j g : Nat, j ≤ ats.length ∧ v = .slice (some ⟨g, 0, none⟩) (N + 1) (N + 1) ∧ i = .int .i64 (j : Nat) ∧ w.heap.size ≤ g ∧ Hid (wr.heap[g]? = some (.cells (rowBo (rowM (ats.take j) l) (N + 1)) 4 (0, 0))) ∧ Hid (Ins wr Al l) ∧ Hid (Below w.heap.size w wr)) (fun _ i _ => ats.length - (intOf i).toNat)
  case atStart => exact ⟨0, g1, Nat.zero_le _, rfl, rfl, hg3, HX3, HI3, HB3⟩
  case round =>
    obtain ⟨j, g, hj, rfl, rfl, hgw, HG, HI, HB⟩ := hrel
    by_cases hlt : j < ats.length
    · obtain ⟨b, off, rfl, hb, hcc⟩ := (HA.out.below HB.out) (by omega)
      have hbw : b < w.heap.size := by
        obtain ⟨b', off', e, hb', _⟩ := HA.out (by omega)
        injection e with e
        injection e with e _ _
        omega
      obtain ⟨c0, c1, c2, Ai, ci, c3, hR⟩ := hcc j ats[j] (List.getElem?_eq_getElem hlt)
      have hRw : 0 < ats[j].rs.length → ∀ b off, Ai = some ⟨b, off, none⟩ → b < w.heap.size := fun h0 b1 off1 e1 => by
        obtain ⟨b', off', e, hb', hc'⟩ := HA.out (by omega)
        injection e with e
        injection e with e e' _
        subst e e'
        obtain ⟨_, _, _, Ai', ci', d3, hR'⟩ := hc' j ats[j] (List.getElem?_eq_getElem hlt)
        have e3 := ((HB.out.cell (p := ⟨b, off + j * 4 + 3, none⟩) hbw).trans d3).symm.trans c3
        injection e3 with e3
        injection e3 with e3 _ _
        obtain ⟨b2, off2, e4, hb2, _⟩ := hR' h0
        rw [e3, e1] at e4
        injection e4 with e4
        injection e4 with e4 _ _
        omega
      have hTK : ats.take (j + 1) = ats.take j ++ [ats[j]] := List.take_succ_eq_append_getElem hlt
      have hxl := HRS.out ats[j] (List.getElem_mem hlt)
      generalize ats[j] = x at *
      have HTK := Lib.hid hTK
      have HRW := Lib.hid hRw
      clear hcc hTK hRw
      -- the atom's copy, the row that is filled
      have hb4 := below_alG wr (.cells #[.int .i64 x.k, .int .i64 x.r, .bool x.n, .slice Ai x.rs.length ci] 104)
      have hx4 := heap_alloc_new wr (.cells #[.int .i64 x.k, .int .i64 x.r, .bool x.n, .slice Ai x.rs.length ci] 104)
      have hg4 := (heap_alloc_old wr (.cells #[.int .i64 x.k, .int .i64 x.r, .bool x.n, .slice Ai x.rs.length ci] 104) (lt_of_block HG.out)).trans HG.out
      have hs4 : (wr.alloc (.cells #[.int .i64 x.k, .int .i64 x.r, .bool x.n, .slice Ai x.rs.length ci] 104)).heap.size = wr.heap.size + 1 := by simp
      have hwr : w.heap.size ≤ wr.heap.size := HB.out.size
      have hgr : g < wr.heap.size := lt_of_block HG.out
      go_upto_region 7 with fail
      have HB4 := Lib.hid (below_then HB.out hb4)
      have HI4 := Lib.hid (HI.out.below hb4)
      have HR4 := Lib.hid (hR.below (Nat.le_refl _) hb4)
      have HX4 := Lib.hid hx4
      have HG4 := Lib.hid hg4
      have HS4 := Lib.hid hs4
      clear hb4 hx4 hg4 hs4 c0 c1 c2 c3 hR
      generalize hgav : wr.heap.size = ga at *
      generalize wr.alloc (.cells #[.int .i64 x.k, .int .i64 x.r, .bool x.n, .slice Ai x.rs.length ci] 104) = w4 at *
      clear hgav
      have HD5 := Lib.hid (heap_alloc_new w4 (.cells (rowBo (fun _ => false) (N + 1)) 4))
      have hb5 := below_alG w4 (.cells (rowBo (fun _ => false) (N + 1)) 4)
      have HST : Hid (InSt w (w4.alloc (.cells (rowBo (fun _ => false) (N + 1)) 4)) N g w4.heap.size ga (rowM (ats.take j) l) (fun p => decide (p < 0) && rowM (ats.take (j + 1)) l p) x Ai ci) :=
        ⟨(hb5.block _ (lt_of_block HG4.out)).trans HG4.out, by
          rw [rowBo_ext (n := N + 1) (F := fun p => decide (p < 0) && rowM (ats.take (j + 1)) l p) (G := fun _ => false) (fun p _ => by simp)]
          exact HD5.out, (hb5.block _ (lt_of_block HX4.out)).trans HX4.out, HR4.out.below (Nat.le_refl _) hb5, below_then HB4.out hb5⟩
      have HI5 := Lib.hid (HI4.out.below hb5)
      have hg2w : w.heap.size ≤ w4.heap.size := by have := HS4.out; omega
      have hgg : g ≠ w4.heap.size := by have := HS4.out; omega
      have hga2 : ga ≠ w4.heap.size := by have := HS4.out; omega
      clear hb5 HD5 HG4 HX4 HB4 HI4 HR4 HS4 HG HI HB
      go_wp2_with fail
      generalize w4.alloc (.cells (rowBo (fun _ => false) (N + 1)) 4) = w5 at *
      generalize w4.heap.size = g2 at *
      go_loopw [31] (fun v wq => ∃ i : Nat, i ≤ N + 1 ∧ v = .int .i64 (i : Nat) ∧ Hid (InSt w wq N g g2 ga (rowM (ats.take j) l) (fun p => decide (p < i) && rowM (ats.take (j + 1)) l p) x Ai ci) ∧ Hid (Ins wq Al l)) (fun v _ => N + 1 - (intOf v).toNat)
      case atStart => exact ⟨0, Nat.zero_le _, rfl, HST, HI5⟩
      case round =>
        obtain ⟨i, hi, rfl, HS, HI⟩ := hrel
        by_cases hin : i < N + 1
        · have gi : decide ((i : Int) < (N : Int) + 1) = true := decide_eq_true (by omega)
          have hS := HS.out
          have ak := (cell_of_row _ _ 0 _ _ _ hS.a).trans (show _ = some (Value.int .i64 x.k) from rfl)
          have d1 := (cell_of_row _ _ i _ _ _ hS.d).trans (rowBo_get _ _ i hin)
          have df := frozen_of_row _ _ i _ _ hS.d
          have e1 := (cell_of_row _ _ i _ _ _ hS.c).trans (rowBo_get _ _ i hin)
          clear hS
          have HIN3 := Lib.hid (fun (v : Bool) (hv : v = rowM (ats.take (j + 1)) l i) => in_next (rowM (ats.take (j + 1)) l) i v hv)
          have HSET := Lib.hid (fun (v : Bool) => HS.out.set hgg hg2w HRW.out i v)
          by_cases h3 : x.k = 3
          · rw [h3] at ak
            have HST2 := Lib.hid (row_star h3 (ats.take j) l i)
            rw [← HTK.out] at HST2
            by_cases hi0 : i = 0
            · subst hi0
              cases hC : rowM (ats.take j) l 0 with
              | true =>
                rw [hC] at e1
                have hv : true = rowM (ats.take (j + 1)) l 0 := by rw [HST2.out, hC]; rfl
                have HN2 := Lib.hid (HSET.out true)
                rw [HIN3.out true hv] at HN2
                clear hv hC HSET HIN3
                go_wp2_with fail
                go_roundw
                case rel => exact ⟨1, by omega, rfl, HN2, HI.out.setI HS.out.d (rowBo_no _ _) _ _⟩
                case measure => simp [intOf]
              | false =>
                rw [hC] at e1
                have hv : false = rowM (ats.take (j + 1)) l 0 := by rw [HST2.out, hC]; rfl
                have HN2 := Lib.hid (HSET.out false)
                rw [HIN3.out false hv] at HN2
                clear hv hC HSET HIN3
                go_wp2_with fail
                go_roundw
                case rel => exact ⟨1, by omega, rfl, HN2, HI.out.setI HS.out.d (rowBo_no _ _) _ _⟩
                case measure => simp [intOf]
            · obtain ⟨p, hp⟩ : ∃ p, p + 1 = i := ⟨i - 1, by omega⟩
              have hpi : p < i := by omega
              have b1 := (cell_of_row _ _ p _ _ _ HS.out.d).trans (rowBo_get _ _ p (by omega))
              rw [decide_eq_true hpi, Bool.true_and] at b1
              rw [decide_eq_false (Nat.lt_irrefl i), Bool.false_and] at d1
              have hvv : rowM (ats.take (j + 1)) l i = (rowM (ats.take j) l i || rowM (ats.take (j + 1)) l p) := by
                rw [HST2.out, decide_eq_true (by omega : 0 < i), Bool.true_and, show i - 1 = p by omega]
              have HVV := Lib.hid hvv
              have hqI : (i : Int) - 1 = ((p : Nat) : Int) := by omega
              have hq0 : decide ((0 : Int) < (i : Int)) = true := decide_eq_true (by omega)
              have hq1 : 0 < i := by omega
              have hpN : p < N + 1 := by omega
              clear hvv HST2 hi0 hp
              generalize hCv : rowM (ats.take j) l i = C at *
              generalize hDv : rowM (ats.take (j + 1)) l p = D at *
              clear hCv hDv
              cases C with
              | true =>
                have hv : true = rowM (ats.take (j + 1)) l i := by rw [HVV.out]; rfl
                have HN2 := Lib.hid (HSET.out (true))
                rw [HIN3.out (true) hv] at HN2
                clear hv HSET HIN3
                go_wp2_with fail
                go_roundw
                case rel => exact ⟨i + 1, by omega, by go_num, HN2, HI.out.setI HS.out.d (rowBo_no _ _) _ _⟩
                case measure => simp [intOf]; omega
              | false =>
                cases D with
                | true =>
                  have hv : true = rowM (ats.take (j + 1)) l i := by rw [HVV.out]; rfl
                  have HN2 := Lib.hid (HSET.out (true))
                  rw [HIN3.out (true) hv] at HN2
                  clear hv HSET HIN3
                  go_wp2_with fail
                  go_roundw
                  case rel => exact ⟨i + 1, by omega, by go_num, HN2, HI.out.setI HS.out.d (rowBo_no _ _) _ _⟩
                  case measure => simp [intOf]; omega
                | false =>
                  have hv : false = rowM (ats.take (j + 1)) l i := by rw [HVV.out]; rfl
                  have HN2 := Lib.hid (HSET.out (false))
                  rw [HIN3.out (false) hv] at HN2
                  clear hv HSET HIN3
                  go_wp2_with fail
                  go_roundw
                  case rel => exact ⟨i + 1, by omega, by go_num, HN2, HI.out.setI HS.out.d (rowBo_no _ _) _ _⟩
                  case measure => simp [intOf]; omega
          · have g3 : (x.k == 3) = false := by rw [beq_eq_false_iff_ne]; exact h3
            clear HSET HIN3
            by_cases hi0 : i = 0
            · subst hi0
              have h0 : rowM (ats.take (j + 1)) l 0 = false := by rw [HTK.out]; exact row_one0 h3 _ _
              have HS2 : Hid (InSt w wr N g g2 ga (rowM (ats.take j) l) (fun p => decide (p < 1) && rowM (ats.take (j + 1)) l p) x Ai ci) := by
                rw [← in_zero _ h0]
                exact HS.out
              clear h0 h3
              go_wp2_with fail
              go_roundw
              case rel => exact ⟨1, by omega, rfl, HS2, HI⟩
              case measure => simp [intOf]
            · obtain ⟨p, hp⟩ : ∃ p, p + 1 = i := ⟨i - 1, by omega⟩
              have hpi : p < i := by omega
              have hpN : p < N + 1 := by omega
              have hpl : p < l.length := by have := HNL.out; omega
              have hvv : rowM (ats.take (j + 1)) l i = (rowM (ats.take j) l p && takA x (l.getD p 0)) := by
                rw [HTK.out, ← hp]
                exact row_one h3 (ats.take j) l p hpl
              obtain ⟨bl, ol, rfl, hbl, hcl⟩ := HI.out (by omega)
              have hqI : (i : Int) - 1 = ((p : Nat) : Int) := by omega
              have hqW : IntKind.i64.wrap ((i : Int) - 1) = ((p : Nat) : Int) := by rw [hqI]; exact IntWalk.i64_in _ (by omega)
              have hq0 : decide ((0 : Int) < (i : Int)) = true := decide_eq_true (by omega)
              have hq1 : 0 < i := by omega
              have hN1 : l.length = N := HNL.out.symm
              have hpW := Lib.hid (IntWalk.i64_in (p : Int) (by omega))
              have hp1 : (p : Int) < (N : Int) + 1 := by omega
              have hp2 : (p : Int) < (N : Int) := by omega
              have hi1 : (i : Int) < (N : Int) + 1 := by omega
              have HVV := Lib.hid hvv
              obtain ⟨C, hC⟩ : ∃ C, C = rowM (ats.take j) l p := ⟨_, rfl⟩
              obtain ⟨lp, hlp⟩ : ∃ lp, lp = l.getD p 0 := ⟨_, rfl⟩
              rw [← hC, ← hlp] at HVV
              have hCl := Lib.hid hC.symm
              have hLl := Lib.hid hlp.symm
              have hlm : lp ≤ 1114111 := by rw [hlp]; exact HMX.out p
              clear hvv hi0 hp h3 hC hlp hcl d1 df e1 hN1
              go_upto_region 14 with fail
              cases C with
              | true =>
                have Sv := Lib.hid (HS.out.next (Below.refl _ _).drew)
                have Iv : Hid (Ins wr.drew (some ⟨bl, ol, none⟩) l) := HI.out.below (Below.refl _ _).drew
                have hh := heldF (p := p) Sv.out Iv.out hpl hpN
                rw [hCl.out, hLl.out] at hh
                refine wp_region_held_drew (S := (fun ww => HeldS ww g p true bl ol lp ga x Ai ci)) (by kernel_rfl) hh (fun hH1 => ?_)
                clear hh
                generalize wr.drew = wv at *
                refine wpAnyH_take (i := 0) (v := ?_) rfl (by kernel_rfl) (by kernel_rfl) (by kernel_rfl) (fun _ _ _ h => h) (Or.inl ⟨by kernel_rfl, ?_⟩) (by assumption) ?_
                rotate_left
                · intro ww hSw
                  obtain ⟨s0, s1, s2, s3, s4, s5⟩ := hSw
                  try rw [hpW.out]
                  go_simp
                  try with_reducible rfl
                try simp only [Act.put, List.setIfInBounds_toArray, List.set_cons_zero, List.set_cons_succ, List.getElem_toArray, List.getElem_cons_succ, List.getElem_cons_zero]
                refine wpAnyH_take (i := 1) (v := ?_) rfl (by kernel_rfl) (by kernel_rfl) (by kernel_rfl) (fun _ _ _ h => h) (Or.inl ⟨by kernel_rfl, ?_⟩) (by assumption) ?_
                rotate_left
                · intro ww hSw
                  obtain ⟨s0, s1, s2, s3, s4, s5⟩ := hSw
                  try rw [hpW.out]
                  go_simp
                  try with_reducible rfl
                try simp only [Act.put, List.setIfInBounds_toArray, List.set_cons_zero, List.set_cons_succ, List.getElem_toArray, List.getElem_cons_succ, List.getElem_cons_zero]
                refine wpAnyH_take (i := 2) (v := ?_) rfl (by kernel_rfl) (by kernel_rfl) (by kernel_rfl) (fun _ _ _ h => h) (Or.inl ⟨by kernel_rfl, ?_⟩) (by assumption) ?_
                rotate_left
                · intro ww hSw
                  obtain ⟨s0, s1, s2, s3, s4, s5⟩ := hSw
                  try rw [hpW.out]
                  go_simp
                  try with_reducible rfl
                try simp only [Act.put, List.setIfInBounds_toArray, List.set_cons_zero, List.set_cons_succ, List.getElem_toArray, List.getElem_cons_succ, List.getElem_cons_zero]
                refine wpAnyH_take (i := 3) (v := ?_) rfl (by kernel_rfl) (by kernel_rfl) (by kernel_rfl) (fun _ _ _ h => h) (Or.inl ⟨by kernel_rfl, ?_⟩) (by assumption) ?_
                rotate_left
                · intro ww hSw
                  obtain ⟨s0, s1, s2, s3, s4, s5⟩ := hSw
                  try rw [hpW.out]
                  go_simp
                  try with_reducible rfl
                try simp only [Act.put, List.setIfInBounds_toArray, List.set_cons_zero, List.set_cons_succ, List.getElem_toArray, List.getElem_cons_succ, List.getElem_cons_zero]
                refine wpAnyH_take (i := 4) (v := ?_) rfl (by kernel_rfl) (by kernel_rfl) (by kernel_rfl) (fun _ _ _ h => h) (Or.inl ⟨by kernel_rfl, ?_⟩) (by assumption) ?_
                rotate_left
                · intro ww hSw
                  obtain ⟨s0, s1, s2, s3, s4, s5⟩ := hSw
                  try rw [hpW.out]
                  go_simp
                  try with_reducible rfl
                try simp only [Act.put, List.setIfInBounds_toArray, List.set_cons_zero, List.set_cons_succ, List.getElem_toArray, List.getElem_cons_succ, List.getElem_cons_zero]
                refine wpAnyH_take (i := 5) (v := ?_) rfl (by kernel_rfl) (by kernel_rfl) (by kernel_rfl) (fun _ _ _ h => h) (Or.inl ⟨by kernel_rfl, ?_⟩) (by assumption) ?_
                rotate_left
                · intro ww hSw
                  obtain ⟨s0, s1, s2, s3, s4, s5⟩ := hSw
                  try rw [hpW.out]
                  go_simp
                  try with_reducible rfl
                try simp only [Act.put, List.setIfInBounds_toArray, List.set_cons_zero, List.set_cons_succ, List.getElem_toArray, List.getElem_cons_succ, List.getElem_cons_zero]
                refine wpAnyH_take (i := 6) (v := ?_) rfl (by kernel_rfl) (by kernel_rfl) (by kernel_rfl) (fun _ _ _ h => h) (Or.inl ⟨by kernel_rfl, ?_⟩) (by assumption) ?_
                rotate_left
                · intro ww hSw
                  obtain ⟨s0, s1, s2, s3, s4, s5⟩ := hSw
                  try rw [hpW.out]
                  go_simp
                  try with_reducible rfl
                try simp only [Act.put, List.setIfInBounds_toArray, List.set_cons_zero, List.set_cons_succ, List.getElem_toArray, List.getElem_cons_succ, List.getElem_cons_zero]
                refine wpAnyH_take (i := 7) (v := ?_) rfl (by kernel_rfl) (by kernel_rfl) (by kernel_rfl) (fun _ _ _ h => h) (Or.inl ⟨by kernel_rfl, ?_⟩) (by assumption) ?_
                rotate_left
                · intro ww hSw
                  obtain ⟨s0, s1, s2, s3, s4, s5⟩ := hSw
                  try rw [hpW.out]
                  go_simp
                  try with_reducible rfl
                try simp only [Act.put, List.setIfInBounds_toArray, List.set_cons_zero, List.set_cons_succ, List.getElem_toArray, List.getElem_cons_succ, List.getElem_cons_zero]
                refine wpAnyH_take (i := 8) (v := ?_) rfl (by kernel_rfl) (by kernel_rfl) (by kernel_rfl) (fun _ _ _ h => h) (Or.inl ⟨by kernel_rfl, ?_⟩) (by assumption) ?_
                rotate_left
                · intro ww hSw
                  obtain ⟨s0, s1, s2, s3, s4, s5⟩ := hSw
                  try rw [hpW.out]
                  go_simp
                  try with_reducible rfl
                try simp only [Act.put, List.setIfInBounds_toArray, List.set_cons_zero, List.set_cons_succ, List.getElem_toArray, List.getElem_cons_succ, List.getElem_cons_zero]
                refine wpAnyH_take (i := 9) (v := ?_) rfl (by kernel_rfl) (by kernel_rfl) (by kernel_rfl) (fun _ _ _ h => h) (Or.inl ⟨by kernel_rfl, ?_⟩) (by assumption) ?_
                rotate_left
                · intro ww hSw
                  obtain ⟨s0, s1, s2, s3, s4, s5⟩ := hSw
                  try rw [hpW.out]
                  go_simp
                  try with_reducible rfl
                try simp only [Act.put, List.setIfInBounds_toArray, List.set_cons_zero, List.set_cons_succ, List.getElem_toArray, List.getElem_cons_succ, List.getElem_cons_zero]
                refine wpAnyH_take (i := 10) (v := ?_) rfl (by kernel_rfl) (by kernel_rfl) (by kernel_rfl) (fun _ _ _ h => h) (Or.inl ⟨by kernel_rfl, ?_⟩) (by assumption) ?_
                rotate_left
                · intro ww hSw
                  obtain ⟨s0, s1, s2, s3, s4, s5⟩ := hSw
                  try rw [hpW.out]
                  go_simp
                  try with_reducible rfl
                try simp only [Act.put, List.setIfInBounds_toArray, List.set_cons_zero, List.set_cons_succ, List.getElem_toArray, List.getElem_cons_succ, List.getElem_cons_zero]
                refine wpAnyH_take (i := 11) (v := ?_) rfl (by kernel_rfl) (by kernel_rfl) (by kernel_rfl) (fun _ _ _ h => h) (Or.inl ⟨by kernel_rfl, ?_⟩) (by assumption) ?_
                rotate_left
                · intro ww hSw
                  obtain ⟨s0, s1, s2, s3, s4, s5⟩ := hSw
                  try rw [hpW.out]
                  go_simp
                  try with_reducible rfl
                try simp only [Act.put, List.setIfInBounds_toArray, List.set_cons_zero, List.set_cons_succ, List.getElem_toArray, List.getElem_cons_succ, List.getElem_cons_zero]
                refine wpAnyH_take (i := 12) (v := ?_) rfl (by kernel_rfl) (by kernel_rfl) (by kernel_rfl) (fun _ _ _ h => h) (Or.inl ⟨by kernel_rfl, ?_⟩) (by assumption) ?_
                rotate_left
                · intro ww hSw
                  obtain ⟨s0, s1, s2, s3, s4, s5⟩ := hSw
                  try rw [hpW.out]
                  go_simp
                  try with_reducible rfl
                try simp only [Act.put, List.setIfInBounds_toArray, List.set_cons_zero, List.set_cons_succ, List.getElem_toArray, List.getElem_cons_succ, List.getElem_cons_zero]
                refine wpAnyH_take (i := 13) (v := ?_) rfl (by kernel_rfl) (by kernel_rfl) (by kernel_rfl) (fun _ _ _ h => h) (Or.inl ⟨by kernel_rfl, ?_⟩) (by assumption) ?_
                rotate_left
                · intro ww hSw
                  obtain ⟨s0, s1, s2, s3, s4, s5⟩ := hSw
                  try rw [hpW.out]
                  go_simp
                  try with_reducible rfl
                try simp only [Act.put, List.setIfInBounds_toArray, List.set_cons_zero, List.set_cons_succ, List.getElem_toArray, List.getElem_cons_succ, List.getElem_cons_zero]
                refine wpAnyH_ready (rs := [14]) (by kernel_rfl) (by simp) ?_
                refine AllReadyH.cons rfl (fun K hK => ?_) (AllReadyH.nil)
                go_simp
                refine (rtakes_any x lp Ai ci wv Sv.out.r hxl).mono ?_
                rintro e wa ⟨rfl, ha⟩
                have Sa := Lib.hid (Sv.out.next ha)
                have Ia := Lib.hid (Iv.out.below ha)
                have hh := heldF (p := p) Sa.out Ia.out hpl hpN
                rw [hCl.out, hLl.out] at hh
                refine hK.out _ _ hh (fun hH2 => ?_)
                clear hK K hh ha
                try simp only [Act.put, List.setIfInBounds_toArray, List.set_cons_zero, List.set_cons_succ, List.getElem_toArray, List.getElem_cons_succ, List.getElem_cons_zero]
                generalize hTv : takA x lp = TV at *
                refine wpAnyH_take (i := 15) (v := ?_) rfl (by kernel_rfl) (by kernel_rfl) (by kernel_rfl) (fun _ _ _ h => h) (Or.inl ⟨by kernel_rfl, ?_⟩) (by assumption) ?_
                rotate_left
                · intro ww hSw
                  obtain ⟨s0, s1, s2, s3, s4, s5⟩ := hSw
                  try rw [hpW.out]
                  go_simp
                  try with_reducible rfl
                try simp only [Act.put, List.setIfInBounds_toArray, List.set_cons_zero, List.set_cons_succ, List.getElem_toArray, List.getElem_cons_succ, List.getElem_cons_zero]
                refine wpAnyH_take (i := 16) (v := ?_) rfl (by kernel_rfl) (by kernel_rfl) (by kernel_rfl) (fun _ _ _ h => h) (Or.inl ⟨by kernel_rfl, ?_⟩) (by assumption) ?_
                rotate_left
                · intro ww hSw
                  obtain ⟨s0, s1, s2, s3, s4, s5⟩ := hSw
                  try rw [hpW.out]
                  go_simp
                  try with_reducible rfl
                try simp only [Act.put, List.setIfInBounds_toArray, List.set_cons_zero, List.set_cons_succ, List.getElem_toArray, List.getElem_cons_succ, List.getElem_cons_zero]
                refine wpAnyH_ready (rs := [17]) (by kernel_rfl) (by simp) ?_
                refine AllReadyH.cons rfl (fun K hK => ?_) (AllReadyH.nil)
                have d1 := (cell_of_row _ _ i _ _ _ Sa.out.d).trans (rowBo_get _ _ i hin)
                have df := frozen_of_row _ _ i _ _ Sa.out.d
                have hv : TV = rowM (ats.take (j + 1)) l i := by rw [HVV.out]; rfl
                have HN2 := Lib.hid (Sa.out.set hgg hg2w HRW.out i (TV))
                rw [in_next _ i (TV) hv] at HN2
                have HI2 := Lib.hid (Ia.out.setI Sa.out.d (rowBo_no _ _) i (.bool (TV)))
                have hh := heldF (p := p) HN2.out HI2.out hpl hpN
                rw [hCl.out, hLl.out] at hh
                clear hv
                go_simp
                refine hK.out _ _ hh (fun hH9 => ?_)
                clear hK K hh d1 df
                try simp only [Act.put, List.setIfInBounds_toArray, List.set_cons_zero, List.set_cons_succ, List.getElem_toArray, List.getElem_cons_succ, List.getElem_cons_zero]
                refine wpAnyH_done (by kernel_rfl) ?_ _
                go_wp2_with fail
                go_roundw
                case rel => exact ⟨i + 1, by omega, by go_num, HN2, HI2⟩
                case measure => simp [intOf]; omega
              | false =>
                have Sv := Lib.hid (HS.out.next (Below.refl _ _).drew)
                have Iv : Hid (Ins wr.drew (some ⟨bl, ol, none⟩) l) := HI.out.below (Below.refl _ _).drew
                have hh := heldF (p := p) Sv.out Iv.out hpl hpN
                rw [hCl.out, hLl.out] at hh
                refine wp_region_held_drew (S := (fun ww => HeldS ww g p false bl ol lp ga x Ai ci)) (by kernel_rfl) hh (fun hH1 => ?_)
                clear hh
                generalize wr.drew = wv at *
                refine wpAnyH_take (i := 0) (v := ?_) rfl (by kernel_rfl) (by kernel_rfl) (by kernel_rfl) (fun _ _ _ h => h) (Or.inl ⟨by kernel_rfl, ?_⟩) (by assumption) ?_
                rotate_left
                · intro ww hSw
                  obtain ⟨s0, s1, s2, s3, s4, s5⟩ := hSw
                  try rw [hpW.out]
                  go_simp
                  try with_reducible rfl
                try simp only [Act.put, List.setIfInBounds_toArray, List.set_cons_zero, List.set_cons_succ, List.getElem_toArray, List.getElem_cons_succ, List.getElem_cons_zero]
                refine wpAnyH_take (i := 1) (v := ?_) rfl (by kernel_rfl) (by kernel_rfl) (by kernel_rfl) (fun _ _ _ h => h) (Or.inl ⟨by kernel_rfl, ?_⟩) (by assumption) ?_
                rotate_left
                · intro ww hSw
                  obtain ⟨s0, s1, s2, s3, s4, s5⟩ := hSw
                  try rw [hpW.out]
                  go_simp
                  try with_reducible rfl
                try simp only [Act.put, List.setIfInBounds_toArray, List.set_cons_zero, List.set_cons_succ, List.getElem_toArray, List.getElem_cons_succ, List.getElem_cons_zero]
                refine wpAnyH_take (i := 2) (v := ?_) rfl (by kernel_rfl) (by kernel_rfl) (by kernel_rfl) (fun _ _ _ h => h) (Or.inl ⟨by kernel_rfl, ?_⟩) (by assumption) ?_
                rotate_left
                · intro ww hSw
                  obtain ⟨s0, s1, s2, s3, s4, s5⟩ := hSw
                  try rw [hpW.out]
                  go_simp
                  try with_reducible rfl
                try simp only [Act.put, List.setIfInBounds_toArray, List.set_cons_zero, List.set_cons_succ, List.getElem_toArray, List.getElem_cons_succ, List.getElem_cons_zero]
                refine wpAnyH_take (i := 3) (v := ?_) rfl (by kernel_rfl) (by kernel_rfl) (by kernel_rfl) (fun _ _ _ h => h) (Or.inl ⟨by kernel_rfl, ?_⟩) (by assumption) ?_
                rotate_left
                · intro ww hSw
                  obtain ⟨s0, s1, s2, s3, s4, s5⟩ := hSw
                  try rw [hpW.out]
                  go_simp
                  try with_reducible rfl
                try simp only [Act.put, List.setIfInBounds_toArray, List.set_cons_zero, List.set_cons_succ, List.getElem_toArray, List.getElem_cons_succ, List.getElem_cons_zero]
                refine wpAnyH_take (i := 4) (v := ?_) rfl (by kernel_rfl) (by kernel_rfl) (by kernel_rfl) (fun _ _ _ h => h) (Or.inl ⟨by kernel_rfl, ?_⟩) (by assumption) ?_
                rotate_left
                · intro ww hSw
                  obtain ⟨s0, s1, s2, s3, s4, s5⟩ := hSw
                  try rw [hpW.out]
                  go_simp
                  try with_reducible rfl
                try simp only [Act.put, List.setIfInBounds_toArray, List.set_cons_zero, List.set_cons_succ, List.getElem_toArray, List.getElem_cons_succ, List.getElem_cons_zero]
                refine wpAnyH_take (i := 5) (v := ?_) rfl (by kernel_rfl) (by kernel_rfl) (by kernel_rfl) (fun _ _ _ h => h) (Or.inl ⟨by kernel_rfl, ?_⟩) (by assumption) ?_
                rotate_left
                · intro ww hSw
                  obtain ⟨s0, s1, s2, s3, s4, s5⟩ := hSw
                  try rw [hpW.out]
                  go_simp
                  try with_reducible rfl
                try simp only [Act.put, List.setIfInBounds_toArray, List.set_cons_zero, List.set_cons_succ, List.getElem_toArray, List.getElem_cons_succ, List.getElem_cons_zero]
                refine wpAnyH_take (i := 6) (v := ?_) rfl (by kernel_rfl) (by kernel_rfl) (by kernel_rfl) (fun _ _ _ h => h) (Or.inl ⟨by kernel_rfl, ?_⟩) (by assumption) ?_
                rotate_left
                · intro ww hSw
                  obtain ⟨s0, s1, s2, s3, s4, s5⟩ := hSw
                  try rw [hpW.out]
                  go_simp
                  try with_reducible rfl
                try simp only [Act.put, List.setIfInBounds_toArray, List.set_cons_zero, List.set_cons_succ, List.getElem_toArray, List.getElem_cons_succ, List.getElem_cons_zero]
                refine wpAnyH_take (i := 7) (v := ?_) rfl (by kernel_rfl) (by kernel_rfl) (by kernel_rfl) (fun _ _ _ h => h) (Or.inl ⟨by kernel_rfl, ?_⟩) (by assumption) ?_
                rotate_left
                · intro ww hSw
                  obtain ⟨s0, s1, s2, s3, s4, s5⟩ := hSw
                  try rw [hpW.out]
                  go_simp
                  try with_reducible rfl
                try simp only [Act.put, List.setIfInBounds_toArray, List.set_cons_zero, List.set_cons_succ, List.getElem_toArray, List.getElem_cons_succ, List.getElem_cons_zero]
                refine wpAnyH_take (i := 8) (v := undef) rfl (by kernel_rfl) (by kernel_rfl) (by kernel_rfl) (fun _ _ _ h => h) (Or.inr ⟨by kernel_rfl, rfl⟩) (by assumption) ?_
                try simp only [Act.put, List.setIfInBounds_toArray, List.set_cons_zero, List.set_cons_succ, List.getElem_toArray, List.getElem_cons_succ, List.getElem_cons_zero]
                refine wpAnyH_take (i := 9) (v := undef) rfl (by kernel_rfl) (by kernel_rfl) (by kernel_rfl) (fun _ _ _ h => h) (Or.inr ⟨by kernel_rfl, rfl⟩) (by assumption) ?_
                try simp only [Act.put, List.setIfInBounds_toArray, List.set_cons_zero, List.set_cons_succ, List.getElem_toArray, List.getElem_cons_succ, List.getElem_cons_zero]
                refine wpAnyH_take (i := 10) (v := undef) rfl (by kernel_rfl) (by kernel_rfl) (by kernel_rfl) (fun _ _ _ h => h) (Or.inr ⟨by kernel_rfl, rfl⟩) (by assumption) ?_
                try simp only [Act.put, List.setIfInBounds_toArray, List.set_cons_zero, List.set_cons_succ, List.getElem_toArray, List.getElem_cons_succ, List.getElem_cons_zero]
                refine wpAnyH_take (i := 11) (v := undef) rfl (by kernel_rfl) (by kernel_rfl) (by kernel_rfl) (fun _ _ _ h => h) (Or.inr ⟨by kernel_rfl, rfl⟩) (by assumption) ?_
                try simp only [Act.put, List.setIfInBounds_toArray, List.set_cons_zero, List.set_cons_succ, List.getElem_toArray, List.getElem_cons_succ, List.getElem_cons_zero]
                refine wpAnyH_take (i := 12) (v := undef) rfl (by kernel_rfl) (by kernel_rfl) (by kernel_rfl) (fun _ _ _ h => h) (Or.inr ⟨by kernel_rfl, rfl⟩) (by assumption) ?_
                try simp only [Act.put, List.setIfInBounds_toArray, List.set_cons_zero, List.set_cons_succ, List.getElem_toArray, List.getElem_cons_succ, List.getElem_cons_zero]
                refine wpAnyH_take (i := 13) (v := undef) rfl (by kernel_rfl) (by kernel_rfl) (by kernel_rfl) (fun _ _ _ h => h) (Or.inr ⟨by kernel_rfl, rfl⟩) (by assumption) ?_
                try simp only [Act.put, List.setIfInBounds_toArray, List.set_cons_zero, List.set_cons_succ, List.getElem_toArray, List.getElem_cons_succ, List.getElem_cons_zero]
                refine wpAnyH_take (i := 14) (v := undef) rfl (by kernel_rfl) (by kernel_rfl) (by kernel_rfl) (fun _ _ _ h => h) (Or.inr ⟨by kernel_rfl, rfl⟩) (by assumption) ?_
                try simp only [Act.put, List.setIfInBounds_toArray, List.set_cons_zero, List.set_cons_succ, List.getElem_toArray, List.getElem_cons_succ, List.getElem_cons_zero]
                refine wpAnyH_take (i := 15) (v := ?_) rfl (by kernel_rfl) (by kernel_rfl) (by kernel_rfl) (fun _ _ _ h => h) (Or.inl ⟨by kernel_rfl, ?_⟩) (by assumption) ?_
                rotate_left
                · intro ww hSw
                  obtain ⟨s0, s1, s2, s3, s4, s5⟩ := hSw
                  try rw [hpW.out]
                  go_simp
                  try with_reducible rfl
                try simp only [Act.put, List.setIfInBounds_toArray, List.set_cons_zero, List.set_cons_succ, List.getElem_toArray, List.getElem_cons_succ, List.getElem_cons_zero]
                refine wpAnyH_take (i := 16) (v := ?_) rfl (by kernel_rfl) (by kernel_rfl) (by kernel_rfl) (fun _ _ _ h => h) (Or.inl ⟨by kernel_rfl, ?_⟩) (by assumption) ?_
                rotate_left
                · intro ww hSw
                  obtain ⟨s0, s1, s2, s3, s4, s5⟩ := hSw
                  try rw [hpW.out]
                  go_simp
                  try with_reducible rfl
                try simp only [Act.put, List.setIfInBounds_toArray, List.set_cons_zero, List.set_cons_succ, List.getElem_toArray, List.getElem_cons_succ, List.getElem_cons_zero]
                refine wpAnyH_ready (rs := [17]) (by kernel_rfl) (by simp) ?_
                refine AllReadyH.cons rfl (fun K hK => ?_) (AllReadyH.nil)
                have d1 := (cell_of_row _ _ i _ _ _ Sv.out.d).trans (rowBo_get _ _ i hin)
                have df := frozen_of_row _ _ i _ _ Sv.out.d
                have hv : false = rowM (ats.take (j + 1)) l i := by rw [HVV.out]; rfl
                have HN2 := Lib.hid (Sv.out.set hgg hg2w HRW.out i (false))
                rw [in_next _ i (false) hv] at HN2
                have HI2 := Lib.hid (Iv.out.setI Sv.out.d (rowBo_no _ _) i (.bool (false)))
                have hh := heldF (p := p) HN2.out HI2.out hpl hpN
                rw [hCl.out, hLl.out] at hh
                clear hv
                go_simp
                refine hK.out _ _ hh (fun hH9 => ?_)
                clear hK K hh d1 df
                try simp only [Act.put, List.setIfInBounds_toArray, List.set_cons_zero, List.set_cons_succ, List.getElem_toArray, List.getElem_cons_succ, List.getElem_cons_zero]
                refine wpAnyH_done (by kernel_rfl) ?_ _
                go_wp2_with fail
                go_roundw
                case rel => exact ⟨i + 1, by omega, by go_num, HN2, HI2⟩
                case measure => simp [intOf]; omega
        · obtain rfl : i = N + 1 := by omega
          have HGN : Hid (wr.heap[g2]? = some (.cells (rowBo (rowM (ats.take (j + 1)) l) (N + 1)) 4 (0, 0))) := by
            rw [rowBo_ext (n := N + 1) (F := rowM (ats.take (j + 1)) l) (G := fun p => decide (p < N + 1) && rowM (ats.take (j + 1)) l p) (fun p hp => by rw [decide_eq_true hp, Bool.true_and])]
            exact HS.out.d
          go_wp2_with fail
          go_roundw
          case rel => exact ⟨j + 1, g2, by omega, rfl, by go_num, hg2w, HGN, HI, HS.out.b⟩
          case measure => simp [intOf]; omega
    · obtain rfl : j = ats.length := by omega
      have d1 := (cell_of_row _ _ N _ _ _ HG.out).trans (rowBo_get _ _ N (by omega))
      rw [List.take_length, HRF.out] at d1
      go_wp2_with fail
      go_ret
      exact ⟨rfl, HB.out⟩
end Go.Proofs.YtjnoapbddifcpaaGreatDoor
