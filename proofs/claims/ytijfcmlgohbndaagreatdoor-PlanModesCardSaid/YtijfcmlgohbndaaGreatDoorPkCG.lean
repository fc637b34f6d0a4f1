/-
  Package denote: Odds.
  Plan: Make.
  Filter: Make.
  Filter: the law's Light; the chapter's example (awake).
-/
import Derived.Test.YtijfcmlgohbndaaGreatDoorPkCF
import Derived.Deep.Cut
import Derived.Deep.CutBlock
import Derived.Deep.CutRange
import Derived.Lib.MinMax
import Derived.Test.YtijfcmlgohbndaaGreatDoorPkCB
import Derived.Test.YtijfcmlgohbndaaGreatDoorPkBJ
import Derived.Laws.ResultCell
import Derived.Laws.Rows

namespace Go.Proofs.YtijfcmlgohbndaaGreatDoor
set_option maxRecDepth 100000
set_option linter.unusedSimpArgs false
set_option linter.unusedVariables false
open Go.RowKit Go.Joins Go.Deep
open Go.Lib hiding intOf
theorem info_bar : (Tryz.prog.info? 85).map (fun i => (i.zero, i.size, i.bytes)) = some (some (.agg #[.string ⟨#[]⟩, .int .i64 0]), 2, 24) := by kernel_rfl
theorem parts_bar : ∃ i0, Tryz.prog.info? 85 = some i0 ∧ i0.zero = some (.agg #[.string ⟨#[]⟩, .int .i64 0]) ∧ i0.size = 2 ∧ i0.bytes = 24 := by
  have h := info_bar
  cases hq : Tryz.prog.info? 85 with
  | none => rw [hq] at h; cases h
  | some i =>
    rw [hq] at h
    simp only [Option.map_some, Option.some.injEq, Prod.mk.injEq] at h
    exact ⟨i, rfl, h.1, h.2.1, h.2.2⟩
theorem at_opt (t : List Itm) (k : Nat) (h : k < t.length) : t[k]? = some (atL t k) := by rw [List.getElem?_eq_getElem h, atL_get t k h]
theorem pop_any (t : List Itm) (p : Nat) (hp : p < t.length) : popB (itP t p).s (bars t (abvP t p (itP t (p - 1)).s)) = bars t (abvP t p (itP t p).s) := by
  rcases Nat.eq_zero_or_pos p with h | h
  · subst h; rfl
  · exact pop_next t p hp h
theorem bars_next (t : List Itm) (p : Nat) (hp : p < t.length) : bars t (abvP t (p + 1) (itP t p).s) = bars t (abvP t p (itP t p).s) ++ (if (itP t p).k = 1 then [] else [((itP t p).s, min (plc t p) (minP t (abvP t p (itP t p).s)))]) := by
  have hu : undB (itP t p).s (itP t p).s = true := (und_iff _ _).2 (und_refl _)
  rw [abv_snoc]
  unfold bars
  rw [List.map_append]
  congr 1
  unfold ndP
  by_cases h : (itP t p).k = 1
  · rw [if_pos h, if_neg (by rw [h]; simp)]
    rfl
  · rw [if_neg h, if_pos ⟨by simpa using h, hu⟩, List.map_singleton]
    unfold barP
    rw [abv_snoc, if_pos ⟨by unfold ndP; simpa using h, hu⟩, minP_app _ _ _ hp]
theorem abv_len (t : List Itm) (p : Nat) (x : ByteArray) : (bars t (abvP t p x)).length ≤ p := by
  unfold bars abvP
  rw [List.length_map]
  refine Nat.le_trans (List.length_filter_le _ _) ?_
  rw [List.length_range]
  exact Nat.le_refl _
set_option maxHeartbeats 32000000 in
theorem odds_any (A : Option Addr) (c : Nat) (t : List Itm) (w : World) (hA : Itms w A t) (hl : t.length ≤ 1000) (hs : ∀ x ∈ t, x.s.size ≤ 100000) :
    Calls Tryz.prog 15 #[.slice A t.length c] w fun e w' => e = .returned (.tuple #[.string (oddS t), .bool (oddB t)]) ∧ Below w.heap.size w w' := by
  have hir := info_item
  obtain ⟨i0, hi, hz0, hz1, hz2⟩ := parts_bar
  have HA := Lib.hid (fun w1 (hb : Below w.heap.size w w1) => hA.below hb)
  have HS := Lib.hid hs
  have HBP := Lib.hid (byPath_any A c t w hA hl (fun x hx => by have := hs x hx; omega))
  obtain ⟨R1, hR1⟩ : ∃ R1, R1 = oddS t := ⟨_, rfl⟩
  obtain ⟨R2, hR2⟩ : ∃ R2, R2 = oddB t := ⟨_, rfl⟩
  rw [← hR1, ← hR2]
  have HR1 := Lib.hid hR1
  have HR2 := Lib.hid hR2
  clear hA hs hR1 hR2
  go_enter Tryz.func15, Tryz.ntmps15
  go_wp2_with fail
  refine HBP.out.mono ?_; rintro e w1 ⟨A1, c1, rfl, hP1, hb1⟩
  have HB1 := Lib.hid hb1
  have HP1 := Lib.hid hP1
  clear hP1 hb1 HBP
  go_wp2_with fail
  go_loopw [4, 6, 18] (fun v4 v6 v18 wr => ∃ (p : Nat) (A6 : Option Addr) (c6 : Nat), p ≤ t.length ∧ v4 = .int .i64 (oF t p : Nat) ∧ v6 = .slice A6 (bars t (abvP t p (itP t (p - 1)).s)).length c6 ∧ v18 = .int .i64 (p : Nat) ∧ Hid (wr.ownsRow w1.heap.size 85 2 (.slice A6 (bars t (abvP t p (itP t (p - 1)).s)).length c6) (bars t (abvP t p (itP t (p - 1)).s)).length (cellsB (bars t (abvP t p (itP t (p - 1)).s)))) ∧ Hid (Below w1.heap.size w1 wr)) (fun _ _ v _ => t.length - (intOf v).toNat)
  case atStart => exact ⟨0, none, 0, Nat.zero_le _, rfl, rfl, rfl, World.ownsRow_nil _ _ _ _, Below.refl _ _⟩
  case round =>
    obtain ⟨p, A6, c6, hp, rfl, rfl, rfl, HO, HB⟩ := hrel
    by_cases hpn : p < t.length
    case neg =>
      obtain rfl : p = t.length := by omega
      have hd : decide ((t.length : Int) < (t.length : Int)) = false := decide_eq_false (by omega)
      have HF : Hid (oF t t.length = oddN t) := oF_all t
      rw [HF.out]
      have HLE : Hid (oddN t ≤ t.length) := by show _ ≤ _; rw [← HF.out]; exact oF_le t _
      have HBW := Lib.hid (below_then HB1.out HB.out)
      by_cases hn : oddN t = t.length
      · have hE : ((oddN t : Int) == (t.length : Int)) = true := by rw [beq_iff_eq]; omega
        have e1 : Hid (R1 = ⟨#[]⟩) := by show _ = _; rw [HR1.out]; unfold oddS; rw [if_neg (by omega)]
        have e2 : Hid (R2 = false) := by show _ = _; rw [HR2.out]; unfold oddB; exact decide_eq_false (by omega)
        rw [hn]
        have hE2 : ((t.length : Int) == (t.length : Int)) = true := by rw [beq_iff_eq]
        clear HF hE HO hn HR1 HR2
        go_wp2_with fail
        go_ret2
        rw [e1.out, e2.out]
        exact ⟨rfl, HBW.out⟩
      · have hlt : oddN t < t.length := by have := HLE.out; omega
        have hE : ((oddN t : Int) == (t.length : Int)) = false := by rw [beq_eq_false_iff_ne]; omega
        have e1 : Hid (R1 = (atL t (oddN t)).s) := by show _ = _; rw [HR1.out]; unfold oddS; rw [if_pos hlt]
        have e2 : Hid (R2 = true) := by show _ = _; rw [HR2.out]; unfold oddB; exact decide_eq_true hlt
        obtain ⟨b, off, rfl, hb, hcc⟩ := (HA.out wr HBW.out) (by omega)
        have c0 := (hcc (oddN t) (atL t (oddN t)) (at_opt t _ hlt)).1
        have hI : (oddN t : Int) < (t.length : Int) := by omega
        generalize (atL t (oddN t)).s = R at *
        generalize oddN t = N at *
        clear hcc HF HO HR1 HR2
        go_wp2_with fail
        go_ret2
        rw [e1.out, e2.out]
        exact ⟨rfl, HBW.out⟩
    have hd : decide ((p : Int) < (t.length : Int)) = true := decide_eq_true (by omega)
    have HPOP := Lib.hid (pop_any t p hpn)
    have HNXT := Lib.hid (bars_next t p hpn)
    have HSUB : Hid (p + 1 - 1 = p) := Nat.add_sub_cancel p 1
    have HBL := Lib.hid (abv_len t p (itP t (p - 1)).s)
    have HZL := Lib.hid (abv_len t p (itP t p).s)
    have HOF : Hid (oF t (p + 1) = min (if 0 < p ∧ (itP t (p - 1)).s = (itP t p).s then min (oF t p) (plc t p) else oF t p) (max (plc t p) (minP t (abvP t p (itP t p).s)))) := by show _ = _; rw [oF]
    have HFN : Hid (oF t p ≤ t.length) := oF_le t p
    have HPL : Hid (plc t p < t.length) := plc_lt t p hpn
    have HBW := Lib.hid (below_then HB1.out HB.out)
    obtain ⟨g1, rfl, hg1, hpc⟩ := (HP1.out.below HB.out) (by rw [idx_len]; omega)
    have cp : wr.cell? ⟨g1, p, none⟩ = some (.int .i64 (plc t p : Nat)) := by
      obtain ⟨h2, e⟩ := plc_get t p hpn
      exact hpc p _ (by rw [List.getElem?_eq_getElem h2, e])
    obtain ⟨b, off, rfl, hb, hcc⟩ := (HA.out wr HBW.out) (by omega)
    have hX := hcc (plc t p) (itP t p) (at_opt t _ HPL.out)
    obtain ⟨d0, d1, d2, d3, d4, d5, d6, d7⟩ := (show _ ∧ _ from hX)
    have hPI : (plc t p : Int) < (t.length : Int) := by have := HPL.out; omega
    obtain ⟨W2, hW2⟩ : ∃ W2, W2 = wr.alloc (.cells (itP t p).cells 47) := ⟨_, rfl⟩
    have hb2 : Below wr.heap.size wr W2 := by rw [hW2]; exact below_al wr _
    have HX2 : Hid (W2.heap[wr.heap.size]? = some (.cells (itP t p).cells 47 (0, 0))) := by show _ = _; rw [hW2]; exact heap_alloc_new wr _
    have HO2 := Lib.hid (own_belowI HO.out hb2)
    have HB2 := Lib.hid (below_then HB.out hb2)
    obtain ⟨E, hE⟩ : ∃ E : Bool, E = (decide (0 < p) && ((itP t (p - 1)).s.toList == (itP t p).s.toList)) := ⟨_, rfl⟩
    have HE := Lib.hid hE
    have HQ : Hid (∀ q, p = q + 1 → plc t q < t.length ∧ W2.cell? ⟨g1, q, none⟩ = some (.int .i64 (plc t q : Nat)) ∧ W2.cell? ⟨b, off + plc t q * 8, none⟩ = some (.string (itP t q).s)) := fun q hq => by
      have hq1 : q < t.length := by omega
      have hq2 := plc_lt t q hq1
      obtain ⟨h2, e⟩ := plc_get t q hq1
      refine ⟨hq2, (hb2.cell (p := ⟨g1, q, none⟩) hg1).trans (hpc q _ (by rw [List.getElem?_eq_getElem h2, e])), (hb2.cell (p := ⟨b, off + plc t q * 8, none⟩) hb).trans ?_⟩
      exact (hcc (plc t q) (itP t q) (at_opt t _ hq2)).1
    have HPE : Hid (∀ q, p = q + 1 → E = ((itP t q).s.toList == (itP t p).s.toList)) := fun q hq => by
      rw [HE.out, decide_eq_true (by omega : 0 < p), Bool.true_and]
      subst hq
      rfl
    have HE0 : Hid (p = 0 → E = false) := fun h => by rw [HE.out, decide_eq_false (by omega : ¬ 0 < p)]; rfl
    have HEE : Hid ((if 0 < p ∧ (itP t (p - 1)).s = (itP t p).s then min (oF t p) (plc t p) else oF t p) = (if E = true then min (oF t p) (plc t p) else oF t p)) := by
      show _ = _
      by_cases h : 0 < p ∧ (itP t (p - 1)).s = (itP t p).s
      · rw [if_pos h, if_pos (by rw [HE.out, decide_eq_true h.1, h.2]; simp)]
      · rw [if_neg h, if_neg]
        rw [HE.out, Bool.and_eq_true]
        rintro ⟨h1, h2⟩
        exact h ⟨of_decide_eq_true h1, toList_inj' (eq_of_beq h2)⟩
    have HZ : Hid (abvP t p (itP t p).s = [] ∨ ∃ Z0 q, abvP t p (itP t p).s = Z0 ++ [q] ∧ (barP t q).2 = minP t (abvP t p (itP t p).s)) := by
      show _ ∨ _
      rcases List.eq_nil_or_concat (abvP t p (itP t p).s) with h | ⟨Z0, q, h⟩
      · exact .inl h
      · have h : abvP t p (itP t p).s = Z0 ++ [q] := by rw [h]; simp
        exact .inr ⟨Z0, q, h, bar_last (Nat.le_of_lt hpn) h⟩
    rw [HEE.out] at HOF
    clear hE hX hcc hpc hb2 HO HB HEE HE
    generalize hgx : wr.heap.size = gx at *
    have HITP : Hid ((itP t p).cells = #[.string (itP t p).s, .int .i64 (itP t p).k, .int .u32 (itP t p).m, .int .u32 (itP t p).u, .int .u32 (itP t p).g, .int .i64 (itP t p).t, .int .i64 (itP t p).a, .string (itP t p).d]) := rfl
    rw [HITP.out] at hW2
    have HW2 := Lib.hid hW2
    clear hW2
    change wr.cell? ⟨b, off + plc t p * 8, none⟩ = some (.string (itP t p).s) at d0
    change wr.cell? ⟨b, off + plc t p * 8 + 1, none⟩ = some (.int .i64 (itP t p).k) at d1
    change wr.cell? ⟨b, off + plc t p * 8 + 2, none⟩ = some (.int .u32 (itP t p).m) at d2
    change wr.cell? ⟨b, off + plc t p * 8 + 3, none⟩ = some (.int .u32 (itP t p).u) at d3
    change wr.cell? ⟨b, off + plc t p * 8 + 4, none⟩ = some (.int .u32 (itP t p).g) at d4
    change wr.cell? ⟨b, off + plc t p * 8 + 5, none⟩ = some (.int .i64 (itP t p).t) at d5
    change wr.cell? ⟨b, off + plc t p * 8 + 6, none⟩ = some (.int .i64 (itP t p).a) at d6
    change wr.cell? ⟨b, off + plc t p * 8 + 7, none⟩ = some (.string (itP t p).d) at d7
    generalize hXX : itP t p = X at *
    generalize hPP : plc t p = P at *
    generalize hFF : oF t p = F at *
    generalize bars t (abvP t p (itP t (p - 1)).s) = Y at *
    have HK : Hid (itP t p = X) := hXX
    clear hXX hPP hFF
    go_upto_region 8 with fail
    rw [← HW2.out]
    clear HW2 d0 d1 d2 d3 d4 d5 d6 d7 cp
    obtain ⟨x0, _⟩ := cells_of_box HX2.out
    go_cut [42] from 27 to 41 (fun v wx => v = .bool E ∧ Hid (Below W2.heap.size W2 wx))
    case first =>
      rcases Nat.eq_zero_or_pos p with h0 | h0
      · have hE0 := HE0.out h0
        subst hE0
        have hp0 : ¬ (0 : Int) < (p : Int) := by omega
        have hp0' : decide ((0 : Int) < (p : Int)) = false := decide_eq_false hp0
        have hp0n : ¬ 0 < p := by omega
        have hp0m : decide (0 < p) = false := decide_eq_false hp0n
        clear h0
        go_wp2_with fail
        go_quiet (fail)
        go_wp2_with fail
        go_meet
        exact ⟨rfl, below_drewN (Below.refl _ _) _⟩
      · obtain ⟨q, rfl⟩ : ∃ q, p = q + 1 := ⟨p - 1, by omega⟩
        obtain ⟨hq1, k1, k2⟩ := HQ.out q rfl
        have hEE := HPE.out q rfl
        have hp0 : (0 : Int) < (q : Int) + 1 := by omega
        have hq2 : IntKind.i64.wrap ((q : Int) + 1 - 1) = (q : Int) := by rw [IntKind.wrap_i64]; omega
        have hq2' : IntKind.i64.wrap (q : Int) = (q : Int) := by rw [IntKind.wrap_i64]; omega
        have hq3 : (q : Int) < (t.length : Int) := by omega
        have hq4 : (plc t q : Int) < (t.length : Int) := by omega
        generalize plc t q = Q at *
        generalize (itP t q).s = s0 at *
        have HEV := Lib.hid hEE.symm
        clear hEE
        go_wp2_with fail
        go_quiet (fail)
        go_wp2_with fail
        go_meet
        exact ⟨by rw [← HEV.out], below_drewN (Below.refl _ _) _⟩
    case rest =>
      obtain ⟨rfl, HWC⟩ := hcut
      have HXC : Hid (wc.heap[gx]? = some (.cells X.cells 47 (0, 0))) := (HWC.out.block _ (lt_of_block HX2.out)).trans HX2.out
      have HOC := Lib.hid (own_belowI HO2.out HWC.out)
      have HBC := Lib.hid (below_then HB2.out HWC.out)
      clear HX2 HO2 HB2 HWC HQ HPE HE0 x0
      obtain ⟨F1, hF1⟩ : ∃ F1 : Nat, F1 = (if E = true then min F P else F) := ⟨_, rfl⟩
      have HF1 : Hid (∀ b : Bool, E = b → F1 = (if b = true then min F P else F)) := fun b h => by rw [hF1, h]
      have hF1n : F1 ≤ t.length := by rw [hF1]; have := HFN.out; split <;> omega
      rw [← hF1] at HOF
      clear hF1
      go_upto_if 42 with fail
      go_cut [4] from 43 to 45 (fun v wx => v = .int .i64 (F1 : Nat) ∧ wx = wc)
      case first =>
        cases E with
        | true =>
          have hm : min (F : Int) (P : Int) = (F1 : Int) := by have := HF1.out true rfl; rw [if_pos rfl] at this; omega
          go_wp2_with fail
          go_meet
          exact ⟨rfl, rfl⟩
        | false =>
          have hm : F1 = F := by have := HF1.out false rfl; rw [if_neg (by decide)] at this; exact this
          subst hm
          go_wp2_with fail
          go_meet
          exact ⟨rfl, rfl⟩
      case rest =>
        obtain ⟨rfl, hwc⟩ := hcut
        have hwc := hwc.symm
        subst hwc
        clear HF1
        have HBF : Hid ((wr : World) = wr) := rfl
        obtain ⟨x0, x1, _⟩ := cells_of_box HXC.out
        have HOV := Lib.hid (dover_any w1.heap.size A6 c6 Y X.s wc (by have := HBL.out; omega) HOC.out)
        rw [HPOP.out] at HOV
        have HZZ : Hid (abvP t p X.s = [] ∧ minP t (abvP t p X.s) = t.length ∨ ∃ Z0 q, abvP t p X.s = Z0 ++ [q] ∧ (barP t q).2 = minP t (abvP t p X.s)) := by
          rcases HZ.out with h | h
          · exact .inl ⟨h, by rw [h]; rfl⟩
          · exact .inr h
        obtain ⟨T, hT⟩ : ∃ T, T = minP t (abvP t p X.s) := ⟨_, rfl⟩
        rw [← hT] at HOF HNXT HZZ
        obtain ⟨Lb, hLb⟩ : ∃ Lb, Lb = bars t (abvP t p X.s) := ⟨_, rfl⟩
        have HLB := Lib.hid hLb
        rw [← hLb] at HOV HNXT HZL
        obtain ⟨F2, hF2⟩ : ∃ F2 : Nat, F2 = min F1 (max P T) := ⟨_, rfl⟩
        obtain ⟨S2, hS2⟩ : ∃ S2 : Nat, S2 = min P T := ⟨_, rfl⟩
        rw [← hF2] at HOF
        rw [← hS2] at HNXT
        have HF2 := Lib.hid hF2
        have HS2 := Lib.hid hS2
        clear hT hLb HPOP HZ hF2 hS2 HOC HBF
        go_wp2_with fail
        refine HOV.out.mono ?_; rintro e w7 ⟨rfl, hO7, hw7⟩
        rw [hw7] at hO7 ⊢
        clear hw7 w7 HOV
        have HO7 := Lib.hid hO7
        clear hO7
        obtain ⟨G, hG⟩ : ∃ G : Bool, decide (0 < Lb.length) = G := ⟨_, rfl⟩
        have hG2 : decide ((0 : Int) < (Lb.length : Int)) = G := by rw [← hG]; exact decide_eq_decide.2 (by omega)
        go_upto_if 53 with fail
        go_cut [4, 10, 11] from 54 to 68 (fun v4 v10 v11 wx => v4 = .int .i64 (F2 : Nat) ∧ v10 = .int .i64 (S2 : Nat) ∧ wx = wc)
        case first =>
          rcases HZZ.out with ⟨h1, h2⟩ | ⟨Z0, q, h1, h2⟩
          · have h0 : Lb.length = 0 := by rw [HLB.out, h1]; rfl
            have hPn := HPL.out
            obtain rfl : F2 = F1 := by have := HF2.out; omega
            obtain rfl : S2 = P := by have := HS2.out; omega
            obtain rfl : G = false := by rw [← hG]; exact decide_eq_false (by omega)
            clear h0 h1 h2 hPn
            go_wp2_with fail
            go_meet
            exact ⟨rfl, rfl, rfl⟩
          · obtain ⟨m, hm⟩ : ∃ m, Lb.length = m + 1 := ⟨Z0.length, by rw [HLB.out, h1]; simp [bars]⟩
            have hbar : Lb[m]? = some (barP t q) := by
              have hmz : m = Z0.length := by rw [HLB.out, h1] at hm; simp [bars] at hm; omega
              rw [HLB.out, h1, hmz]
              simp [bars]
            obtain ⟨g6, rfl⟩ : ∃ g6, A6 = some ⟨g6, 0, none⟩ := by
              rcases HO7.out.2 with ⟨he, h0⟩ | ⟨g, cp, cur, he, _⟩
              · omega
              · injection he with e1; exact ⟨g, e1⟩
            have k1 : wc.cell? ⟨g6, m * 2 + 1, none⟩ = some (.int .i64 (T : Nat)) := by
              rw [HO7.out.cellAt (m * 2 + 1) (by omega), (cellsB_get Lb m _ hbar).2, h2]
            have HM := Lib.hid hm
            obtain rfl : G = true := by rw [← hG]; exact decide_eq_true (by omega)
            have hg2 : (0 : Int) < (Lb.length : Int) := by omega
            have hw1 : IntKind.i64.wrap ((Lb.length : Int) - 1) = (m : Int) := by rw [IntKind.wrap_i64]; have := HZL.out; omega
            have hw2 : (m : Int) < (Lb.length : Int) := by omega
            obtain ⟨M, hM⟩ : ∃ M : Nat, M = max P T := ⟨_, rfl⟩
            have hmx : max (P : Int) (T : Int) = (M : Int) := by omega
            have hmn : min (F1 : Int) (M : Int) = (F2 : Int) := by have := HF2.out; omega
            have hms : min (P : Int) (T : Int) = (S2 : Int) := by have := HS2.out; omega
            clear h1 h2 hm hbar hM
            go_wp2_with fail
            go_meet
            exact ⟨rfl, rfl, rfl⟩
        case rest =>
          obtain ⟨rfl, rfl, hwd⟩ := hcut
          have hwd := hwd.symm
          subst hwd
          have HRF : Hid (F2 = oF t (p + 1)) := HOF.out.symm
          rw [← HK.out] at HNXT
          clear HZZ HLB HF2 HS2 HOF HBL
          by_cases hk : X.k = 1
          · have HNE : Hid (bars t (abvP t (p + 1) (itP t p).s) = Lb) := by show _ = _; rw [HNXT.out, if_pos (by rw [HK.out]; exact hk), List.append_nil]
            rw [hk] at x1
            clear HNXT hk x0 HXC
            go_wp2_with fail
            go_roundw
            case rel =>
              refine ⟨p + 1, A6, c6, by omega, by rw [HRF.out], ?_, by go_num, ?_, HBC⟩
              · rw [HSUB.out, HNE.out]
              · rw [HSUB.out, HNE.out]; exact HO7
            case measure => simp [intOf]; omega
          · have hkn : (X.k != 1) = true := bne_iff_ne.2 hk
            have HNE : Hid (bars t (abvP t (p + 1) (itP t p).s) = Lb ++ [(X.s, S2)]) := by show _ = _; rw [HNXT.out, if_neg (by rw [HK.out]; exact hk), HK.out]
            have HO8 := Lib.hid (HO7.out.alloc (.cells #[.string X.s, .int .i64 (S2 : Nat)] 85))
            have HB8 := Lib.hid (HBC.out.alloc HBC.out.size (.cells #[.string X.s, .int .i64 (S2 : Nat)] 85))
            have HQ8 : Hid (∀ j u, [Value.string X.s, Value.int .i64 (S2 : Nat)][j]? = some u → (wc.alloc (.cells #[.string X.s, .int .i64 (S2 : Nat)] 85)).cell? ((⟨wc.heap.size, 0, none⟩ : Addr).add j) = some u) := fun j u hj => by
              rw [Addr.add_lit, Nat.zero_add, cell_of_row _ _ j _ _ _ (heap_alloc_new wc _)]
              simpa using hj
            have HZB : Hid (Lb.length ≤ 1000) := by show _ ≤ _; have := HZL.out; omega
            clear HNXT hk
            go_wp2_with (at_builtin; refine wpList_append_own _ rfl _ _ 82 rfl w1.heap.size 85 i0 (.agg #[.string ⟨#[]⟩, .int .i64 0]) 2 24 Tryz.underlying82 hi hz0 hz1 hz2 rfl (by decide) _ _ _ rfl HO8.out ⟨wc.heap.size, 0, none⟩ 1 1 [Value.string X.s, Value.int .i64 (S2 : Nat)] rfl ?qc1 ?qc2 ?qc3 ?qc4 ?qc5 ?qc6 ?_)
            case qc3 => exact ⟨rfl, rfl⟩
            case qc4 => have := HZB.out; unfold maxLen; omega
            case qc5 => have := HZB.out; omega
            case qc6 => have := HBC.out.size; omega
            intro v9 w9 hown9 hgrow9 _
            have HB9 : Hid (Below w1.heap.size w1 w9) := HB8.out.grown hgrow9 HB8.out.size (fun q hq => (HO8.out.lt q hq).1)
            have hown9 : w9.ownsRow w1.heap.size 85 2 v9 (Lb ++ [(X.s, S2)]).length (cellsB (Lb ++ [(X.s, S2)])) := by
              rw [List.length_append, cellsB_app]
              exact hown9
            obtain ⟨A9, c9, rfl⟩ : ∃ A9 c9, v9 = .slice A9 (Lb ++ [(X.s, S2)]).length c9 := by
              rcases hown9.2 with ⟨he, h0⟩ | ⟨g, cp, cur, he, _⟩
              · exact ⟨none, 0, by rw [he, h0]⟩
              · exact ⟨_, _, he⟩
            have HO9 := Lib.hid hown9
            clear hown9 hgrow9 HO8 HQ8 HB8
            go_wp2_with fail
            go_roundw
            case rel =>
              refine ⟨p + 1, A9, c9, by omega, by rw [HRF.out], ?_, by go_num, ?_, HB9⟩
              · rw [HSUB.out, HNE.out]
              · rw [HSUB.out, HNE.out]; exact HO9
            case measure => simp [intOf]; omega
end Go.Proofs.YtijfcmlgohbndaaGreatDoor

namespace Go.Proofs.YtijfcmlgohbndaaGreatDoor
set_option maxRecDepth 100000
set_option linter.unusedSimpArgs false
set_option linter.unusedVariables false
open Go.RowKit Go.Joins Go.Deep
open Go.Lib hiding intOf
/-- An entry as an item, without bytes. -/
noncomputable def pkI (E : Ent) : Itm := ⟨(metV E).p, (metV E).k, (metV E).m, (metV E).u, (metV E).g, (metV E).t, (metV E).a, ⟨#[]⟩⟩
noncomputable def pkL (l : List Ent) : List Itm := l.map pkI
theorem pkL_len (l : List Ent) : (pkL l).length = l.length := by simp [pkL]
theorem pkL_snoc (l : List Ent) (E : Ent) : pkL (l ++ [E]) = pkL l ++ [pkI E] := by simp [pkL]
theorem actL_len (mode : Int) (ins outs : List (List Atm)) (t : List Itm) (l : List Ent) : (actL mode ins outs t l).length ≤ l.length + t.length := by
  unfold actL
  split
  · rw [delP_len]; omega
  · split
    · rw [ofL_len]; omega
    · rw [List.length_append, ofL_len]
      have := addK_len ins outs (pthL l) t t.length
      omega
theorem atQ_mem {l : List Itm} {p : Int} {x : Itm} (h : x ∈ atQ l p) : x ∈ l := by
  unfold atQ at h
  split at h
  · rename_i hp
    cases hq : l[p.toNat]? with
    | none => rw [hq] at h; cases h
    | some y =>
      rw [hq] at h
      have : x = y := by simpa using h
      subst this
      exact List.mem_of_getElem? hq
  · cases h
theorem resL_mem {E T : List Itm} {l : List Act3} {x : Itm} (h : x ∈ resL E T l) : x ∈ E ∨ x ∈ T := by
  unfold resL at h
  obtain ⟨a, _, h⟩ := List.mem_flatMap.1 h
  unfold actR at h
  split at h
  · exact .inl (atQ_mem h)
  · split at h
    · exact .inr (atQ_mem h)
    · cases h
/-- What Make answers. -/
def MkR (w : World) (mode : Int) (ins outs : List (List Atm)) (t : List Itm) (l : List Ent) (e : Ending) (w' : World) : Prop :=
  (∃ z, z ≠ 0 ∧ e = .returned (.tuple #[.slice none 0 0, .int .i64 z]) ∧ Below w.heap.size w w') ∨
  (∃ v, e = .returned (.tuple #[v, .int .i64 0]) ∧ RowQ w' w.heap.size v (actL mode ins outs t l) ∧ Below w.heap.size w w')
set_option maxHeartbeats 32000000 in
theorem planMake_any (mode : Int) (hm1 : 1 ≤ mode) (hm4 : mode ≤ 4) (A AT : Option Addr) (c cT : Nat) (l : List Ent) (t : List Itm) (V : Value) (ins outs : List (List Atm)) (w : World) (hR : Ents w A l) (hT : Itms w AT t) (hl : l.length ≤ 400) (ht : t.length ≤ 400) (hs : ∀ x ∈ t, x.s.size ≤ 100000 ∧ x.d.size ≤ 100000) (hL : LightL l) (hU : Upper w) (hE : Env w) (hF : FilK w V ins outs) :
    Calls Tryz.prog 9 #[.int .i64 mode, .slice A l.length c, .slice AT t.length cT, V] w (MkR w mode ins outs t l) := by
  obtain ⟨i0, hi, hz0, hz1, hz2⟩ := partsI
  have hif := info_fil
  have hinM := info_nodeM
  have hFK := hF
  obtain ⟨⟨FA, fa, FB, fb, rfl, _⟩, _, _, _⟩ := hFK
  obtain ⟨w1, hw1⟩ : ∃ w1, w1 = w.alloc (.cells #[.slice FA ins.length fa, .slice FB outs.length fb] 31) := ⟨_, rfl⟩
  have hb1 : Below w.heap.size w w1 := by rw [hw1]; exact below_alP w _
  have HX1 : Hid (w1.heap[w.heap.size]? = some (.cells #[.slice FA ins.length fa, .slice FB outs.length fb] 31 (0, 0))) := by show _ = _; rw [hw1]; exact heap_alloc_new w _
  have HAC := Lib.hid (actions_any mode A AT c cT l t _ ins outs w1 (hR.below hb1) (hT.below hb1) (by omega) (by omega) hs hL (hU.below hb1) (hE.below hb1) (hF.below hb1))
  have HR := Lib.hid (fun w2 (hb : Below w.heap.size w w2) => hR.below hb)
  have HT := Lib.hid (fun w2 (hb : Below w.heap.size w w2) => hT.below hb)
  have HME := Lib.hid (fun E (hm : E ∈ l) w1 (hb : Below w.heap.size w w1) => meta_any E (hL E hm).1 (hL E hm).2 w1 (hU.below hb) (hE.below hb))
  have HS := Lib.hid hs
  have HB1 := Lib.hid hb1
  have HW1 := Lib.hid hw1
  have HG1 : Hid (w.heap.size ≤ w1.heap.size) := hb1.size
  clear hR hT hL hU hE hF hs hw1 hb1
  generalize ins.length = ni at *
  generalize outs.length = no at *
  have d1 : decide (mode < 1) = false := decide_eq_false (by omega)
  have d4 : decide (4 < mode) = false := decide_eq_false (by omega)
  go_enter Tryz.func9, Tryz.ntmps9
  go_upto_region 1 with fail
  rw [← HW1.out]
  clear HW1
  go_wp2_with (refine wpList_load_row rfl 31 (.tmp 7) rfl w.heap.size rfl 31 _ (0, 0) _ HX1.out Tryz.underlying31 rfl info_fil ?_)
  refine HAC.out.mono ?_; rintro e w2 hout
  clear HAC HX1
  rcases hout with ⟨v, z, hz, rfl, hb2⟩ | ⟨v, rfl, hr, hb2⟩
  · have bz : (z != 0) = true := bne_iff_ne.2 hz
    have HB2 := Lib.hid (below_thenE HB1.out hb2)
    clear hb2
    go_wp2_with fail
    go_ret2
    exact .inl ⟨z, hz, rfl, HB2.out⟩
  have HB2 := Lib.hid (below_thenE HB1.out hb2)
  have HR2 : Hid (w2.ownsRow w.heap.size 41 3 v (actL mode ins outs t l).length (cellsQ (actL mode ins outs t l))) := own_lowerP hr HG1.out
  have HAL : Hid ((actL mode ins outs t l).length ≤ 1000) := Nat.le_trans (actL_len _ _ _ _ _) (by omega)
  obtain ⟨AL, hAL⟩ : ∃ AL, AL = actL mode ins outs t l := ⟨_, rfl⟩
  rw [← hAL] at HR2 HAL
  have HAE := Lib.hid hAL
  clear hb2 hr HB1 HG1 hAL
  go_wp2_with fail
  go_loopw [12, 39] (fun v12 v39 wr => ∃ (k : Nat) (V : Value), k ≤ l.length ∧ V = v12 ∧ v39 = .int .i64 (k : Nat) ∧ Hid (wr.ownsRow w2.heap.size 47 8 V (pkL (l.take k)).length (cellsI (pkL (l.take k)))) ∧ Hid (Below w2.heap.size w2 wr)) (fun _ v _ => l.length - (intOf v).toNat)
  case atStart => exact ⟨0, _, Nat.zero_le _, rfl, rfl, World.ownsRow_nil _ _ _ _, Below.refl _ _⟩
  case round =>
    obtain ⟨k, V, hk, rfl, rfl, HO, HB⟩ := hrel
    by_cases hkn : k < l.length
    · have hd : decide ((k : Int) < (l.length : Int)) = true := decide_eq_true (by omega)
      have HBW := Lib.hid (below_thenE HB2.out HB.out)
      obtain ⟨b, off, rfl, hb, hcc⟩ := (HR.out wr HBW.out) (by omega)
      have HRG := Lib.hid (hcc k l[k] (List.getElem?_eq_getElem hkn))
      have HMEM : Hid (l[k] ∈ l) := List.getElem_mem hkn
      have HPK : Hid (pkL (l.take (k + 1)) = pkL (l.take k) ++ [pkI l[k]]) := by show _ = _; rw [List.take_succ_eq_append_getElem hkn, pkL_snoc]
      have HLN : Hid ((pkL (l.take k)).length ≤ k) := by show _ ≤ _; rw [pkL_len, List.length_take]; omega
      have HX2 := Lib.hid (boxE_row wr l[k])
      have hb01 := boxE_below l[k].cells (Below.refl wr.heap.size wr) (Nat.le_refl _)
      have HB3 := Lib.hid (HB.out.trans (hb01.mono HB.out.size))
      have HO3 := Lib.hid (own_keepP HO.out hb01)
      have HLI := Lib.hid (HME.out l[k] HMEM.out _ (below_thenE HB2.out HB3.out))
      generalize l[k] = E at *
      have H17 := Lib.hid (ent_size E)
      have HON := Lib.hid (ent_one E)
      have HIE : Hid ((Tryz.prog.info? 51).map (·.size) = some E.cellsL.length) := info_entE
      rw [← ent_cells] at H17 HON HX2 HB3 HO3 HLI
      generalize E.cellsL = EL at *
      clear hcc hb01 HO HB
      go_upto_region 10 with (first | (refine wpList_load_mid rfl 51 (.tmp 41) rfl b (off + k * 17) rfl EL _ HRG.out Tryz.underlying51 rfl HIE.out ?_) | (refine wpList_store_ent EL.toArray rfl (.tmp 14) (.tmp 42) rfl rfl rfl H17.out HON.out ?_))
      generalize wr.heap.size = gx at *
      generalize boxE wr EL.toArray = W1 at *
      have HIA : Hid ((Tryz.prog.info? 51).map (·.size) = some EL.toArray.size) := by show _ = _; rw [HIE.out, List.size_toArray]
      clear HRG H17 HON HIE
      go_wp2_with (refine wpList_load_row rfl 51 (.tmp 14) rfl gx rfl 51 _ (0, 0) _ HX2.out Tryz.underlying51 rfl HIA.out ?_)
      refine HLI.out.mono ?_; rintro e w3 ⟨rfl, hb3⟩
      unfold MeT.val
      have HB4 := Lib.hid (HB3.out.trans (hb3.mono HB3.out.size))
      have HO4 := Lib.hid (own_keepP HO3.out hb3)
      unfold pkI at HPK
      clear hb3 HLI HX2 HIA HO3 HB3
      generalize metV E = M at *
      obtain ⟨mp, mk, mm, mu, mg, mt, ma, mz⟩ := M
      dsimp only at HPK ⊢
      obtain ⟨w4, hw4⟩ : ∃ w4, w4 = w3.alloc (.cells #[.int .i64 mk, .int .u32 mm, .int .u32 mu, .int .u32 mg, .int .i64 mt, .int .i64 ma, .string ⟨#[]⟩] 45) := ⟨_, rfl⟩
      have hb4 : Below w3.heap.size w3 w4 := by rw [hw4]; exact below_alP w3 _
      have HN4 : Hid (w4.heap[w3.heap.size]? = some (.cells #[.int .i64 mk, .int .u32 mm, .int .u32 mu, .int .u32 mg, .int .i64 mt, .int .i64 ma, .string ⟨#[]⟩] 45 (0, 0))) := by show _ = _; rw [hw4]; exact heap_alloc_new w3 _
      have HB5 := Lib.hid (HB4.out.trans (hb4.mono HB4.out.size))
      have HO5 := Lib.hid (own_keepP HO4.out hb4)
      have HW4 := Lib.hid hw4
      have hba := below_alP w4 (.cells #[.string mp, .int .i64 mk, .int .u32 mm, .int .u32 mu, .int .u32 mg, .int .i64 mt, .int .i64 ma, .string ⟨#[]⟩] 47)
      have HNW := Lib.hid (item_news w4 ⟨mp, mk, mm, mu, mg, mt, ma, ⟨#[]⟩⟩)
      have HOO := Lib.hid (item_ones ⟨mp, mk, mm, mu, mg, mt, ma, ⟨#[]⟩⟩)
      simp only [Itm.cells, Itm.cellsL] at HNW HOO
      have HO7 := Lib.hid (own_keepP HO5.out hba)
      have HB7 := Lib.hid (HB5.out.trans (hba.mono HB5.out.size))
      have HG7 : Hid (w2.heap.size ≤ (w4.alloc (.cells #[.string mp, .int .i64 mk, .int .u32 mm, .int .u32 mu, .int .u32 mg, .int .i64 mt, .int .i64 ma, .string ⟨#[]⟩] 47)).heap.size) := HB7.out.size
      clear hw4 hb4 HB4 HO4 hba HO5 HB5
      generalize pkL (l.take k) = PL at *
      go_upto_region 11 with fail
      rw [← HW4.out]
      clear HW4
      generalize w3.heap.size = gn at *
      go_wp2_with (first | (refine wpList_load_row rfl 45 (.tmp 16) rfl gn rfl 45 _ (0, 0) _ HN4.out Tryz.underlying45 rfl info_nodeM ?_) | (at_builtin; refine wpList_append_own_at _ rfl (.tmp 49) (.tmp 53) _ rfl w2.heap.size 47 i0 (.agg #[.string ⟨#[]⟩, .int .i64 0, .int .u32 0, .int .u32 0, .int .u32 0, .int .i64 0, .int .i64 0, .string ⟨#[]⟩]) 8 72 Tryz.underlying23 hi hz0 hz1 hz2 rfl (by decide) V PL.length (cellsI PL) rfl HO7.out ⟨w4.heap.size, 0, none⟩ 1 1 [.string mp, .int .i64 mk, .int .u32 mm, .int .u32 mu, .int .u32 mg, .int .i64 mt, .int .i64 ma, .string ⟨#[]⟩] rfl rfl ?c1 ?c2 ?c3 ?c4 ?c5 ?_))
      case c1 => exact HNW.out
      case c2 => exact HOO.out
      case c3 => have := HLN.out; unfold maxLen; omega
      case c4 => have := HLN.out; omega
      case c5 => exact HG7.out
      intro v8 w8 hown hgrow _ hfr
      have HO8 : Hid (w8.ownsRow w2.heap.size 47 8 v8 (pkL (l.take (k + 1))).length (cellsI (pkL (l.take (k + 1))))) := by
        show World.ownsRow _ _ _ _ _ _ _
        rw [HPK.out, List.length_append, cellsI_app]
        exact hown
      have HB8 : Hid (Below w2.heap.size w2 w8) := HB7.out.grown hgrow HB7.out.size (fun z hz => by have := (HO7.out.lt z hz).1; omega)
      clear hown hgrow hfr HO7 HB7 HG7 HNW HOO HPK
      go_wp2_with fail
      go_roundw
      case rel => exact ⟨k + 1, _, by omega, rfl, by go_num, HO8, HB8⟩
      case measure => simp [intOf]; omega
    · obtain rfl : k = l.length := by omega
      have hd : decide ((l.length : Int) < (l.length : Int)) = false := decide_eq_false (by omega)
      have HO2 := HO.out
      rw [List.take_length] at HO2
      have HR3 := Lib.hid (own_keepP HR2.out HB.out)
      have HBW := Lib.hid (below_thenE HB2.out HB.out)
      obtain ⟨Av, cv, rfl⟩ : ∃ Av cv, v = .slice Av AL.length cv := by
        rcases rowQ_forms (HR3.out : RowQ _ _ _ _) with ⟨h, h0⟩ | ⟨g, cap, h, _⟩
        · exact ⟨none, 0, by rw [h, h0]; rfl⟩
        · exact ⟨_, _, h⟩
      obtain ⟨Ap, cp, rfl⟩ := row_sliceI HO2
      have hac := acts_of_own HR3.out
      have hit := itms_of_own HO2
      have HRS := Lib.hid (result_any Av Ap AT cv cp cT AL (pkL l) t wr HAL.out (by rw [pkL_len]; omega) (by omega) hac hit (HT.out wr HBW.out))
      have HRL : Hid ((resL (pkL l) t AL).length ≤ 1000) := Nat.le_trans (resL_len _ _ _) HAL.out
      have HRM : Hid (∀ x ∈ resL (pkL l) t AL, x.s.size ≤ 100000) := fun x hx => by
        rcases resL_mem hx with h | h
        · obtain ⟨E, _, rfl⟩ := List.mem_map.1 h
          have := metV_sz E
          show (metV E).p.size ≤ _
          omega
        · exact (HS.out x h).1
      rw [pkL_len] at HRS
      rw [pkL_len]
      generalize resL (pkL l) t AL = RL at *
      clear hac hit HO HO2 HR2
      go_wp2_with fail
      refine HRS.out.mono ?_; rintro e w3 ⟨A5, c5, rfl, hi5, hb3⟩
      have HOD := Lib.hid (odds_any A5 c5 RL w3 hi5 HRL.out HRM.out)
      have HB3 := Lib.hid (below_thenE HBW.out hb3)
      have HR4 := Lib.hid (own_keepP HR3.out hb3)
      clear hi5 hb3 HRS HR3 HBW
      go_wp2_with fail
      refine HOD.out.mono ?_; rintro e w4 ⟨rfl, hb4⟩
      have HB4 := Lib.hid (below_thenE HB3.out hb4)
      have HR5 := Lib.hid (own_keepP HR4.out hb4)
      clear hb4 HOD HR4 HB3
      generalize oddB RL = OB at *
      generalize oddS RL = OS at *
      cases OB with
      | true =>
        go_wp2_with fail
        go_ret2
        exact .inl ⟨60, by decide, rfl, HB4.out⟩
      | false =>
        have HRX : Hid (RowQ w4 w.heap.size (.slice Av AL.length cv) (actL mode ins outs t l)) := by
          show World.ownsRow _ _ _ _ _ _ _
          rw [← HAE.out]
          exact HR5.out
        go_wp2_with fail
        go_ret2
        exact .inr ⟨_, rfl, HRX.out, HB4.out⟩
end Go.Proofs.YtijfcmlgohbndaaGreatDoor

namespace Go.Proofs.YtijfcmlgohbndaaGreatDoor
set_option maxRecDepth 100000
set_option linter.unusedSimpArgs false
set_option linter.unusedVariables false
open Go.RowKit Go.Joins Go.Deep
open Go.Lib hiding intOf
theorem results_ct_rowD {P : Program} {fn : Func} {p u : Tmp} {ty : TypeId} (h : fn.results = #[.cell p ty, .tmp u]) (tmps : Array Value) (w : World) (g : Nat) (t : TypeId) (cs : Array Value) (fr : Nat × Nat) (d : TypeDesc)
    (hp : tmps.getD p undef = .pointer (some ⟨g, 0, none⟩)) (hg : w.heap[g]? = some (.cells cs t fr))
    (hu : P.underlying ty = some d) (hd : (match d with | .struct _ | .array _ _ => true | _ => false) = true) (hi : (P.info? ty).map (·.size) = some cs.size) :
    (results fn tmps).run P w = .ok (.tuple #[.agg cs, tmps.getD u undef]) w := by
  rw [results_cell_tmp h, hp]
  simp [asAddr, run_loadVar_row w g t ty cs fr d hg hu hd hi, Result.andThen]
/-- What Make answers. -/
def MakR (w : World) (ssi sso : List ByteArray) (e : Ending) (w' : World) : Prop :=
  ((∃ s ∈ ssi ++ sso, cmp1 s = none) ∧ e = .returned (.tuple #[.agg #[.slice none 0 0, .slice none 0 0], .int .i64 22]) ∧ Below w.heap.size w w') ∨
  (∃ ins outs A1 c1 A2 c2, ssi.map cmp1 = ins.map some ∧ sso.map cmp1 = outs.map some ∧ e = .returned (.tuple #[.agg #[.slice A1 ins.length c1, .slice A2 outs.length c2], .int .i64 0]) ∧ FilV w' (.agg #[.slice A1 ins.length c1, .slice A2 outs.length c2]) ins outs ∧ Below w.heap.size w w')
theorem two_set {w : World} {g : Nat} {a b x y : Value} {T : TypeId} (h : w.heap[g]? = some (.cells #[a, b] T (0, 0))) : ((w.setCell ⟨g, 0, none⟩ x).setCell ⟨g, 1, none⟩ y).heap[g]? = some (.cells #[x, y] T (0, 0)) := by
  have h1 := heap_setCell_same w g 0 _ _ x h
  have h2 := heap_setCell_same _ g 1 _ _ y h1
  simpa using h2
set_option maxHeartbeats 8000000 in
theorem fmake_any (A1 A2 : Option Addr) (c1 c2 : Nat) (ssi sso : List ByteArray) (h1 : ssi.length ≤ 100) (h2 : sso.length ≤ 100) (hs1 : ∀ s ∈ ssi, s.size ≤ 65535) (hs2 : ∀ s ∈ sso, s.size ≤ 65535) (w : World) (hT1 : TxS w A1 ssi) (hT2 : TxS w A2 sso) :
    Calls Tryz.prog 8 #[.slice A1 ssi.length c1, .slice A2 sso.length c2] w (MakR w ssi sso) := by
  have hif := info_fil
  have hzf := zero_fil
  have hmx : decide ((100 : Int) < (if (ssi.length : Int) < (sso.length : Int) then (sso.length : Int) else (ssi.length : Int))) = false := decide_eq_false (by split <;> omega)
  have hb0 := below_alG w (.cells #[.slice none 0 0, .slice none 0 0] 31)
  have hx0 := heap_alloc_new w (.cells #[.slice none 0 0, .slice none 0 0] 31)
  have HC1 := Lib.hid (fcompile_any A1 c1 ssi (by omega) hs1 _ (hT1.below hb0))
  have HC2 := Lib.hid (fun w1 (hb : Below w.heap.size w w1) => fcompile_any A2 c2 sso (by omega) hs2 w1 (hT2.below hb))
  have HB0 := Lib.hid hb0
  have HX0 := Lib.hid hx0
  clear hT1 hT2 hb0 hx0 hs1 hs2
  go_enter Tryz.func8, Tryz.ntmps8
  go_upto_region 1 with fail
  generalize w.alloc (.cells #[.slice none 0 0, .slice none 0 0] 31) = w1 at *
  have HG : Hid (w.heap.size = w.heap.size) := rfl
  have HLT : Hid (w.heap.size < w1.heap.size) := lt_of_block HX0.out
  go_wp2_with fail
  refine HC1.out.mono ?_; rintro e w2 hout
  rcases hout with ⟨hn, rfl, hb2⟩ | ⟨ins, A3, c3, hm1, hl1, rfl, hR1, hb2⟩
  · have HN := Lib.hid hn
    have HX2 := Lib.hid ((hb2.block _ HLT.out).trans HX0.out)
    have z0 := (cell_of_row _ _ 0 _ _ _ HX2.out).trans (show _ = some (Value.slice none 0 0) from rfl)
    have z1 := (cell_of_row _ _ 1 _ _ _ HX2.out).trans (show _ = some (Value.slice none 0 0) from rfl)
    have f0 := frozen_of_row _ _ 0 _ _ HX2.out
    have f1 := frozen_of_row _ _ 1 _ _ HX2.out
    have HB2 := Lib.hid (below_then HB0.out hb2)
    clear hn hb2 HC1 HC2
    go_wp2_with fail
    exact bodyPost_ret (results_ct_rowD rfl _ _ w.heap.size 31 #[.slice none 0 0, .slice none 0 0] (0, 0) _ rfl (two_set HX2.out) Tryz.underlying31 rfl info_fil) rfl (.inl ⟨by obtain ⟨s, h1, h2⟩ := HN.out; exact ⟨s, List.mem_append.2 (.inl h1), h2⟩, rfl, (HB2.out.setCell (p := ⟨w.heap.size, 0, none⟩) (Nat.le_refl _) _).setCell (p := ⟨w.heap.size, 1, none⟩) (Nat.le_refl _) _⟩)
  · have HB2 := Lib.hid (below_then HB0.out hb2)
    have HX2 := Lib.hid ((hb2.block _ HLT.out).trans HX0.out)
    have HR1 := Lib.hid hR1
    have HM1 := Lib.hid hm1
    have HL2 : Hid (w.heap.size < w2.heap.size) := Nat.lt_of_lt_of_le HLT.out hb2.size
    have HK2 := Lib.hid (HC2.out w2 HB2.out)
    clear hb2 hR1 hm1 HC1 HC2
    go_wp2_with fail
    refine HK2.out.mono ?_; rintro e w3 hout
    clear HK2
    rcases hout with ⟨hn, rfl, hb3⟩ | ⟨outs, A4, c4, hm2, hl2, rfl, hR2, hb3⟩
    · have HN := Lib.hid hn
      have HX3 := Lib.hid ((hb3.block _ HL2.out).trans HX2.out)
      have z0 := (cell_of_row _ _ 0 _ _ _ HX3.out).trans (show _ = some (Value.slice none 0 0) from rfl)
      have z1 := (cell_of_row _ _ 1 _ _ _ HX3.out).trans (show _ = some (Value.slice none 0 0) from rfl)
      have f0 := frozen_of_row _ _ 0 _ _ HX3.out
      have f1 := frozen_of_row _ _ 1 _ _ HX3.out
      have HB3 := Lib.hid (below_then HB2.out hb3)
      clear hn hb3
      go_wp2_with fail
      exact bodyPost_ret (results_ct_rowD rfl _ _ w.heap.size 31 #[.slice none 0 0, .slice none 0 0] (0, 0) _ rfl (two_set HX3.out) Tryz.underlying31 rfl info_fil) rfl (.inl ⟨by obtain ⟨s, h1, h2⟩ := HN.out; exact ⟨s, List.mem_append.2 (.inr h1), h2⟩, rfl, (HB3.out.setCell (p := ⟨w.heap.size, 0, none⟩) (Nat.le_refl _) _).setCell (p := ⟨w.heap.size, 1, none⟩) (Nat.le_refl _) _⟩)
    · have HX3 := Lib.hid ((hb3.block _ HL2.out).trans HX2.out)
      have z0 := (cell_of_row _ _ 0 _ _ _ HX3.out).trans (show _ = some (Value.slice none 0 0) from rfl)
      have z1 := (cell_of_row _ _ 1 _ _ _ HX3.out).trans (show _ = some (Value.slice none 0 0) from rfl)
      have f0 := frozen_of_row _ _ 0 _ _ HX3.out
      have f1 := frozen_of_row _ _ 1 _ _ HX3.out
      have HB3 := Lib.hid (below_then HB2.out hb3)
      have HR1' := Lib.hid (HR1.out.below hb3)
      have HR2 := Lib.hid hR2
      have HM2 := Lib.hid hm2
      have HY := Lib.hid (heap_setCell_same w3 w.heap.size 0 _ _ (.slice A3 ins.length c3) HX3.out)
      have HKG : Hid (KeepG w3 ((w3.setCell ⟨w.heap.size, 0, none⟩ (.slice A3 ins.length c3)).setCell ⟨w.heap.size, 1, none⟩ (.slice A4 outs.length c4))) := (keepG_set HX3.out (by decide) (by decide) (by decide) _).then (keepG_set HY.out (by decide) (by decide) (by decide) _)
      clear hb3 hR2 hm2
      go_wp2_with fail
      exact bodyPost_ret (results_ct_rowD rfl _ _ w.heap.size 31 #[.slice A3 ins.length c3, .slice A4 outs.length c4] (0, 0) _ rfl (two_set HX3.out) Tryz.underlying31 rfl info_fil) rfl (.inr ⟨ins, outs, A3, c3, A4, c4, HM1.out, HM2.out, rfl, ⟨A3, c3, A4, c4, rfl, HR1'.out.keep HKG.out, HR2.out.keep HKG.out, hl1, hl2⟩, (HB3.out.setCell (p := ⟨w.heap.size, 0, none⟩) (Nat.le_refl _) _).setCell (p := ⟨w.heap.size, 1, none⟩) (Nat.le_refl _) _⟩)
end Go.Proofs.YtijfcmlgohbndaaGreatDoor

namespace Go.Proofs.YtijfcmlgohbndaaGreatDoor
set_option maxRecDepth 100000
set_option linter.unusedSimpArgs false
set_option linter.unusedVariables false
open Go.RowKit Go.Joins Go.Deep
open Go.Lib hiding intOf
/-- Are some texts few and short? -/
def LitP (ss : List ByteArray) : Prop := ss.length = 0 ∨ (ss.length ≤ 110 ∧ ∀ s ∈ ss, s.size ≤ 100)
instance (ss : List ByteArray) : Decidable (LitP ss) := by unfold LitP; infer_instance
set_option maxHeartbeats 4000000 in
theorem light_any (A : Option Addr) (c : Nat) (ss : List ByteArray) (hn : ss.length ≤ 9223372036854775807) (w : World) (hT : TxS w A ss) :
    Calls Tryz.prog 7 #[.slice A ss.length c] w fun e w' => e = .returned (.bool (decide (LitP ss))) ∧ Below w.heap.size w w' := by
  have HT := Lib.hid hT
  obtain ⟨V, hV⟩ : ∃ V, V = decide (LitP ss) := ⟨_, rfl⟩
  rw [← hV]
  have HV := Lib.hid hV
  clear hT hV
  go_enter Tryz.func7, Tryz.ntmps7
  go_wp2_with fail
  go_loopw [4, 7] (fun _ v7 wr => ∃ k : Nat, k ≤ ss.length ∧ v7 = .int .i64 (k : Nat) ∧ Hid (∀ s ∈ ss.take k, s.size ≤ 100) ∧ Hid (k = 0 ∨ ss.length ≤ 110) ∧ Hid (Below w.heap.size w wr)) (fun _ v _ => ss.length - (intOf v).toNat)
  case atStart => exact ⟨0, Nat.zero_le _, rfl, (fun s hs => by cases hs), .inl rfl, Below.refl _ _⟩
  case round =>
    obtain ⟨k, hk, rfl, HS, HL, HB⟩ := hrel
    by_cases hlt : k < ss.length
    · have hd : decide ((k : Int) < (ss.length : Int)) = true := decide_eq_true (by omega)
      obtain ⟨b, off, rfl, hb, hc⟩ := (HT.out.below HB.out) (by omega)
      have c1 := hc k ss[k] (List.getElem?_eq_getElem hlt)
      have HMEM : Hid (ss[k] ∈ ss) := List.getElem_mem hlt
      have HTK : Hid (ss.take (k + 1) = ss.take k ++ [ss[k]]) := List.take_succ_eq_append_getElem hlt
      clear hc
      generalize ss[k] = sk at *
      by_cases h110 : 110 < ss.length
      · have d1 : decide ((110 : Int) < (ss.length : Int)) = true := decide_eq_true (by omega)
        have HF : Hid (V = false) := by
          show V = false
          rw [HV.out]
          exact decide_eq_false (fun h => by rcases h with h | h <;> omega)
        go_wp2_with fail
        go_ret
        exact ⟨by rw [HF.out]; rfl, HB.out⟩
      · have d1 : decide ((110 : Int) < (ss.length : Int)) = false := decide_eq_false (by omega)
        by_cases h100 : 100 < sk.size
        · have d2 : decide ((100 : Int) < (sk.size : Int)) = true := decide_eq_true (by omega)
          have HF : Hid (V = false) := by
            show V = false
            rw [HV.out]
            exact decide_eq_false (fun h => by
              rcases h with h | ⟨_, h⟩
              · omega
              · have := h sk HMEM.out; omega)
          go_wp2_with fail
          go_ret
          exact ⟨by rw [HF.out]; rfl, HB.out⟩
        · have d2 : decide ((100 : Int) < (sk.size : Int)) = false := decide_eq_false (by omega)
          have HS2 : Hid (∀ s ∈ ss.take (k + 1), s.size ≤ 100) := fun s hs => by
            rw [HTK.out, List.mem_append] at hs
            rcases hs with hs | hs
            · exact HS.out s hs
            · obtain rfl : s = sk := by simpa using hs
              omega
          have HL2 : Hid (k + 1 = 0 ∨ ss.length ≤ 110) := .inr (by omega)
          have hk62 : (k : Int) + 1 < 9223372036854775807 := by omega
          clear HT
          go_wp2_with fail
          go_roundw
          case rel => exact ⟨k + 1, by omega, by go_num, HS2, HL2, HB⟩
          case measure => simp [intOf]; omega
    · obtain rfl : k = ss.length := by omega
      have hd : decide ((ss.length : Int) < (ss.length : Int)) = false := decide_eq_false (by omega)
      have HF : Hid (V = true) := by
        show V = true
        rw [HV.out]
        refine decide_eq_true ?_
        rcases HL.out with h | h
        · exact .inl h
        · refine .inr ⟨h, fun s hs => ?_⟩
          have := HS.out
          rw [List.take_length] at this
          exact this s hs
      go_wp2_with fail
      go_ret
      exact ⟨by rw [HF.out]; rfl, HB.out⟩
/-! ## The example -/
theorem fx1 : cmp1 ⟨#[42, 46, 103, 111]⟩ = some [⟨3, 0, false, []⟩, ⟨1, 46, false, []⟩, ⟨1, 103, false, []⟩, ⟨1, 111, false, []⟩] := by
  unfold cmp1
  rw [show runesB ⟨#[42, 46, 103, 111]⟩ = [42, 46, 103, 111] by kernel_rfl, compF_more (by decide) (x := ⟨3, 0, false, []⟩) (k := 1) (by kernel_rfl), compF_more (by decide) (x := ⟨1, 46, false, []⟩) (k := 1) (by kernel_rfl), compF_more (by decide) (x := ⟨1, 103, false, []⟩) (k := 1) (by kernel_rfl), compF_more (by decide) (x := ⟨1, 111, false, []⟩) (k := 1) (by kernel_rfl), compF_end (by decide)]
  rfl
theorem fx2 : cmp1 ⟨#[97, 42]⟩ = some [⟨1, 97, false, []⟩, ⟨3, 0, false, []⟩] := by
  unfold cmp1
  rw [show runesB ⟨#[97, 42]⟩ = [97, 42] by kernel_rfl, compF_more (by decide) (x := ⟨1, 97, false, []⟩) (k := 1) (by kernel_rfl), compF_more (by decide) (x := ⟨3, 0, false, []⟩) (k := 1) (by kernel_rfl), compF_end (by decide)]
  rfl
def pGo : List Atm := [⟨3, 0, false, []⟩, ⟨1, 46, false, []⟩, ⟨1, 103, false, []⟩, ⟨1, 111, false, []⟩]
def pA : List Atm := [⟨1, 97, false, []⟩, ⟨3, 0, false, []⟩]
theorem mb1 : mtB pGo (runesB ⟨#[98, 46, 103, 111]⟩) = true := by
  rw [show runesB ⟨#[98, 46, 103, 111]⟩ = [98, 46, 103, 111] by kernel_rfl]
  exact (mtB_iff _ _).2 ((Mt_star rfl _ _).2 ⟨[98], [46, 103, 111], rfl, (Mt_one (by decide) _ _).2 ⟨46, _, rfl, by decide, (Mt_one (by decide) _ _).2 ⟨103, _, rfl, by decide, (Mt_one (by decide) _ _).2 ⟨111, [], rfl, by decide, rfl⟩⟩⟩⟩)
theorem mb2 : mtB pA (runesB ⟨#[98, 46, 103, 111]⟩) = false := by
  rw [show runesB ⟨#[98, 46, 103, 111]⟩ = [98, 46, 103, 111] by kernel_rfl, Bool.eq_false_iff]
  intro h
  obtain ⟨x, t, e, h1, _⟩ := (Mt_one (by decide) _ _).1 ((mtB_iff _ _).1 h)
  injection e with e _
  subst e
  exact absurd h1 (by decide)
theorem mb3 : mtB pA (runesB ⟨#[97, 46, 103, 111]⟩) = true := by
  rw [show runesB ⟨#[97, 46, 103, 111]⟩ = [97, 46, 103, 111] by kernel_rfl]
  exact (mtB_iff _ _).2 ((Mt_one (by decide) _ _).2 ⟨97, _, rfl, by decide, (Mt_star rfl _ _).2 ⟨[46, 103, 111], [], rfl, rfl⟩⟩)
theorem tk1 : takM [pGo] [pA] ⟨#[98, 46, 103, 111]⟩ false = true := by
  unfold takM mchM anyM
  simp only [List.any_cons, List.any_nil, mb1, mb2, List.length_cons, List.length_nil]
  rfl
theorem tk2 : takM [pGo] [pA] ⟨#[97, 46, 103, 111]⟩ false = false := by
  unfold takM mchM anyM
  simp only [List.any_cons, List.any_nil, mb3, List.length_cons, List.length_nil]
  simp
end Go.Proofs.YtijfcmlgohbndaaGreatDoor
