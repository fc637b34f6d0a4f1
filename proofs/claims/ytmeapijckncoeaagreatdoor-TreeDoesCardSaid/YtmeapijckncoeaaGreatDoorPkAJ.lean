/-
  Trees: the document's Right.
  Trees: the document's Right, of layer 16.
  Trees: slices.Insert of one item: what is in memory.
  Trees: slices.Insert of one item.
-/
import Derived.Test.YtmeapijckncoeaaGreatDoorPkAD
import Derived.Test.YtmeapijckncoeaaGreatDoorPkAI
import Derived.Test.YtmeapijckncoeaaGreatDoorPkAH
import Derived.Deep.RegionHeld3
import Derived.Shelf.Spec.SlicesInsertGrow

namespace Go.Proofs.YtmeapijckncoeaaGreatDoor
set_option maxRecDepth 100000
set_option linter.unusedSimpArgs false
set_option linter.unusedVariables false
open Go.RowKit Go.Joins Go.Deep
open Go.Lib hiding intOf
/-- The item at a place. -/
def atI (l : List Itm) (i : Nat) : Itm := l[i]?.getD default
/-- May an item be one of a tree? -/
def sndL (x : Itm) : Bool := (chkV x.s).2.2 == 0 && !(chkV x.s).2.1 && ((chkV x.s).1.toList == x.s.toList) && !(decide (x.k < 1)) && !(decide (3 < x.k))
/-- Does an item stand behind the one ahead of it? -/
def ordI (l : List Itm) (k : Nat) : Bool := decide (k = 0) || decide (ordT (atI l (k - 1)).s (atI l k).s < 0)
/-- Is all of it right there? -/
def rowI (l : List Itm) (k : Nat) : Bool := sndL (atI l k) && ordI l k && (kndL l (parB (atI l k).s) == 1)
def rgtI (l : List Itm) : Bool := (List.range l.length).all (rowI l)
theorem rng_all (q : Nat → Bool) (n k : Nat) (h : (List.range k).all q = true) (hk : k < n) (hq : q k = false) : (List.range n).all q = false := by
  rw [List.all_eq_false]
  exact ⟨k, List.mem_range.2 hk, by simp [hq]⟩
theorem rng_more (q : Nat → Bool) (k : Nat) (h : (List.range k).all q = true) (hq : q k = true) : (List.range (k + 1)).all q = true := by
  rw [List.range_succ, List.all_append, h]
  simp [hq]

set_option maxHeartbeats 16000000 in
theorem rright_any (A : Option Addr) (c : Nat) (l : List Itm) (w : World) (hR : Itms w A l) (hl : l.length ≤ 1000) (hs : ∀ x ∈ l, x.s.size ≤ 100000) :
    Calls Tryz.prog 34 #[.slice A l.length c] w fun e w' => e = .returned (.bool (rgtI l)) ∧ Below w.heap.size w w' := by
  have hir := info_item
  have HR := Lib.hid hR
  have HRS := Lib.hid hs
  obtain ⟨V, hV⟩ : ∃ V, V = rgtI l := ⟨_, rfl⟩
  rw [← hV]
  have HV := Lib.hid hV
  have mixed : Tryz.prog.follows .mixedOrders = true := by kernel_rfl
  clear hR hV hs
  go_enter Tryz.func34, Tryz.ntmps34
  go_wp2_with fail
  go_loopw [10] (fun v10 wr => ∃ k : Nat, k ≤ l.length ∧ v10 = .int .i64 (k : Nat) ∧ Hid ((List.range k).all (rowI l) = true) ∧ Hid (Below w.heap.size w wr)) (fun v _ => l.length - (intOf v).toNat)
  case atStart => exact ⟨0, Nat.zero_le _, rfl, rfl, Below.refl _ _⟩
  case round =>
    obtain ⟨k, hk, rfl, HT, HB⟩ := hrel
    by_cases hlt : k < l.length
    case neg =>
      obtain rfl : k = l.length := by omega
      have hd : decide ((l.length : Int) < (l.length : Int)) = false := decide_eq_false (by omega)
      have HF : Hid (V = true) := by show V = true; rw [HV.out]; exact HT.out
      clear HV HT
      go_wp2_with fail
      go_ret
      exact ⟨by rw [HF.out]; rfl, HB.out⟩
    have hd : decide ((k : Int) < (l.length : Int)) = true := decide_eq_true (by omega)
    have HRW := Lib.hid (HR.out.below HB.out)
    obtain ⟨b, off, rfl, hb, hcc⟩ := HRW.out (by omega)
    obtain ⟨c0, c1, c2, c3, c4, c5, c6, c7⟩ := hcc k l[k] (List.getElem?_eq_getElem hlt)
    have HCC := Lib.hid hcc
    have HBAD : Hid (rowI l k = false → V = false) := fun h => by rw [HV.out]; exact rng_all _ _ _ HT.out hlt h
    have HMORE : Hid (rowI l k = true → (List.range (k + 1)).all (rowI l) = true) := fun h => rng_more _ _ HT.out h
    have HATK : Hid (atI l k = l[k]) := by show l[k]?.getD default = _; rw [List.getElem?_eq_getElem hlt]; rfl
    have HS := Lib.hid (HRS.out l[k] (List.getElem_mem hlt))
    have hx0 := heap_alloc_new wr (.cells l[k].cells 42)
    have hba := below_al wr (.cells l[k].cells 42)
    have HB2 := Lib.hid (below_then HB.out hba)
    simp only [Itm.cells] at hx0 HB2 hba
    generalize l[k] = x at *
    obtain ⟨x0, x1, x2, x3, x4, x5, x6, x7⟩ := x
    dsimp only at c0 c1 c2 c3 c4 c5 c6 c7 HB2 hx0 HS hba
    have HCK := Lib.hid (fun w => rcheck_any x0 w)
    have HHX := Lib.hid hx0
    have d0 := (cell_of_row _ _ 0 _ _ _ hx0).trans (show _ = some (.string x0) from rfl)
    have HBA := Lib.hid hba
    clear hcc hx0 hba HT HV
    have HCV : Hid (chkV x0 = ((chkV x0).1, (chkV x0).2.1, (chkV x0).2.2)) := rfl
    generalize (chkV x0).1 = V1 at *
    generalize (chkV x0).2.1 = V2 at *
    generalize (chkV x0).2.2 = V3 at *
    go_wp2_with fail
    refine (HCK.out _).mono ?_; rintro e w2 ⟨rfl, hb2⟩
    have HB3 := Lib.hid (below_then HB2.out hb2)
    have HBC := Lib.hid (HBA.out.trans (hb2.mono HBA.out.size))
    have hx2 := (hb2.block _ (lt_of_block HHX.out)).trans HHX.out
    have e0 := (cell_of_row _ _ 0 _ _ _ hx2).trans (show _ = some (.string x0) from rfl)
    have e1 := (cell_of_row _ _ 1 _ _ _ hx2).trans (show _ = some (.int .i64 x1) from rfl)
    have HX2 := Lib.hid hx2
    generalize hgx : wr.heap.size = gx at *
    clear hb2 d0 HHX HB2 hx2 HCK c0 c1 c2 c3 c4 c5 c6 c7 HBA
    have HROW : Hid (rowI l k = (((((V3 == 0) && !V2 && (V1.toList == x0.toList)) && !(decide (x1 < 1))) && !(decide (3 < x1))) && ordI l k && (kndL l (parB x0) == 1))) := by
      show rowI l k = _
      unfold rowI sndL
      rw [HATK.out]
      dsimp only
      rw [HCV.out]
    clear HCV
    by_cases h3 : V3 = 0
    case neg =>
      have HF : Hid (V = false) := HBAD.out (by rw [HROW.out, beq_eq_false_iff_ne.2 h3]; simp)
      clear HBAD HMORE HR HS HROW HATK HX2 HBC HCC HRW
      go_wp2_with fail
      go_ret
      exact ⟨by rw [HF.out]; rfl, HB3.out⟩
    subst h3
    cases V2 with
    | true =>
      have HF : Hid (V = false) := HBAD.out (by rw [HROW.out]; simp)
      clear HBAD HMORE HR HS HROW HATK HX2 HBC HCC HRW
      go_wp2_with fail
      go_ret
      exact ⟨by rw [HF.out]; rfl, HB3.out⟩
    | false =>
    by_cases h1 : (V1.toList == x0.toList) = true
    case neg =>
      have h1 := Bool.eq_false_iff.2 h1
      have HF : Hid (V = false) := HBAD.out (by rw [HROW.out, h1]; simp)
      clear HBAD HMORE HR HS HROW HATK HX2 HBC HCC HRW
      go_wp2_with fail
      go_ret
      exact ⟨by rw [HF.out]; rfl, HB3.out⟩
    by_cases hlo : x1 < 1
    · have g1 : decide (x1 < 1) = true := decide_eq_true hlo
      have HF : Hid (V = false) := HBAD.out (by rw [HROW.out, g1]; simp)
      clear HBAD HMORE HR HS HROW HATK HX2 HBC HCC HRW
      go_wp2_with fail
      go_ret
      exact ⟨by rw [HF.out]; rfl, HB3.out⟩
    have g1 : decide (x1 < 1) = false := decide_eq_false hlo
    by_cases hhi : 3 < x1
    · have g2 : decide (3 < x1) = true := decide_eq_true hhi
      have HF : Hid (V = false) := HBAD.out (by rw [HROW.out, g2]; simp)
      clear HBAD HMORE HR HS HROW HATK HX2 HBC HCC HRW
      go_wp2_with fail
      go_ret
      exact ⟨by rw [HF.out]; rfl, HB3.out⟩
    have g2 : decide (3 < x1) = false := decide_eq_false hhi
    have HROW2 : Hid (rowI l k = (ordI l k && (kndL l (parB x0) == 1))) := by
      show rowI l k = _
      rw [HROW.out, h1, g1, g2]
      rfl
    clear HROW
    have HPA := Lib.hid (fun w => rparent_any x0 w (by have := HS.out; omega))
    have HKD := Lib.hid (fun w1 (hb : Below wr.heap.size wr w1) => rkind_any (some ⟨b, off, none⟩) c l (parB x0) w1 (HRW.out.below hb) (by omega))
    rw [hgx] at HKD
    by_cases hk0 : k = 0
    · subst hk0
      have HROW3 : Hid (rowI l 0 = (kndL l (parB x0) == 1)) := by
        show rowI l 0 = _
        rw [HROW2.out]
        unfold ordI
        rfl
      clear HROW2
      go_wp2
      generalize kndL l (parB x0) = K at *
      go_region
      go_wp2_with fail
      refine (HPA.out _).mono ?_; rintro e w7 ⟨rfl, rfl⟩
      go_wp2_with fail
      refine (HKD.out _ HBC.out.drew).mono ?_; rintro e w8 ⟨rfl, hb8⟩
      have HB8 := Lib.hid (below_then HB3.out.drew hb8)
      clear hb8 HKD HPA
      by_cases hkn : K = 1
      · have HT2 := Lib.hid (HMORE.out (by rw [HROW3.out, hkn]; rfl))
        clear HMORE HBAD HROW3
        go_wp2_with fail
        go_roundw
        case rel => exact ⟨0 + 1, by omega, by go_num, HT2, HB8⟩
        case measure => simp [intOf]; omega
      · have HF : Hid (V = false) := HBAD.out (by rw [HROW3.out, beq_eq_false_iff_ne.2 hkn])
        clear HMORE HBAD HROW3 HR HRS HS
        go_wp2_with fail
        go_ret
        exact ⟨by rw [HF.out]; rfl, HB8.out⟩
    · obtain ⟨j, rfl⟩ : ∃ j, k = j + 1 := ⟨k - 1, by omega⟩
      have hI0 : (0 : Int) < (j : Int) + 1 := by omega
      have hI3 : IntKind.i64.wrap (j : Int) = j := by rw [IntKind.wrap_i64]; omega
      have hI6 : (0 : Int) ≤ (j : Int) + 1 := by omega
      have hI7 : (j : Int) + 1 < (l.length : Int) := by omega
      have hjl : j < l.length := by omega
      have q0 := (HCC.out j l[j] (List.getElem?_eq_getElem hjl)).1
      have HAJ : Hid (atI l (j + 1 - 1) = l[j]) := by show l[j + 1 - 1]?.getD default = _; rw [Nat.add_sub_cancel, List.getElem?_eq_getElem hjl]; rfl
      have HSJ := Lib.hid (HRS.out l[j] (List.getElem_mem hjl))
      generalize l[j] = z at *
      obtain ⟨z0, z1, z2, z3, z4, z5, z6, z7⟩ := z
      dsimp only at q0 HSJ
      have q0 := (HBC.out.cell (p := ⟨b, off + j * 8, none⟩) (show b < gx from hb)).trans q0
      have HORD := Lib.hid (fun w => rorder_any z0 x0 w HSJ.out HS.out)
      have HROW3 : Hid (rowI l (j + 1) = (decide (ordT z0 x0 < 0) && (kndL l (parB x0) == 1))) := by
        show rowI l (j + 1) = _
        rw [HROW2.out]
        unfold ordI
        rw [HAJ.out, HATK.out, decide_eq_false (by omega : ¬ (j + 1 = 0))]
        rfl
      generalize ordT z0 x0 = o at *
      have hI1 : IntKind.i64.wrap ((j : Int) + 1 - 1) = j := by rw [IntKind.wrap_i64]; omega
      have hI2 : (j : Int) < (l.length : Int) := by omega
      have HK : Hid (∀ w5, Below w2.heap.size w2 w5 → w5.cell? ⟨b, off + j * 8, none⟩ = some (.string z0) ∧ w5.cell? ⟨gx, 0, none⟩ = some (.string x0)) := fun w5 h5 => ⟨(h5.cell (Nat.lt_of_lt_of_le hb (by have := HBC.out.size; omega))).trans q0, (h5.cell (lt_of_block HX2.out)).trans e0⟩
      have k0 : w2.cell? ⟨b, off + j * 8, none⟩ = some (.string z0) ∧ w2.cell? ⟨gx, 0, none⟩ = some (.string x0) := ⟨q0, e0⟩
      clear HROW2 hk0 HAJ HSJ HCC HATK
      go_wp2
      go_region_held3 (fun w' => w'.cell? ⟨b, off + j * 8, none⟩ = some (.string z0) ∧ w'.cell? ⟨gx, 0, none⟩ = some (.string x0)) (first | exact k0 | exact k1) ((go_at_call 45; (with_reducible refine (HORD.out _).mono ?_); rintro e w6 ⟨rfl, hb6⟩; have k1 := HK.out w6 (by exact ⟨hb6.os, hb6.tape, hb6.output, hb6.size, hb6.block⟩)))
      have HB6 := Lib.hid (below_then HB3.out.drew hb6)
      have HBC6 := Lib.hid (HBC.out.trans ((Below.refl _ w2).drew.trans hb6 |>.mono (show gx ≤ w2.heap.size by have := HBC.out.size; omega)))
      clear hb6
      generalize kndL l (parB x0) = K at *
      by_cases ho : o < 0
      case neg =>
        have ho1 : (0 : Int) ≤ o := by omega
        have HF : Hid (V = false) := HBAD.out (by rw [HROW3.out, decide_eq_false ho, Bool.false_and])
        clear HMORE HBAD HROW3 HR HRS HS
        go_wp2_with fail
        go_ret
        exact ⟨by rw [HF.out]; rfl, HB6.out⟩
      have ho1 : ¬ (0 : Int) ≤ o := by omega
      replace HROW3 : Hid (rowI l (j + 1) = (K == 1)) := by show _ = _; rw [HROW3.out, decide_eq_true ho, Bool.true_and]
      go_wp2_with fail
      refine (HPA.out _).mono ?_; rintro e w7 ⟨rfl, rfl⟩
      go_wp2_with fail
      refine (HKD.out _ HBC6.out).mono ?_; rintro e w8 ⟨rfl, hb8⟩
      have HB8 := Lib.hid (below_then HB6.out hb8)
      clear hb8 HKD HPA
      by_cases hkn : K = 1
      · have HT2 := Lib.hid (HMORE.out (by rw [HROW3.out, hkn]; rfl))
        clear HMORE HBAD HROW3
        go_wp2_with fail
        go_roundw
        case rel => exact ⟨j + 1 + 1, by omega, by go_num, HT2, HB8⟩
        case measure => simp [intOf]; omega
      · have HF : Hid (V = false) := HBAD.out (by rw [HROW3.out, beq_eq_false_iff_ne.2 hkn])
        clear HMORE HBAD HROW3 HR HRS HS
        go_wp2_with fail
        go_ret
        exact ⟨by rw [HF.out]; rfl, HB8.out⟩
end Go.Proofs.YtmeapijckncoeaaGreatDoor

namespace Go.Proofs.YtmeapijckncoeaaGreatDoor
set_option maxRecDepth 100000
set_option linter.unusedSimpArgs false
set_option linter.unusedVariables false
open Go.RowKit Go.Joins Go.Deep
open Go.Lib hiding intOf
/-- Has a directory Data? -/
def datL (x : Itm) : Bool := (x.k == 1) && decide (0 < x.d.size)
set_option maxHeartbeats 8000000 in
theorem right16_any (A : Option Addr) (c : Nat) (l : List Itm) (w : World) (hR : Itms w A l) (hl : l.length ≤ 1000) (hs : ∀ x ∈ l, x.s.size ≤ 100000) :
    Calls Tryz.prog 14 #[.slice A l.length c] w fun e w' => e = .returned (.bool (!(l.any datL) && rgtI l)) ∧ Below w.heap.size w w' := by
  have hir := info_item
  have HR := Lib.hid hR
  have HRR := Lib.hid (fun w1 (hb : Below w.heap.size w w1) => rright_any A c l w1 (hR.below hb) hl hs)
  obtain ⟨V, hV⟩ : ∃ V, V = (!(l.any datL) && rgtI l) := ⟨_, rfl⟩
  rw [← hV]
  have HV := Lib.hid hV
  clear hR hV hs
  go_enter Tryz.func14, Tryz.ntmps14
  go_wp2_with fail
  go_loopw [7] (fun v7 wr => ∃ k : Nat, k ≤ l.length ∧ v7 = .int .i64 (k : Nat) ∧ Hid ((l.take k).any datL = false) ∧ Hid (Below w.heap.size w wr)) (fun v _ => l.length - (intOf v).toNat)
  case atStart => exact ⟨0, Nat.zero_le _, rfl, rfl, Below.refl _ _⟩
  case round =>
    obtain ⟨k, hk, rfl, HT, HB⟩ := hrel
    by_cases hlt : k < l.length
    · have hd : decide ((k : Int) < (l.length : Int)) = true := decide_eq_true (by omega)
      obtain ⟨b, off, rfl, hb, hcc⟩ := (HR.out.below HB.out) (by omega)
      obtain ⟨c0, c1, c2, c3, c4, c5, c6, c7⟩ := hcc k l[k] (List.getElem?_eq_getElem hlt)
      have HQ := Lib.hid (any_take l datL k hlt)
      have HBAD : Hid (datL l[k] = true → V = false) := fun h => by
        rw [HV.out, List.any_eq_true.2 ⟨l[k], List.getElem_mem hlt, h⟩]
        rfl
      have hx0 := heap_alloc_new wr (.cells l[k].cells 42)
      have HB2 := Lib.hid (below_then HB.out (below_al wr (.cells l[k].cells 42)))
      simp only [Itm.cells] at hx0 HB2
      generalize l[k] = x at *
      obtain ⟨x0, x1, x2, x3, x4, x5, x6, x7⟩ := x
      dsimp only at c0 c1 c2 c3 c4 c5 c6 c7 HB2 hx0
      have d1 := (cell_of_row _ _ 1 _ _ _ hx0).trans (show _ = some (.int .i64 x1) from rfl)
      have d7 := (cell_of_row _ _ 7 _ _ _ hx0).trans (show _ = some (.string x7) from rfl)
      clear hcc hx0 HR HRR HV
      by_cases h1 : x1 = 1
      · subst h1
        by_cases h7 : 0 < x7.size
        · have h7' : (0 : Int) < (x7.size : Int) := by omega
          have HF : Hid (V = false) := HBAD.out (by show (((1 : Int) == 1) && decide (0 < x7.size)) = true; rw [decide_eq_true h7]; rfl)
          clear HQ HT HBAD
          go_wp2_with fail
          go_ret
          exact ⟨by rw [HF.out]; rfl, HB2.out⟩
        · have h7' : ¬ (0 : Int) < (x7.size : Int) := by omega
          have HT2 : Hid ((l.take (k + 1)).any datL = false) := by
            show _ = _
            rw [HQ.out, HT.out]
            show (((1 : Int) == 1) && decide (0 < x7.size)) = false
            rw [decide_eq_false h7]; rfl
          clear HQ HT HBAD
          go_wp2_with fail
          go_roundw
          case rel => exact ⟨k + 1, by omega, by go_num, HT2, HB2⟩
          case measure => simp [intOf]; omega
      · have HT2 : Hid ((l.take (k + 1)).any datL = false) := by
          show _ = _
          rw [HQ.out, HT.out]
          show ((x1 == 1) && decide (0 < x7.size)) = false
          rw [beq_eq_false_iff_ne.2 h1]; rfl
        clear HQ HT HBAD
        go_wp2_with fail
        go_roundw
        case rel => exact ⟨k + 1, by omega, by go_num, HT2, HB2⟩
        case measure => simp [intOf]; omega
    · obtain rfl : k = l.length := by omega
      have hd : decide ((l.length : Int) < (l.length : Int)) = false := decide_eq_false (by omega)
      have HF : Hid (V = rgtI l) := by
        show V = _
        have h := HT.out
        rw [List.take_length] at h
        rw [HV.out, h]
        rfl
      have HC := Lib.hid (HRR.out wr HB.out)
      clear HV HT HR HRR
      go_wp2_with fail
      refine HC.out.mono ?_; rintro e w2 ⟨rfl, hb2⟩
      have HB2 := Lib.hid (below_then HB.out hb2)
      clear hb2 HC
      go_wp2_with fail
      go_ret
      exact ⟨by rw [HF.out]; rfl, HB2.out⟩
end Go.Proofs.YtmeapijckncoeaaGreatDoor

namespace Go.Proofs.YtmeapijckncoeaaGreatDoor
set_option maxRecDepth 100000
set_option linter.unusedSimpArgs false
set_option linter.unusedVariables false
open Go.RowKit Go.Joins Go.Deep
open Go.Lib hiding intOf
theorem run_copy_items (w : World) (ty : TypeId) (b o dLen dCap : Nat) (a : Addr) (sLen sCap : Nat) (cs : List Value)
    (hn : cs.length = Nat.min sLen dLen * 8)
    (hsrc : ∀ j v, cs[j]? = some v → w.cell? (a.add j) = some v) (hc : ∀ j, j < cs.length → (w.cell? ⟨b, o + j, none⟩).isSome = true) (hf : ∀ j, j < cs.length → w.frozen? ⟨b, o + j, none⟩ = false) (h1 : ∀ v ∈ cs, v.oneCell' = true) :
    (Builtin.copy_ #[22, 22] ty #[.slice (some ⟨b, o, none⟩) dLen dCap, .slice (some a) sLen sCap]).run Tryz.prog w = .ok (goInt (Nat.min sLen dLen)) (w.setCells b o cs) := by
  have hl := run_loadCells_list (P := Tryz.prog) w a cs hsrc
  have hst := run_storeCells_cells (P := Tryz.prog) b o cs 0 w (by simpa using hc) (by simpa using hf) h1
  have hs := info_item
  cases hq : Tryz.prog.info? 42 with
  | none => simp [hq] at hs
  | some i =>
    have hi : i.size = 8 := by simpa [hq] using hs
    simp [Builtin.copy_, run_underlying Tryz.underlying22, Builtin.lenOf, Builtin.firstCells, sizeOf, typeInfo, hq, hi, ← hn, hl, hst]
theorem BK.there {w : World} {g c : Nat} (h : BK w g c) (o n : Nat) (ho : o + n ≤ c * 8) : w.there g o n := fun j hj => by
  obtain ⟨cur, h1, h2, _⟩ := h
  refine ⟨?_, frozen_of_row w g _ cur _ h1⟩
  rw [cell_of_row w g _ cur _ (0, 0) h1, Array.getElem?_eq_getElem (by omega)]
  rfl
theorem range_of_io {w : World} {g : Nat} {l : List Itm} (h : IO w g l) : w.rangeAt g 0 (cellsI l) := fun j v hj => by
  have hjl : j < l.length * 8 := by rw [← cellsI_len]; exact (List.getElem?_eq_some_iff.1 hj).1
  have hk : j / 8 < l.length := by omega
  have hr := (h.2 (j / 8) l[j / 8] (List.getElem?_eq_getElem hk)).1
  have hm : j % 8 < (l[j / 8]).cellsL.length := Nat.mod_lt _ (by decide)
  have hg := cellsI_get l (j / 8) l[j / 8] (List.getElem?_eq_getElem hk) (j % 8) _ (List.getElem?_eq_getElem hm)
  rw [show j / 8 * 8 + j % 8 = j by omega, hj] at hg
  injection hg with hg
  subst hg
  have h := hr (j % 8) _ (List.getElem?_eq_getElem hm)
  rw [show j / 8 * 8 + j % 8 = 0 + j by omega] at h
  exact h
theorem io_of_range {w : World} {g : Nat} {l : List Itm} (hlt : g < w.heap.size) (h : w.rangeAt g 0 (cellsI l)) (ht : w.there g 0 (l.length * 8)) : IO w g l :=
  ⟨hlt, fun k x hx => by
    have hk : k < l.length := (List.getElem?_eq_some_iff.1 hx).1
    refine ⟨fun j v hv => ?_, fun j hj => ?_⟩
    · have := h (k * 8 + j) v (cellsI_get l k x hx j v hv)
      rwa [Nat.zero_add] at this
    · have := ht (k * 8 + j) (by omega)
      rwa [Nat.zero_add] at this⟩
theorem range_app {w : World} {g o : Nat} {a b : List Value} (h1 : w.rangeAt g o a) (h2 : w.rangeAt g (o + a.length) b) : w.rangeAt g o (a ++ b) := fun j v hj => by
  by_cases hlt : j < a.length
  · rw [List.getElem?_append_left hlt] at hj
    exact h1 j v hj
  · rw [List.getElem?_append_right (by omega)] at hj
    have := h2 _ v hj
    rwa [show o + a.length + (j - a.length) = o + j by omega] at this
theorem cellsI_take : ∀ (l : List Itm) (i : Nat), i ≤ l.length → cellsI (l.take i) = (cellsI l).take (i * 8)
  | l, i, h => by
    have e : cellsI l = cellsI (l.take i) ++ cellsI (l.drop i) := by rw [← cellsI_app, List.take_append_drop]
    rw [e, List.take_left' (by rw [cellsI_len, List.length_take, Nat.min_eq_left h])]
theorem cellsI_drop : ∀ (l : List Itm) (i : Nat), i ≤ l.length → cellsI (l.drop i) = (cellsI l).drop (i * 8)
  | l, i, h => by
    have e : cellsI l = cellsI (l.take i) ++ cellsI (l.drop i) := by rw [← cellsI_app, List.take_append_drop]
    rw [e, List.drop_left' (by rw [cellsI_len, List.length_take, Nat.min_eq_left h])]
/-- With an item put in. -/
def insI (l : List Itm) (i : Nat) (y : Itm) : List Itm := l.take i ++ y :: l.drop i
theorem insI_len (l : List Itm) (i : Nat) (y : Itm) (h : i ≤ l.length) : (insI l i y).length = l.length + 1 := by
  unfold insI
  rw [List.length_append, List.length_cons, List.length_take, List.length_drop, Nat.min_eq_left h]
  omega
theorem insI_cells (l : List Itm) (i : Nat) (y : Itm) (h : i ≤ l.length) : cellsI (insI l i y) = (cellsI l).take (i * 8) ++ (y.cellsL ++ (cellsI l).drop (i * 8)) := by
  unfold insI
  rw [cellsI_app, cellsI, cellsI_take l i h, cellsI_drop l i h]
theorem put_in {w : World} {g c : Nat} (l : List Itm) (i : Nat) (y : Itm) (h : i ≤ l.length) (hbk : BK w g c) (hc : l.length + 1 ≤ c)
    (h1 : w.rangeAt g 0 ((cellsI l).take (i * 8))) (h2 : w.rangeAt g (i * 8) y.cellsL) (h3 : w.rangeAt g ((i + 1) * 8) ((cellsI l).drop (i * 8))) : IC w g c (insI l i y) := by
  have hlt : g < w.heap.size := by obtain ⟨cur, h1, _⟩ := hbk; exact lt_of_block h1
  refine ⟨io_of_range hlt ?_ (hbk.there _ _ (by rw [insI_len l i y h]; omega)), hbk⟩
  rw [insI_cells l i y h]
  have e : ((cellsI l).take (i * 8)).length = i * 8 := by rw [List.length_take, cellsI_len]; omega
  have e8 : y.cellsL.length = 8 := rfl
  refine range_app h1 (range_app ?_ ?_)
  · rw [e, Nat.zero_add]; exact h2
  · rw [e, e8, Nat.zero_add, show i * 8 + 8 = (i + 1) * 8 by omega]; exact h3
theorem own_of {w : World} {B c : Nat} {A : Option Addr} {l : List Itm} (h : NewB w B c A l) (hc : l.length ≤ c) : w.ownsRow B 42 8 (.slice A l.length c) l.length (cellsI l) := by
  rcases h with ⟨rfl, rfl, rfl⟩ | ⟨g, rfl, hg, hio, hbk⟩
  · exact World.ownsRow_nil w B 42 8
  · have hr := range_of_io hio
    obtain ⟨cur, h1, h2, h3⟩ := hbk
    refine ⟨cellsI_len l, .inr ⟨g, c, cur, rfl, hg, h1, hc, h3, h2, ?_⟩⟩
    refine List.ext_getElem? fun j => ?_
    by_cases hj : j < l.length * 8
    · rw [List.getElem?_take, if_pos hj]
      have hjl : j < (cellsI l).length := by rw [cellsI_len]; exact hj
      have h := hr j _ (List.getElem?_eq_getElem hjl)
      rw [Nat.zero_add, cell_of_row w g j cur _ (0, 0) h1] at h
      rw [List.getElem?_eq_getElem hjl, ← h]
      simp
    · rw [List.getElem?_eq_none (by rw [List.length_take]; omega), List.getElem?_eq_none (by rw [cellsI_len]; omega)]
theorem nb_of_own {w : World} {B : Nat} {l : List Itm} (v : Value) (hn : 0 < l.length) (h : w.ownsRow B 42 8 v l.length (cellsI l)) : ∃ A' c', v = .slice A' l.length c' ∧ NewB w B c' A' l := by
  rcases h.2 with ⟨_, h0⟩ | ⟨g, c', cur, rfl, hg, _⟩
  · omega
  · exact ⟨_, c', rfl, .inr ⟨g, rfl, hg, ic_of_own h⟩⟩
end Go.Proofs.YtmeapijckncoeaaGreatDoor

namespace Go.Proofs.YtmeapijckncoeaaGreatDoor
set_option maxRecDepth 100000
set_option linter.unusedSimpArgs false
set_option linter.unusedVariables false
open Go.RowKit Go.Joins Go.Deep
open Go.Lib hiding intOf
set_option maxHeartbeats 4000000 in
theorem ins_end (B : Nat) (A : Option Addr) (c gv : Nat) (l : List Itm) (y : Itm) (w : World) (hN : NewB w B c A l) (hc : l.length ≤ c) (hl : l.length ≤ 100000) (hv : w.heap[gv]? = some (.cells y.cells 42 (0, 0))) (hB : B ≤ w.heap.size) :
    Calls Tryz.prog 39 #[.slice A l.length c, .int .i64 l.length, .slice (some ⟨gv, 0, none⟩) 1 1] w fun e w' => ∃ A' c', e = .returned (.slice A' (l.length + 1) c') ∧ NewB w' B c' A' (insI l l.length y) ∧ Below B w w' := by
  obtain ⟨i0, hi, hz0, hz1, hz2⟩ := partsI
  have hown := own_of hN hc
  have HN := Lib.hid hN
  have hci : (l.length : Int) ≤ (c : Int) := by omega
  have hvc : ∀ j u, y.cellsL[j]? = some u → w.cell? ((⟨gv, 0, none⟩ : Addr).add j) = some u := fun j u hj => by
    rw [Addr.add_lit, Nat.zero_add, cell_of_row w gv j y.cells _ (0, 0) hv]
    rw [← itm_cells]
    simpa using hj
  clear hN hv
  by_cases hcn : c = l.length
  · subst hcn
    go_enter Tryz.func39, Tryz.ntmps39
    go_wp2_with (at_builtin; refine wpList_append_own _ rfl _ _ 22 rfl B 42 i0 (.agg #[.string ⟨#[]⟩, .int .i64 0, .int .u32 0, .int .u32 0, .int .u32 0, .int .i64 0, .int .i64 0, .string ⟨#[]⟩]) 8 72 Tryz.underlying22 hi hz0 hz1 hz2 rfl (by decide) _ _ _ rfl hown ⟨gv, 0, none⟩ 1 1 y.cellsL rfl ?qc1 ?qc2 ?qc3 ?qc4 ?qc5 ?qc6 ?_)
    case qc1 => rfl
    case qc2 => exact hvc
    case qc3 =>
      intro u hu
      exact cellsI_one [y] u (by rw [cellsI, cellsI, List.append_nil]; exact hu)
    case qc4 => unfold maxLen; omega
    case qc5 => omega
    case qc6 => exact hB
    intro v' w1 hown1 hgrow hnil
    go_wp2_with fail
    go_ret
    have e : cellsI (insI l l.length y) = cellsI l ++ y.cellsL := by
      rw [insI_cells l _ y (Nat.le_refl _), List.take_of_length_le (by rw [cellsI_len]; exact Nat.le_refl _), List.drop_of_length_le (by rw [cellsI_len]; exact Nat.le_refl _), List.append_nil]
    have el := insI_len l l.length y (Nat.le_refl _)
    rw [← e, ← el] at hown1
    obtain ⟨A', c', rfl, hnb⟩ := nb_of_own v' (by omega) hown1
    rw [el]
    exact ⟨A', c', rfl, hnb, (Below.refl B w).grown hgrow hB (fun k hk => (hown.lt k hk).1)⟩
  · go_enter Tryz.func39, Tryz.ntmps39
    go_wp2_with (at_builtin; refine wpList_append_own _ rfl _ _ 22 rfl B 42 i0 (.agg #[.string ⟨#[]⟩, .int .i64 0, .int .u32 0, .int .u32 0, .int .u32 0, .int .i64 0, .int .i64 0, .string ⟨#[]⟩]) 8 72 Tryz.underlying22 hi hz0 hz1 hz2 rfl (by decide) _ _ _ rfl hown ⟨gv, 0, none⟩ 1 1 y.cellsL rfl ?qc1 ?qc2 ?qc3 ?qc4 ?qc5 ?qc6 ?_)
    case qc1 => rfl
    case qc2 => exact hvc
    case qc3 =>
      intro u hu
      exact cellsI_one [y] u (by rw [cellsI, cellsI, List.append_nil]; exact hu)
    case qc4 => unfold maxLen; omega
    case qc5 => omega
    case qc6 => exact hB
    intro v' w1 hown1 hgrow hnil
    go_wp2_with fail
    go_ret
    have e : cellsI (insI l l.length y) = cellsI l ++ y.cellsL := by
      rw [insI_cells l _ y (Nat.le_refl _), List.take_of_length_le (by rw [cellsI_len]; exact Nat.le_refl _), List.drop_of_length_le (by rw [cellsI_len]; exact Nat.le_refl _), List.append_nil]
    have el := insI_len l l.length y (Nat.le_refl _)
    rw [← e, ← el] at hown1
    obtain ⟨A', c', rfl, hnb⟩ := nb_of_own v' (by omega) hown1
    rw [el]
    exact ⟨A', c', rfl, hnb, (Below.refl B w).grown hgrow hB (fun k hk => (hown.lt k hk).1)⟩
set_option maxHeartbeats 8000000 in
theorem ins_shift (B : Nat) (g c gv i : Nat) (l : List Itm) (y : Itm) (w : World) (hN : IC w g c l) (hg : B ≤ g) (hi : i < l.length) (hc : l.length + 1 ≤ c) (hl : l.length ≤ 100000) (hv : w.heap[gv]? = some (.cells y.cells 42 (0, 0))) (hne : gv ≠ g) (hB : B ≤ w.heap.size) :
    Calls Tryz.prog 39 #[.slice (some ⟨g, 0, none⟩) l.length c, .int .i64 i, .slice (some ⟨gv, 0, none⟩) 1 1] w fun e w' => ∃ A' c', e = .returned (.slice A' (l.length + 1) c') ∧ NewB w' B c' A' (insI l i y) ∧ Below B w w' := by
  obtain ⟨n, hn⟩ : ∃ n, n = l.length := ⟨_, rfl⟩
  have hc63 : c ≤ 9223372036854775807 := by obtain ⟨cur, _, _, h⟩ := hN.2; unfold maxLen at h; omega
  have hrg := range_of_io hN.1
  have hth := fun (o m : Nat) (h : o + m ≤ c * 8) => hN.2.there o m h
  have hvc : ∀ j u, y.cellsL[j]? = some u → w.cell? ⟨gv, 0 + j, none⟩ = some u := fun j u hj => by
    rw [Nat.zero_add, cell_of_row w gv j y.cells _ (0, 0) hv]
    rw [← itm_cells]
    simpa using hj
  have hsz8 : ∀ w, (Go.sizeOf 42).run Tryz.prog w = .ok 8 w := fun w => by
    obtain ⟨i0, hi0, _, h1, _⟩ := partsI
    simp [sizeOf, typeInfo, hi0, h1]
  obtain ⟨cur, hcur, hcs, _⟩ := hN.2
  have hov : ∀ lb cb, (callFunc 58 #[.slice (some ⟨gv, 0, none⟩) 1 1, .slice (some ⟨g, (i + 1) * 8, none⟩) lb cb]).run Tryz.prog w = .ok (.value (.bool false)) w := fun lb cb => by
    rw [run_callFunc_extern Tryz.func58 (by kernel_rfl) (by kernel_rfl) (by kernel_rfl) (e := Extern.SlicesOverlaps.overlaps #[22, 22] #[4]) (by kernel_rfl),
      Lib.run_overlaps_apart w 22 4 42 Tryz.underlying22 8 hsz8 ⟨gv, 0, none⟩ ⟨g, (i + 1) * 8, none⟩ 1 1 lb cb hne 42 42 8 cur.size (by simp [World.shape?, hv, Itm.cells]) (by simp [World.shape?, hcur]) (by omega) (frozen_of_row w gv 0 _ _ hv) (frozen_of_row w gv 8 _ _ hv)]
    rfl
  have hz2 : ¬ ((i : Int) = (n : Int)) := by omega
  have hw1 : IntKind.i64.wrap ((i : Int) + 1) = (i : Int) + 1 := by rw [IntKind.wrap_i64]; omega
  have hb1 : (0 : Int) ≤ (i : Int) + 1 := by omega
  have hin : i ≤ n := by omega
  have htn : ((i : Int) + 1).toNat = i + 1 := by omega
  have htn2 : ((n : Int) + 1).toNat = n + 1 := by omega
  have hb2 : ¬ (c = i + 1) := by omega
  have hb3 : (i : Int) ≤ (n : Int) + 1 := by omega
  have hb4 : ¬ (c = i) := by omega
  obtain ⟨cs, hcsd⟩ : ∃ cs, cs = (cellsI l).drop (i * 8) := ⟨_, rfl⟩
  have hdl : cs.length = (n - i) * 8 := by rw [hcsd, List.length_drop, cellsI_len, hn]; omega
  have h1c : ∀ v ∈ cs, v.oneCell' = true := fun v hv => cellsI_one l v (by rw [hcsd] at hv; exact List.mem_of_mem_drop hv)
  have h1v : ∀ v ∈ y.cellsL, v.oneCell' = true := fun u hu => cellsI_one [y] u (by rw [cellsI, cellsI, List.append_nil]; exact hu)
  have hcp1 : ∀ ty dc sc, (Builtin.copy_ #[22, 22] ty #[.slice (some ⟨g, (i + 1) * 8, none⟩) (n - i) dc, .slice (some ⟨g, i * 8, none⟩) (n + 1 - i) sc]).run Tryz.prog w.drew = .ok (goInt (Nat.min (n + 1 - i) (n - i))) (w.drew.setCells g ((i + 1) * 8) cs) := fun ty dc sc =>
    run_copy_items w.drew ty g ((i + 1) * 8) (n - i) dc ⟨g, i * 8, none⟩ (n + 1 - i) sc cs (by rw [hdl]; simp only [Nat.min_def]; split <;> omega)
      (fun j v hj => by
        rw [hcsd, List.getElem?_drop] at hj
        have := hrg _ v hj
        rw [Addr.add_lit]
        rwa [Nat.zero_add] at this)
      (fun j hj => (hth ((i + 1) * 8 + j) 1 (by omega) 0 (by omega)).1) (fun j hj => (hth ((i + 1) * 8 + j) 1 (by omega) 0 (by omega)).2) h1c
  obtain ⟨W1, hW1⟩ : ∃ W1, W1 = w.drew.setCells g ((i + 1) * 8) cs := ⟨_, rfl⟩
  have hbk1 : BK W1 g c := by rw [hW1]; exact BK.store cs _ w.drew hN.2
  have hcp2 : ∀ (W : World), W.heap = W1.heap → ∀ ty dc, (Builtin.copy_ #[22, 22] ty #[.slice (some ⟨g, i * 8, none⟩) (n + 1 - i) dc, .slice (some ⟨gv, 0, none⟩) 1 1]).run Tryz.prog W = .ok (goInt (Nat.min 1 (n + 1 - i))) (W.setCells g (i * 8) y.cellsL) := fun W hWh ty dc =>
    run_copy_items W ty g (i * 8) (n + 1 - i) dc ⟨gv, 0, none⟩ 1 1 y.cellsL (by show 8 = _; simp only [Nat.min_def]; split <;> omega)
      (fun j v hj => by
        have hh : ∀ x, W.cell? x = W1.cell? x := fun x => by simp [World.cell?, hWh]
        rw [Addr.add_lit, hh, hW1, World.cell?_setCells_out g _ _ _ _ (fun h _ => absurd h hne)]
        exact hvc j v hj)
      (fun j hj => by
        have hj8 : j < 8 := hj
        have := (hbk1.there (i * 8 + j) 1 (by omega) 0 (by omega)).1
        rw [show W.cell? ⟨g, i * 8 + j, none⟩ = W1.cell? ⟨g, i * 8 + j, none⟩ by simp [World.cell?, hWh]]
        exact this)
      (fun j hj => by
        have hj8 : j < 8 := hj
        have := (hbk1.there (i * 8 + j) 1 (by omega) 0 (by omega)).2
        rw [show W.frozen? ⟨g, i * 8 + j, none⟩ = W1.frozen? ⟨g, i * 8 + j, none⟩ by simp [World.frozen?, hWh]]
        exact this) h1v
  have hfin : ∀ (W : World), W.heap = W1.heap → Below B w W → NewB (W.setCells g (i * 8) y.cellsL) B c (some ⟨g, 0, none⟩) (insI l i y) ∧ Below B w (W.setCells g (i * 8) y.cellsL) := fun W hWh hbe => by
    have hbkW : BK W g c := by obtain ⟨cu, q⟩ := hbk1; exact ⟨cu, by rw [hWh]; exact q.1, q.2⟩
    refine ⟨.inr ⟨g, rfl, hg, put_in l i y (by omega) (hbkW.store _ _ _) hc ?_ ?_ ?_⟩, below_setCells' hg y.cellsL _ _ hbe⟩
    · refine World.rangeAt_setCells_apart (fun j v hj => ?_) _ _ _ (.inr (.inl (by rw [List.length_take, cellsI_len]; omega)))
      rw [show W.cell? ⟨g, 0 + j, none⟩ = W1.cell? ⟨g, 0 + j, none⟩ by simp [World.cell?, hWh], hW1]
      have hjl := (List.getElem?_eq_some_iff.1 hj).1
      rw [List.length_take, cellsI_len] at hjl
      refine World.rangeAt_setCells_apart (cs := (cellsI l).take (i * 8)) (fun j v hj => ?_) _ _ _ (.inr (.inl (by rw [List.length_take, cellsI_len]; omega))) j v hj
      rw [List.getElem?_take] at hj
      split at hj
      · exact hrg j v hj
      · cases hj
    · exact World.rangeAt_setCells_same _ _ _ _ (hbkW.there _ _ (by show i * 8 + 8 ≤ _; omega))
    · rw [← hcsd]
      refine World.rangeAt_setCells_apart (fun j v hj => ?_) _ _ _ (.inr (.inr (by show i * 8 + 8 ≤ _; omega)))
      rw [show W.cell? ⟨g, (i + 1) * 8 + j, none⟩ = W1.cell? ⟨g, (i + 1) * 8 + j, none⟩ by simp [World.cell?, hWh], hW1]
      exact World.rangeAt_setCells_same _ _ _ _ (by
        have := hth ((i + 1) * 8) cs.length (by omega)
        exact this) j v hj
  have hbe : Below B w W1 := by rw [hW1]; exact below_setCells' hg cs _ _ (Below.refl B w).drew
  rw [← hW1] at hcp1
  have HBE := Lib.hid hbe
  have HFIN := Lib.hid hfin
  have HCP2 := Lib.hid hcp2
  have HW1 := Lib.hid hW1
  clear hfin hbk1 hrg hth hvc hv hN hcs hcur h1c h1v hcp2 hbe hW1
  subst hn
  have hir := info_item
  have mixed : Tryz.prog.follows .mixedOrders = true := by kernel_rfl
  go_enter Tryz.func39, Tryz.ntmps39
  go_wp2_with (simp only [hov])
  go_region_law_o (refine step_copy_runI rfl _ _ 22 22 rfl (.slice (some ⟨g, (i + 1) * 8, none⟩) (l.length - i) (c - (i + 1))) (.slice (some ⟨g, i * 8, none⟩) (l.length + 1 - i) (c - i)) (by simp [Act.eval, Act.put]) (by simp [Act.eval, Act.put]) (hcp1 _ _ _) ?_)
  have hr2 := fun ty => HCP2.out W1 rfl ty (c - i)
  go_wp2_with (simp only [hr2])
  go_ret
  exact ⟨_, c, rfl, HFIN.out _ rfl (by first | exact HBE.out | exact HBE.out.drew)⟩
set_option maxHeartbeats 8000000 in
theorem ins_grow (B : Nat) (g c gv i : Nat) (l : List Itm) (y : Itm) (w : World) (hN : IC w g c l) (hg : B ≤ g) (hi : i < l.length) (hlc : l.length ≤ c) (hc : c < l.length + 1) (hl : l.length ≤ 100000) (hv : w.heap[gv]? = some (.cells y.cells 42 (0, 0))) (hB : B ≤ w.heap.size) :
    Calls Tryz.prog 39 #[.slice (some ⟨g, 0, none⟩) l.length c, .int .i64 i, .slice (some ⟨gv, 0, none⟩) 1 1] w fun e w' => ∃ A' c', e = .returned (.slice A' (l.length + 1) c') ∧ NewB w' B c' A' (insI l i y) ∧ Below B w w' := by
  obtain ⟨n, hn⟩ : ∃ n, n = l.length := ⟨_, rfl⟩
  obtain ⟨i0, hi0, hz0, hzs, hzb⟩ := partsI
  have hrg := range_of_io hN.1
  have hvc : ∀ j u, y.cellsL[j]? = some u → w.cell? ⟨gv, 0 + j, none⟩ = some u := fun j u hj => by
    rw [Nat.zero_add, cell_of_row w gv j y.cells _ (0, 0) hv]
    rw [← itm_cells]
    simpa using hj
  have hgw : g < w.heap.size := hN.1.1
  have hvw : gv < w.heap.size := lt_of_block hv
  obtain ⟨N, hNN⟩ : ∃ N, N = w.heap.size := ⟨_, rfl⟩
  have hz2 : ¬ ((i : Int) = (n : Int)) := by omega
  have hz3 : (c : Int) < (n : Int) + 1 := by omega
  have hw1 : IntKind.i64.wrap ((i : Int) + 1) = (i : Int) + 1 := by rw [IntKind.wrap_i64]; omega
  have hb1 : (0 : Int) ≤ (i : Int) + 1 := by omega
  have hin : i ≤ n := by omega
  have htn : ((i : Int) + 1).toNat = i + 1 := by omega
  have hb3 : (i : Int) ≤ (n : Int) := by omega
  have hci : ¬ (c = i) := by omega
  have hkk : (n : Int) + 1 - (i : Int) = ((n + 1 - i : Nat) : Int) := by omega
  have hik : i + (n + 1 - i) = n + 1 := by omega
  obtain ⟨cs, hcsd⟩ : ∃ cs, cs = (cellsI l).drop (i * 8) := ⟨_, rfl⟩
  obtain ⟨ts, htsd⟩ : ∃ ts, ts = (cellsI l).take (i * 8) := ⟨_, rfl⟩
  have hdl : cs.length = (n - i) * 8 := by rw [hcsd, List.length_drop, cellsI_len, hn]; omega
  have htl : ts.length = i * 8 := by rw [htsd, List.length_take, cellsI_len]; omega
  have hts : ∀ j v, ts[j]? = some v → w.cell? ⟨g, j, none⟩ = some v := fun j v hj => by
    rw [htsd, List.getElem?_take] at hj
    split at hj
    · have := hrg j v hj
      rwa [Nat.zero_add] at this
    · cases hj
  have h1c : ∀ v ∈ cs, v.oneCell' = true := fun v hv => cellsI_one l v (by rw [hcsd] at hv; exact List.mem_of_mem_drop hv)
  have h1v : ∀ v ∈ y.cellsL, v.oneCell' = true := fun u hu => cellsI_one [y] u (by rw [cellsI, cellsI, List.append_nil]; exact hu)
  have hold : (Builtin.firstCells i0.size i (.slice (some ⟨g, 0, none⟩) i c)).run Tryz.prog w.drew = .ok ts.toArray w.drew := by
    rw [hzs]
    exact run_firstCells_some w.drew 8 i ⟨g, 0, none⟩ i c ts htl (fun j v hj => by
      rw [Addr.add_lit, Nat.zero_add]
      exact hts j v hj)
  obtain ⟨G, hG⟩ : ∃ G, G = grownCap w (n + 1) c 42 := ⟨_, rfl⟩
  have hGn : n + 1 ≤ G := by rw [hG]; exact grownCap_ge w _ _ _
  have hGm : G ≤ maxLen := by rw [hG]; exact grownCap_le_maxLen w (n + 1) c 42 (by unfold maxLen; omega)
  obtain ⟨ROW, hROW⟩ : ∃ ROW : Array Value, ROW = ts.toArray ++ Builtin.zeroCells (Value.cells (.agg #[.string ⟨#[]⟩, .int .i64 0, .int .u32 0, .int .u32 0, .int .u32 0, .int .i64 0, .int .i64 0, .string ⟨#[]⟩])) (n + 1 - i) ++ Builtin.zeroCells (Value.cells (.agg #[.string ⟨#[]⟩, .int .i64 0, .int .u32 0, .int .u32 0, .int .u32 0, .int .i64 0, .int .i64 0, .string ⟨#[]⟩])) (G - (n + 1)) := ⟨_, rfl⟩
  have hRs : ROW.size = G * 8 := by
    rw [hROW]
    simp only [Array.size_append, size_zeroCells, List.size_toArray, htl]
    show i * 8 + (n + 1 - i) * 8 + (G - (n + 1)) * 8 = G * 8
    omega
  obtain ⟨W1, hW1⟩ : ∃ W1, W1 = w.drew.alloc (.cells ROW 42) := ⟨_, rfl⟩
  have hrz : ∀ ty, (Builtin.append_ #[22, 3] ty #[.slice (some ⟨g, 0, none⟩) i c, .int .i64 ((n : Int) + 1 - (i : Int))]).run Tryz.prog w = .ok (.slice (some ⟨N, 0, none⟩) (n + 1) G) W1 := fun ty => by
    have h := Lib.run_append_grow_zeros w 22 3 ty 42 i0 _ .i64 .i64 Tryz.underlying22 Tryz.underlying3 hi0 hz0 (some ⟨g, 0, none⟩) i c ts hold (n + 1 - i) (by omega) (by omega) (by omega) (by omega) (by rw [hzb]; omega) (by rw [hzb, hik]; exact growslice_fits (by omega) (by omega))
    rw [hik] at h
    rw [hkk, hNN, hW1, hROW, hG]
    exact h
  have hbk1 : BK W1 N G := by rw [hW1, hNN]; exact ⟨ROW, heap_alloc_new w.drew _, hRs, hGm⟩
  have hOb : ∀ b j v, b < w.heap.size → w.cell? ⟨b, j, none⟩ = some v → W1.cell? ⟨b, j, none⟩ = some v := fun b j v hb h => by rw [hW1, World.cell?_alloc_past (w := w.drew) _ b j hb]; exact h
  have hcpA : ∀ ty dc, (Builtin.copy_ #[22, 22] ty #[.slice (some ⟨N, i * 8, none⟩) (n + 1 - i) dc, .slice (some ⟨gv, 0, none⟩) 1 1]).run Tryz.prog W1 = .ok (goInt (Nat.min 1 (n + 1 - i))) (W1.setCells N (i * 8) y.cellsL) := fun ty dc =>
    run_copy_items W1 ty N (i * 8) (n + 1 - i) dc ⟨gv, 0, none⟩ 1 1 y.cellsL (by show 8 = _; simp only [Nat.min_def]; split <;> omega)
      (fun j v hj => by rw [Addr.add_lit]; exact hOb _ _ v hvw (hvc j v hj))
      (fun j hj => by
        have hj8 : j < 8 := hj
        exact (hbk1.there (i * 8 + j) 1 (by omega) 0 (by omega)).1)
      (fun j hj => by
        have hj8 : j < 8 := hj
        exact (hbk1.there (i * 8 + j) 1 (by omega) 0 (by omega)).2) h1v
  obtain ⟨W2, hW2⟩ : ∃ W2, W2 = W1.setCells N (i * 8) y.cellsL := ⟨_, rfl⟩
  rw [← hW2] at hcpA
  have hbk2 : BK W2 N G := by rw [hW2]; exact hbk1.store _ _ _
  have hgN : g ≠ N := by omega
  have hcpB : ∀ ty dc sc, (Builtin.copy_ #[22, 22] ty #[.slice (some ⟨N, (i + 1) * 8, none⟩) (n - i) dc, .slice (some ⟨g, i * 8, none⟩) (n - i) sc]).run Tryz.prog W2.drew = .ok (goInt (Nat.min (n - i) (n - i))) (W2.drew.setCells N ((i + 1) * 8) cs) := fun ty dc sc =>
    run_copy_items W2.drew ty N ((i + 1) * 8) (n - i) dc ⟨g, i * 8, none⟩ (n - i) sc cs (by rw [hdl]; simp only [Nat.min_def]; split <;> omega)
      (fun j v hj => by
        rw [hcsd, List.getElem?_drop] at hj
        have h := hrg _ v hj
        rw [Nat.zero_add] at h
        rw [Addr.add_lit]
        show W2.cell? _ = _
        rw [hW2, World.cell?_setCells_out _ _ _ _ _ (fun h _ => absurd h hgN)]
        exact hOb g _ v hgw h)
      (fun j hj => (hbk2.there ((i + 1) * 8 + j) 1 (by omega) 0 (by omega)).1)
      (fun j hj => (hbk2.there ((i + 1) * 8 + j) 1 (by omega) 0 (by omega)).2) h1c
  obtain ⟨W3, hW3⟩ : ∃ W3, W3 = W2.drew.setCells N ((i + 1) * 8) cs := ⟨_, rfl⟩
  rw [← hW3] at hcpB
  have hfin : NewB W3 B G (some ⟨N, 0, none⟩) (insI l i y) ∧ Below B w W3 := by
    have hbk3 : BK W3 N G := by rw [hW3]; exact BK.store _ _ W2.drew hbk2
    have hb1 : Below B w W1 := by rw [hW1]; exact (Below.refl B w).drew.alloc hB _
    have hb2 : Below B w W2 := by rw [hW2]; exact below_setCells' (by omega) _ _ _ hb1
    refine ⟨.inr ⟨N, rfl, by omega, put_in l i y (by omega) hbk3 (by omega) ?_ ?_ ?_⟩, by rw [hW3]; exact below_setCells' (by omega) _ _ _ hb2.drew⟩
    · rw [← htsd, hW3]
      refine World.rangeAt_setCells_apart (w := W2.drew) (fun j v hj => ?_) _ _ _ (.inr (.inl (by omega)))
      show W2.cell? _ = _
      rw [hW2]
      refine World.rangeAt_setCells_apart (w := W1) (cs := ts) (fun j v hj => ?_) _ _ _ (.inr (.inl (by omega))) j v hj
      rw [hW1, hNN, Nat.zero_add, World.cell?_alloc_at (w := w.drew) ROW _ w.heap.size j rfl, hROW]
      have hjl : j < ts.length := (List.getElem?_eq_some_iff.1 hj).1
      rw [Array.append_assoc, Array.getElem?_append_left (by simpa using hjl)]
      simpa using hj
    · rw [hW3]
      refine World.rangeAt_setCells_apart (w := W2.drew) (fun j v hj => ?_) _ _ _ (.inr (.inl (by show i * 8 + 8 ≤ _; omega)))
      show W2.cell? _ = _
      rw [hW2]
      exact World.rangeAt_setCells_same _ _ _ _ (hbk1.there _ _ (by show i * 8 + 8 ≤ _; omega)) j v hj
    · rw [← hcsd, hW3]
      exact World.rangeAt_setCells_same _ _ _ _ (BK.there (w := W2.drew) hbk2 _ _ (by omega))
  have hGi : ¬ (G = i) := by omega
  have hGim : ¬ (G = i + 1) := by omega
  have HFIN := Lib.hid hfin
  clear hfin hbk1 hbk2 hrg hvc hv hN h1c h1v hts hold hOb hW1 hW2 hW3 hROW hRs hG htsd htl hcsd hdl hkk hik hz0 hzs hzb hi0 hgN hNN
  subst hn
  have hir := info_item
  have mixed : Tryz.prog.follows .mixedOrders = true := by kernel_rfl
  go_enter Tryz.func39, Tryz.ntmps39
  go_wp2_with (first
    | (at_builtin; refine Lib.wpList_append_run _ rfl _ _ _ _ rfl _ _ rfl rfl _ _ (hrz _) ?_)
    | simp only [hcpA])
  go_region_law_o (refine step_copy_runI rfl _ _ 22 22 rfl (.slice (some ⟨N, (i + 1) * 8, none⟩) (l.length - i) (G - (i + 1))) (.slice (some ⟨g, i * 8, none⟩) (l.length - i) (c - i)) (by simp [Act.eval, Act.put]) (by simp [Act.eval, Act.put]) (hcpB _ _ _) ?_)
  go_wp2_with fail
  go_ret
  exact ⟨_, G, rfl, HFIN.out⟩
theorem insert_any (B : Nat) (A : Option Addr) (c gv i : Nat) (l : List Itm) (y : Itm) (w : World) (hN : NewB w B c A l) (hc : l.length ≤ c) (hi : i ≤ l.length) (hl : l.length ≤ 100000) (hv : w.heap[gv]? = some (.cells y.cells 42 (0, 0))) (hne : ∀ g, A = some ⟨g, 0, none⟩ → gv ≠ g) (hB : B ≤ w.heap.size) :
    Calls Tryz.prog 39 #[.slice A l.length c, .int .i64 i, .slice (some ⟨gv, 0, none⟩) 1 1] w fun e w' => ∃ A' c', e = .returned (.slice A' (l.length + 1) c') ∧ NewB w' B c' A' (insI l i y) ∧ Below B w w' := by
  by_cases h : i = l.length
  · subst h
    exact ins_end B A c gv l y w hN hc hl hv hB
  · rcases hN with ⟨rfl, _⟩ | ⟨g, rfl, hg, hic⟩
    · have : i ≤ 0 := hi
      have : i ≠ 0 := h
      omega
    · by_cases h2 : l.length + 1 ≤ c
      · exact ins_shift B g c gv i l y w hic hg (by omega) h2 hl hv (hne g rfl) hB
      · exact ins_grow B g c gv i l y w hic hg (by omega) hc (by omega) hl hv hB
end Go.Proofs.YtmeapijckncoeaaGreatDoor
