/-
  Trees: the document's Right.
-/
import Derived.Test.YtpkhpaklhfomkaaGreatDoorTpG
import Derived.Test.YtpkhpaklhfomkaaGreatDoorNamQ
import Derived.Test.YtpkhpaklhfomkaaGreatDoorPkJ
import Derived.Deep.RegionHeld3
namespace Go.Proofs.YtpkhpaklhfomkaaGreatDoor
set_option maxRecDepth 100000
set_option linter.unusedSimpArgs false
set_option linter.unusedVariables false
open Go.RowKit Go.Joins Go.Deep
open Go.Lib hiding intOf
/-- The item at a place. -/
def atI (l : List Itm) (i : Nat) : Itm := l[i]?.getD default
/-- May an item be one of a tree? -/
def sndL (x : Itm) : Bool := (chkV x.s).2.2 == 0 && !(chkV x.s).2.1 && ((chkV x.s).1.toList == x.s.toList) && !(decide (x.k < 1)) && !(decide (3 < x.k))
/-- Does an item stand behind the one ahead of it? -/
def ordI (l : List Itm) (k : Nat) : Bool := decide (k = 0) || decide (ordT (atI l (k - 1)).s (atI l k).s < 0)
/-- Is all of it right there? -/
def rowI (l : List Itm) (k : Nat) : Bool := sndL (atI l k) && ordI l k && (kndL l (parB (atI l k).s) == 1)
def rgtI (l : List Itm) : Bool := (List.range l.length).all (rowI l)
theorem rng_all (q : Nat → Bool) (n k : Nat) (h : (List.range k).all q = true) (hk : k < n) (hq : q k = false) : (List.range n).all q = false := by
  rw [List.all_eq_false]
  exact ⟨k, List.mem_range.2 hk, by simp [hq]⟩
theorem rng_more (q : Nat → Bool) (k : Nat) (h : (List.range k).all q = true) (hq : q k = true) : (List.range (k + 1)).all q = true := by
  rw [List.range_succ, List.all_append, h]
  simp [hq]

set_option maxHeartbeats 16000000 in
theorem rright_any (A : Option Addr) (c : Nat) (l : List Itm) (w : World) (hR : Itms w A l) (hl : l.length ≤ 1000) (hs : ∀ x ∈ l, x.s.size ≤ 100000) :
    Calls Tryz.prog 30 #[.slice A l.length c] w fun e w' => e = .returned (.bool (rgtI l)) ∧ Below w.heap.size w w' := by
  have hir := info_item
  have HR := Lib.hid hR
  have HRS := Lib.hid hs
  obtain ⟨V, hV⟩ : ∃ V, V = rgtI l := ⟨_, rfl⟩
  rw [← hV]
  have HV := Lib.hid hV
  have mixed : Tryz.prog.follows .mixedOrders = true := by kernel_rfl
  clear hR hV hs
  go_enter Tryz.func30, Tryz.ntmps30
  go_wp2_with fail
  go_loopw [10] (fun v10 wr => ∃ k : Nat, k ≤ l.length ∧ v10 = .int .i64 (k : Nat) ∧ Hid ((List.range k).all (rowI l) = true) ∧ Hid (Below w.heap.size w wr)) (fun v _ => l.length - (intOf v).toNat)
  case atStart => exact ⟨0, Nat.zero_le _, rfl, rfl, Below.refl _ _⟩
  case round =>
    obtain ⟨k, hk, rfl, HT, HB⟩ := hrel
    by_cases hlt : k < l.length
    case neg =>
      obtain rfl : k = l.length := by omega
      have hd : decide ((l.length : Int) < (l.length : Int)) = false := decide_eq_false (by omega)
      have HF : Hid (V = true) := by show V = true; rw [HV.out]; exact HT.out
      clear HV HT
      go_wp2_with fail
      go_ret
      exact ⟨by rw [HF.out]; rfl, HB.out⟩
    have hd : decide ((k : Int) < (l.length : Int)) = true := decide_eq_true (by omega)
    have HRW := Lib.hid (HR.out.below HB.out)
    obtain ⟨b, off, rfl, hb, hcc⟩ := HRW.out (by omega)
    obtain ⟨c0, c1, c2, c3, c4, c5, c6, c7⟩ := hcc k l[k] (List.getElem?_eq_getElem hlt)
    have HCC := Lib.hid hcc
    have HBAD : Hid (rowI l k = false → V = false) := fun h => by rw [HV.out]; exact rng_all _ _ _ HT.out hlt h
    have HMORE : Hid (rowI l k = true → (List.range (k + 1)).all (rowI l) = true) := fun h => rng_more _ _ HT.out h
    have HATK : Hid (atI l k = l[k]) := by show l[k]?.getD default = _; rw [List.getElem?_eq_getElem hlt]; rfl
    have HS := Lib.hid (HRS.out l[k] (List.getElem_mem hlt))
    have hx0 := heap_alloc_new wr (.cells l[k].cells 33)
    have hba := below_al wr (.cells l[k].cells 33)
    have HB2 := Lib.hid (below_then HB.out hba)
    simp only [Itm.cells] at hx0 HB2 hba
    generalize l[k] = x at *
    obtain ⟨x0, x1, x2, x3, x4, x5, x6, x7⟩ := x
    dsimp only at c0 c1 c2 c3 c4 c5 c6 c7 HB2 hx0 HS hba
    have HCK := Lib.hid (fun w => rcheck_any x0 w)
    have HHX := Lib.hid hx0
    have d0 := (cell_of_row _ _ 0 _ _ _ hx0).trans (show _ = some (.string x0) from rfl)
    have HBA := Lib.hid hba
    clear hcc hx0 hba HT HV
    have HCV : Hid (chkV x0 = ((chkV x0).1, (chkV x0).2.1, (chkV x0).2.2)) := rfl
    generalize (chkV x0).1 = V1 at *
    generalize (chkV x0).2.1 = V2 at *
    generalize (chkV x0).2.2 = V3 at *
    go_wp2_with fail
    refine (HCK.out _).mono ?_; rintro e w2 ⟨rfl, hb2⟩
    have HB3 := Lib.hid (below_then HB2.out hb2)
    have HBC := Lib.hid (HBA.out.trans (hb2.mono HBA.out.size))
    have hx2 := (hb2.block _ (lt_of_block HHX.out)).trans HHX.out
    have e0 := (cell_of_row _ _ 0 _ _ _ hx2).trans (show _ = some (.string x0) from rfl)
    have e1 := (cell_of_row _ _ 1 _ _ _ hx2).trans (show _ = some (.int .i64 x1) from rfl)
    have HX2 := Lib.hid hx2
    generalize hgx : wr.heap.size = gx at *
    clear hb2 d0 HHX HB2 hx2 HCK c0 c1 c2 c3 c4 c5 c6 c7 HBA
    have HROW : Hid (rowI l k = (((((V3 == 0) && !V2 && (V1.toList == x0.toList)) && !(decide (x1 < 1))) && !(decide (3 < x1))) && ordI l k && (kndL l (parB x0) == 1))) := by
      show rowI l k = _
      unfold rowI sndL
      rw [HATK.out]
      dsimp only
      rw [HCV.out]
    clear HCV
    by_cases h3 : V3 = 0
    case neg =>
      have HF : Hid (V = false) := HBAD.out (by rw [HROW.out, beq_eq_false_iff_ne.2 h3]; simp)
      clear HBAD HMORE HR HS HROW HATK HX2 HBC HCC HRW
      go_wp2_with fail
      go_ret
      exact ⟨by rw [HF.out]; rfl, HB3.out⟩
    subst h3
    cases V2 with
    | true =>
      have HF : Hid (V = false) := HBAD.out (by rw [HROW.out]; simp)
      clear HBAD HMORE HR HS HROW HATK HX2 HBC HCC HRW
      go_wp2_with fail
      go_ret
      exact ⟨by rw [HF.out]; rfl, HB3.out⟩
    | false =>
    by_cases h1 : (V1.toList == x0.toList) = true
    case neg =>
      have h1 := Bool.eq_false_iff.2 h1
      have HF : Hid (V = false) := HBAD.out (by rw [HROW.out, h1]; simp)
      clear HBAD HMORE HR HS HROW HATK HX2 HBC HCC HRW
      go_wp2_with fail
      go_ret
      exact ⟨by rw [HF.out]; rfl, HB3.out⟩
    by_cases hlo : x1 < 1
    · have g1 : decide (x1 < 1) = true := decide_eq_true hlo
      have HF : Hid (V = false) := HBAD.out (by rw [HROW.out, g1]; simp)
      clear HBAD HMORE HR HS HROW HATK HX2 HBC HCC HRW
      go_wp2_with fail
      go_ret
      exact ⟨by rw [HF.out]; rfl, HB3.out⟩
    have g1 : decide (x1 < 1) = false := decide_eq_false hlo
    by_cases hhi : 3 < x1
    · have g2 : decide (3 < x1) = true := decide_eq_true hhi
      have HF : Hid (V = false) := HBAD.out (by rw [HROW.out, g2]; simp)
      clear HBAD HMORE HR HS HROW HATK HX2 HBC HCC HRW
      go_wp2_with fail
      go_ret
      exact ⟨by rw [HF.out]; rfl, HB3.out⟩
    have g2 : decide (3 < x1) = false := decide_eq_false hhi
    have HROW2 : Hid (rowI l k = (ordI l k && (kndL l (parB x0) == 1))) := by
      show rowI l k = _
      rw [HROW.out, h1, g1, g2]
      rfl
    clear HROW
    have HPA := Lib.hid (fun w => rparent_any x0 w (by have := HS.out; omega))
    have HKD := Lib.hid (fun w1 (hb : Below wr.heap.size wr w1) => rkind_any (some ⟨b, off, none⟩) c l (parB x0) w1 (HRW.out.below hb) (by omega))
    rw [hgx] at HKD
    by_cases hk0 : k = 0
    · subst hk0
      have HROW3 : Hid (rowI l 0 = (kndL l (parB x0) == 1)) := by
        show rowI l 0 = _
        rw [HROW2.out]
        unfold ordI
        rfl
      clear HROW2
      go_wp2
      generalize kndL l (parB x0) = K at *
      go_region
      go_wp2_with fail
      refine (HPA.out _).mono ?_; rintro e w7 ⟨rfl, rfl⟩
      go_wp2_with fail
      refine (HKD.out _ HBC.out.drew).mono ?_; rintro e w8 ⟨rfl, hb8⟩
      have HB8 := Lib.hid (below_then HB3.out.drew hb8)
      clear hb8 HKD HPA
      by_cases hkn : K = 1
      · have HT2 := Lib.hid (HMORE.out (by rw [HROW3.out, hkn]; rfl))
        clear HMORE HBAD HROW3
        go_wp2_with fail
        go_roundw
        case rel => exact ⟨0 + 1, by omega, by go_num, HT2, HB8⟩
        case measure => simp [intOf]; omega
      · have HF : Hid (V = false) := HBAD.out (by rw [HROW3.out, beq_eq_false_iff_ne.2 hkn])
        clear HMORE HBAD HROW3 HR HRS HS
        go_wp2_with fail
        go_ret
        exact ⟨by rw [HF.out]; rfl, HB8.out⟩
    · obtain ⟨j, rfl⟩ : ∃ j, k = j + 1 := ⟨k - 1, by omega⟩
      have hI0 : (0 : Int) < (j : Int) + 1 := by omega
      have hI3 : IntKind.i64.wrap (j : Int) = j := by rw [IntKind.wrap_i64]; omega
      have hI6 : (0 : Int) ≤ (j : Int) + 1 := by omega
      have hI7 : (j : Int) + 1 < (l.length : Int) := by omega
      have hjl : j < l.length := by omega
      have q0 := (HCC.out j l[j] (List.getElem?_eq_getElem hjl)).1
      have HAJ : Hid (atI l (j + 1 - 1) = l[j]) := by show l[j + 1 - 1]?.getD default = _; rw [Nat.add_sub_cancel, List.getElem?_eq_getElem hjl]; rfl
      have HSJ := Lib.hid (HRS.out l[j] (List.getElem_mem hjl))
      generalize l[j] = z at *
      obtain ⟨z0, z1, z2, z3, z4, z5, z6, z7⟩ := z
      dsimp only at q0 HSJ
      have q0 := (HBC.out.cell (p := ⟨b, off + j * 8, none⟩) (show b < gx from hb)).trans q0
      have HORD := Lib.hid (fun w => rorder_any z0 x0 w HSJ.out HS.out)
      have HROW3 : Hid (rowI l (j + 1) = (decide (ordT z0 x0 < 0) && (kndL l (parB x0) == 1))) := by
        show rowI l (j + 1) = _
        rw [HROW2.out]
        unfold ordI
        rw [HAJ.out, HATK.out, decide_eq_false (by omega : ¬ (j + 1 = 0))]
        rfl
      generalize ordT z0 x0 = o at *
      have hI1 : IntKind.i64.wrap ((j : Int) + 1 - 1) = j := by rw [IntKind.wrap_i64]; omega
      have hI2 : (j : Int) < (l.length : Int) := by omega
      have HK : Hid (∀ w5, Below w2.heap.size w2 w5 → w5.cell? ⟨b, off + j * 8, none⟩ = some (.string z0) ∧ w5.cell? ⟨gx, 0, none⟩ = some (.string x0)) := fun w5 h5 => ⟨(h5.cell (Nat.lt_of_lt_of_le hb (by have := HBC.out.size; omega))).trans q0, (h5.cell (lt_of_block HX2.out)).trans e0⟩
      have k0 : w2.cell? ⟨b, off + j * 8, none⟩ = some (.string z0) ∧ w2.cell? ⟨gx, 0, none⟩ = some (.string x0) := ⟨q0, e0⟩
      clear HROW2 hk0 HAJ HSJ HCC HATK
      go_wp2
      go_region_held3 (fun w' => w'.cell? ⟨b, off + j * 8, none⟩ = some (.string z0) ∧ w'.cell? ⟨gx, 0, none⟩ = some (.string x0)) (first | exact k0 | exact k1) ((go_at_call 54; (with_reducible refine (HORD.out _).mono ?_); rintro e w6 ⟨rfl, hb6⟩; have k1 := HK.out w6 (by exact ⟨hb6.os, hb6.tape, hb6.output, hb6.size, hb6.block⟩)))
      have HB6 := Lib.hid (below_then HB3.out.drew hb6)
      have HBC6 := Lib.hid (HBC.out.trans ((Below.refl _ w2).drew.trans hb6 |>.mono (show gx ≤ w2.heap.size by have := HBC.out.size; omega)))
      clear hb6
      generalize kndL l (parB x0) = K at *
      by_cases ho : o < 0
      case neg =>
        have ho1 : (0 : Int) ≤ o := by omega
        have HF : Hid (V = false) := HBAD.out (by rw [HROW3.out, decide_eq_false ho, Bool.false_and])
        clear HMORE HBAD HROW3 HR HRS HS
        go_wp2_with fail
        go_ret
        exact ⟨by rw [HF.out]; rfl, HB6.out⟩
      have ho1 : ¬ (0 : Int) ≤ o := by omega
      replace HROW3 : Hid (rowI l (j + 1) = (K == 1)) := by show _ = _; rw [HROW3.out, decide_eq_true ho, Bool.true_and]
      go_wp2_with fail
      refine (HPA.out _).mono ?_; rintro e w7 ⟨rfl, rfl⟩
      go_wp2_with fail
      refine (HKD.out _ HBC6.out).mono ?_; rintro e w8 ⟨rfl, hb8⟩
      have HB8 := Lib.hid (below_then HB6.out hb8)
      clear hb8 HKD HPA
      by_cases hkn : K = 1
      · have HT2 := Lib.hid (HMORE.out (by rw [HROW3.out, hkn]; rfl))
        clear HMORE HBAD HROW3
        go_wp2_with fail
        go_roundw
        case rel => exact ⟨j + 1 + 1, by omega, by go_num, HT2, HB8⟩
        case measure => simp [intOf]; omega
      · have HF : Hid (V = false) := HBAD.out (by rw [HROW3.out, beq_eq_false_iff_ne.2 hkn])
        clear HMORE HBAD HROW3 HR HRS HS
        go_wp2_with fail
        go_ret
        exact ⟨by rw [HF.out]; rfl, HB8.out⟩
end Go.Proofs.YtpkhpaklhfomkaaGreatDoor
