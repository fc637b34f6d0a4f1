/-
  Glob: is a rune an atom's (is, has).
-/
import Derived.Test.YtkakegeammajgaaDoorGlF
import Derived.Deep.RegionHeld3
import Derived.BigQuiet
namespace Go.Proofs.YtkakegeammajgaaDoor
set_option maxRecDepth 100000
open Go.RowKit Go.Joins Go.Deep

set_option maxHeartbeats 2000000 in
theorem clo_range (p : Int × Int) (r : Int) (g : Nat) (w : World) (hg : g < w.heap.size) (hc : w.cell? ⟨g, 0, none⟩ = some (.int .i32 r)) :
    Calls Tryd.prog 37 #[.agg #[.int .i32 p.1, .int .i32 p.2], .pointer (some ⟨g, 0, none⟩)] w fun e w' => e = .returned (.bool (decide (p.1 ≤ r) && decide (r ≤ p.2))) ∧ Below w.heap.size w w' := by
  obtain ⟨lo, hi⟩ := p
  dsimp only
  have hc2 := ((below_al w (.cells #[.int .i32 lo, .int .i32 hi] 73)).cell (p := ⟨g, 0, none⟩) hg).trans hc
  have hne : g ≠ w.heap.size := by omega
  by_cases h1 : lo ≤ r
  · have d1 : decide (lo ≤ r) = true := decide_eq_true h1
    go_enter Tryd.func37, Tryd.ntmps37
    go_wp2_with fail
    go_ret
    exact ⟨by rw [d1]; rfl, below_al w _⟩
  · have d1 : decide (lo ≤ r) = false := decide_eq_false h1
    go_enter Tryd.func37, Tryd.ntmps37
    go_wp2_with fail
    go_ret
    exact ⟨rfl, below_al w _⟩
def hasI (rs : List (Int × Int)) (r : Int) : Bool := rs.any fun p => decide (p.1 ≤ r) && decide (r ≤ p.2)
theorem any_take {α : Type} (l : List α) (P : α → Bool) (k : Nat) (h : k < l.length) : (l.take (k + 1)).any P = ((l.take k).any P || P l[k]) := by
  rw [List.take_succ_eq_append_getElem h, List.any_append]
  simp
set_option maxHeartbeats 4000000 in
theorem indexR_any (rs : List (Int × Int)) (r : Int) (g : Nat) (A : Option Addr) (c : Nat) (w : World) (hg : g < w.heap.size) (hc : w.cell? ⟨g, 0, none⟩ = some (.int .i32 r)) (hR : Rgs w .i32 A rs) (hl : rs.length ≤ 1000000) :
    Calls Tryd.prog 38 #[.slice A rs.length c, .func (.func 37) #[] #[.pointer (some ⟨g, 0, none⟩)]] w fun e w' => ∃ ix : Int, e = .returned (.int .i64 ix) ∧ decide (0 ≤ ix) = hasI rs r ∧ Below w.heap.size w w' := by
  have hir := info_range
  have HC := Lib.hid hc
  have HR := Lib.hid hR
  have HG := Lib.hid hg
  clear hc hR hg
  go_enter Tryd.func38, Tryd.ntmps38
  go_wp2_with fail
  go_loopw [5, 8] (fun _ i wr => ∃ k : Nat, k ≤ rs.length ∧ i = .int .i64 (k : Nat) ∧ Hid ((rs.take k).any (fun p => decide (p.1 ≤ r) && decide (r ≤ p.2)) = false) ∧ Hid (Below w.heap.size w wr)) (fun _ i _ => rs.length - (intOf i).toNat)
  case atStart => exact ⟨0, Nat.zero_le _, rfl, by show List.any [] _ = _; rfl, Below.refl _ _⟩
  case round =>
    obtain ⟨k, hk, rfl, HF, HB⟩ := hrel
    by_cases hlt : k < rs.length
    · obtain ⟨b, off, rfl, hb, hcc⟩ := (HR.out.below (Nat.le_refl _) HB.out) (by omega)
      obtain ⟨c0, c1⟩ := hcc k hlt
      have HQ := Lib.hid (any_take rs (fun p => decide (p.1 ≤ r) && decide (r ≤ p.2)) k hlt)
      rw [show rs.getD k (0, 0) = rs[k] by rw [List.getD_eq_getElem?_getD, List.getElem?_eq_getElem hlt]; rfl] at c0 c1
      have HCL := Lib.hid (clo_range rs[k] r g wr (Nat.lt_of_lt_of_le HG.out HB.out.size) ((HB.out.cell (p := ⟨g, 0, none⟩) HG.out).trans HC.out))
      have HM := Lib.hid (List.getElem_mem hlt)
      generalize hp : rs[k] = pp at *
      clear hcc hp
      obtain ⟨lo, hi⟩ := pp
      dsimp only at *
      generalize hV : (decide (lo ≤ r) && decide (r ≤ hi)) = V at *
      go_wp2_with fail
      refine HCL.out.mono ?_; rintro e w5 ⟨rfl, hb5⟩
      have HB5 := Lib.hid (below_then HB.out hb5)
      clear hb5
      have HVV := Lib.hid hV
      clear hV
      cases V with
      | true =>
        go_wp2_with fail
        go_ret
        refine ⟨(k : Nat), rfl, ?_, HB5.out⟩
        rw [decide_eq_true (by omega)]
        exact (List.any_eq_true.2 ⟨(lo, hi), HM.out, HVV.out⟩).symm
      | false =>
        go_wp2_with fail
        go_roundw
        case rel => exact ⟨k + 1, by omega, by go_num, by show _ = _; rw [HQ.out, HF.out]; rfl, HB5⟩
        case measure => simp [intOf]; omega
    · obtain rfl : k = rs.length := by omega
      go_wp2_with fail
      go_ret
      refine ⟨-1, rfl, ?_, HB.out⟩
      have h := HF.out
      rw [List.take_length] at h
      exact h.symm
set_option maxHeartbeats 2000000 in
theorem containsR_any (rs : List (Int × Int)) (r : Int) (g : Nat) (A : Option Addr) (c : Nat) (w : World) (hg : g < w.heap.size) (hc : w.cell? ⟨g, 0, none⟩ = some (.int .i32 r)) (hR : Rgs w .i32 A rs) (hl : rs.length ≤ 1000000) :
    Calls Tryd.prog 36 #[.slice A rs.length c, .func (.func 37) #[] #[.pointer (some ⟨g, 0, none⟩)]] w fun e w' => e = .returned (.bool (hasI rs r)) ∧ Below w.heap.size w w' := by
  have HI := Lib.hid (indexR_any rs r g A c w hg hc hR hl)
  clear hg hc hR
  go_enter Tryd.func36, Tryd.ntmps36
  go_wp2_with fail
  refine HI.out.mono ?_; rintro e w1 ⟨ix, rfl, hx, hb⟩
  have HX := Lib.hid hx
  have HB := Lib.hid hb
  clear hx hb
  go_wp2_with fail
  go_ret
  exact ⟨by rw [← HX.out]; rfl, HB.out⟩
/-- An atom lies there. -/
def AtC (w : World) (b off : Nat) (x : Atm) : Prop := b < w.heap.size ∧ w.cell? ⟨b, off, none⟩ = some (.int .i64 x.k) ∧ w.cell? ⟨b, off + 1, none⟩ = some (.int .i32 x.r) ∧ w.cell? ⟨b, off + 2, none⟩ = some (.bool x.n) ∧ ∃ Ai ci, w.cell? ⟨b, off + 3, none⟩ = some (.slice Ai x.rs.length ci) ∧ Rgs w .i32 Ai x.rs
set_option maxHeartbeats 2000000 in
theorem has_any (x : Atm) (r : Int) (b off : Nat) (w : World) (hA : AtC w b off x) (hl : x.rs.length ≤ 1000000) :
    Calls Tryd.prog 34 #[.pointer (some ⟨b, off, none⟩), .int .i32 r] w fun e w' => e = .returned (.bool (hasI x.rs r)) ∧ Below w.heap.size w w' := by
  obtain ⟨hb, _, _, _, Ai, ci, c3, hR⟩ := hA
  have hmf : ∀ (fn : Fn) (first cap : Array Value) (w : World), (Instr.makeFunc fn first cap).run Tryd.prog w = .ok (.func fn first cap) w := fun _ _ _ _ => rfl
  have hal := below_al w (.cells #[.int .i32 r] 21)
  have c3' := (hal.cell (p := ⟨b, off + 3, none⟩) hb).trans c3
  have HCT := Lib.hid (containsR_any x.rs r w.heap.size Ai ci (w.alloc (.cells #[.int .i32 r] 21)) (by simp) ((cell_of_row _ _ 0 _ _ _ (heap_alloc_new w _)).trans rfl) (hR.below (Nat.le_refl _) hal) hl)
  have HAL := Lib.hid hal
  generalize x.rs = rs at *
  clear hal c3 hR
  go_enter Tryd.func34, Tryd.ntmps34
  go_wp2_with fail
  refine HCT.out.mono ?_; rintro e w1 ⟨rfl, hb1⟩
  have HB1 := Lib.hid (below_then HAL.out hb1)
  clear hb1
  go_wp2_with fail
  go_ret
  exact ⟨rfl, HB1.out⟩
theorem AtC.below {w w' : World} {b off : Nat} {x : Atm} (h : AtC w b off x) (hb : Below w.heap.size w w') : AtC w' b off x := by
  obtain ⟨hlt, c0, c1, c2, Ai, ci, c3, hr⟩ := h
  exact ⟨Nat.lt_of_lt_of_le hlt hb.size, (hb.cell (p := ⟨b, off, none⟩) hlt).trans c0, (hb.cell (p := ⟨b, off + 1, none⟩) hlt).trans c1, (hb.cell (p := ⟨b, off + 2, none⟩) hlt).trans c2, Ai, ci, (hb.cell (p := ⟨b, off + 3, none⟩) hlt).trans c3, hr.below (Nat.le_refl _) hb⟩
def takI (x : Atm) (r : Int) : Bool := if x.k = 1 then decide (x.r = r) else if x.k = 2 then true else decide (x.k = 4) && (hasI x.rs r != x.n)
theorem takI_nat (x : Atm) (n : Nat) : takI x (n : Nat) = takA x n := rfl
set_option maxHeartbeats 4000000 in
theorem is_any (x : Atm) (r : Int) (b off : Nat) (w : World) (hA : AtC w b off x) (hl : x.rs.length ≤ 1000000) :
    Calls Tryd.prog 28 #[.pointer (some ⟨b, off, none⟩), .int .i32 r] w fun e w' => e = .returned (.bool (takI x r)) ∧ Below w.heap.size w w' := by
  have HH := Lib.hid (fun w1 h => has_any x r b off w1 h hl)
  have hT : takI x r = if x.k = 1 then decide (x.r = r) else if x.k = 2 then true else decide (x.k = 4) && (hasI x.rs r != x.n) := rfl
  have HA := Lib.hid hA
  obtain ⟨hb, c0, c1, c2, Ai, ci, c3, hR⟩ := hA
  obtain ⟨k, xr, nt, rs⟩ := x
  dsimp only at *
  generalize takI ⟨k, xr, nt, rs⟩ r = T at *
  clear c3 hR
  by_cases h1 : k = 1
  · subst h1
    have hT' := hT.trans (if_pos rfl)
    subst hT'
    clear HH hT
    go_enter Tryd.func28, Tryd.ntmps28
    go_wp2_with fail
    go_ret
    exact ⟨rfl, Below.refl _ _⟩
  · have g1 : (k == 1) = false := by rw [beq_eq_false_iff_ne]; exact h1
    rw [if_neg h1] at hT
    by_cases h2 : k = 2
    · subst h2
      rw [if_pos rfl] at hT
      subst hT
      clear HH h1
      go_enter Tryd.func28, Tryd.ntmps28
      go_wp2_with fail
      go_ret
      exact ⟨rfl, Below.refl _ _⟩
    · have g2 : (k == 2) = false := by rw [beq_eq_false_iff_ne]; exact h2
      rw [if_neg h2] at hT
      by_cases h4 : k = 4
      · subst h4
        rw [decide_eq_true rfl, Bool.true_and] at hT
        have HT := Lib.hid hT
        clear hT h1 h2
        generalize hasI rs r = H at *
        go_enter Tryd.func28, Tryd.ntmps28
        have HK : Hid (∀ a : World, Below w.heap.size w a → Calls Tryd.prog 34 #[.pointer (some ⟨b, off, none⟩), .int .i32 r] a fun e w' => e = .returned (.bool H) ∧ w'.cell? ⟨b, off + 2, none⟩ = some (.bool nt) ∧ Below w.heap.size w w') := by
          intro a ha
          refine (HH.out a (HA.out.below ha)).mono ?_
          rintro e w' ⟨rfl, h⟩
          have h2 := below_then ha h
          exact ⟨rfl, (h2.cell (p := ⟨b, off + 2, none⟩) hb).trans c2, h2⟩
        have HB := Lib.hid (Below.refl w.heap.size w)
        clear HH HA
        go_upto_region 7 with fail
        go_region_held3 (fun w' => w'.cell? ⟨b, off + 2, none⟩ = some (.bool nt)) (go_keep) ((go_at_call 34; (refine (HK.out _ (by first | exact HB.out | exact HB.out.drew)).mono ?_); rintro e wy ⟨rfl, n0, nb⟩))
        go_wp2
        go_ret
        exact ⟨by rw [HT.out]; cases H <;> cases nt <;> rfl, nb⟩
      · have g4 : (k == 4) = false := by rw [beq_eq_false_iff_ne]; exact h4
        rw [decide_eq_false h4, Bool.false_and] at hT
        subst hT
        clear HH h1 h2 h4
        go_enter Tryd.func28, Tryd.ntmps28
        go_wp2_with fail
        go_ret
        exact ⟨rfl, Below.refl _ _⟩
end Go.Proofs.YtkakegeammajgaaDoor
