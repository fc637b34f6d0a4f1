/-
 slices.SortStableFunc over signs: what compares; the insertion sort; f is the order that the sort keeps (a sign's count, then its place).
 slices.SortStableFunc over signs, as far as its merging is known.
 weigh: contract of coming.
 The library's swapRange and rotate, over signs.
 The library's symMerge, over signs: where one of the two parts is one sign.
 The library's symMerge, over signs: where the second part is one sign.
-/
import Derived.Test.YtmkeicfklbepnaaGreatWm1
import Derived.BigQuiet
import Derived.BigRegion

namespace Go.Proofs.YtmkeicfklbepnaaGreat.We
open Go.RowKit

def cmpI (x y : Nat) : Int := if x < y then -1 else if y < x then 1 else 0

theorem nan_any (x : Int) (w : World) : Calls Tryz.prog 127 #[.int .u32 x] w fun e w' => e = .returned (.bool false) ∧ w' = w := by
 go_enter Tryz.func127, Tryz.ntmps127
 go_wp2
 go_ret
 exact ⟨rfl, rfl⟩
set_option maxHeartbeats 2000000 in
theorem compare_any (x y : Nat) (w : World) : Calls Tryz.prog 119 #[.int .u32 x, .int .u32 y] w fun e w' => e = .returned (.int .i64 (cmpI x y)) ∧ w' = w := by
 go_enter Tryz.func119, Tryz.ntmps119
 go_wp2_with (go_at_call 127; refine (nan_any _ _).mono ?_; rintro e w' ⟨rfl, rfl⟩)
 ·have h1 : x < y := by assumption
  go_ret
  exact ⟨by rw [cmpI, if_pos h1]; rfl, rfl⟩
 ·have h1 : ¬ x < y := by assumption
  have h2 : y < x := by assumption
  go_ret
  exact ⟨by rw [cmpI, if_neg h1, if_pos h2]; rfl, rfl⟩
 ·have h1 : ¬ x < y := by assumption
  have h2 : ¬ y < x := by assumption
  go_ret
  exact ⟨by rw [cmpI, if_neg h1, if_neg h2]; rfl, rfl⟩

set_option maxHeartbeats 4000000 in
/-- The function that compares two signs by their counts. -/
theorem cmp_any (pc : Nat) (A : Option Addr) (n capA : Nat) (f : Nat → Nat) (a b : Nat) (w : World) (hC : Cts w A n f) (hp : w.cell? ⟨pc, 0, none⟩ = some (.slice A n capA)) (ha : a < n) (hb : b < n) :
  Calls Tryz.prog 118 #[.int .i64 a, .int .i64 b, .pointer (some ⟨pc, 0, none⟩)] w fun e w' => e = .returned (.int .i64 (cmpI (f a) (f b))) ∧ ∃ d, w' = w.drewN d := by
 obtain ⟨bk, off, rfl, hbl, hc⟩ := hC (by omega)
 have c1 := (hc a ha).1
 have c2 := (hc b hb).1
 clear hc hC
 generalize f a = x at *
 generalize f b = y at *
 go_enter Tryz.func118, Tryz.ntmps118
 go_wp2
 go_quiet (first | (go_at_call 119; exact Calls.quiet_of_same (compare_any _ _ _)))
 go_wp2
 go_ret
 exact ⟨rfl, _, rfl⟩

/-! ## Lists of signs, moved about -/
def at0 (S : List Nat) (k : Nat) : Nat := S[k]?.getD 0
/-- Only what stands from a on, short of b, was moved. -/
structure Mov (a b : Nat) (S S' : List Nat) : Prop where
 len : S'.length = S.length
 perm : S'.Perm S
 out : ∀ k, k < a ∨ b ≤ k → at0 S' k = at0 S k
 ins : ∀ i, a ≤ i → i < b → ∃ i', a ≤ i' ∧ i' < b ∧ at0 S' i = at0 S i'
theorem Mov.refl (a b : Nat) (S : List Nat) : Mov a b S S := ⟨rfl, List.Perm.refl _, fun _ _ => rfl, fun i h1 h2 => ⟨i, h1, h2, rfl⟩⟩
theorem Mov.trans {a b : Nat} {S S' S'' : List Nat} (h : Mov a b S S') (k : Mov a b S' S'') : Mov a b S S'' :=
 ⟨k.len.trans h.len, k.perm.trans h.perm, fun i hi => (k.out i hi).trans (h.out i hi), fun i h1 h2 => by
  obtain ⟨i', h3, h4, h5⟩ := k.ins i h1 h2
  obtain ⟨i'', h6, h7, h8⟩ := h.ins i' h3 h4
  exact ⟨i'', h6, h7, h5.trans h8⟩⟩
theorem Mov.wide {a b a' b' : Nat} {S S' : List Nat} (h : Mov a b S S') (ha : a' ≤ a) (hb : b ≤ b') : Mov a' b' S S' :=
 ⟨h.len, h.perm, fun k hk => h.out k (by omega), fun i h1 h2 => by
  by_cases hi : a ≤ i ∧ i < b
  ·obtain ⟨i', h3, h4, h5⟩ := h.ins i hi.1 hi.2
   exact ⟨i', by omega, by omega, h5⟩
  ·exact ⟨i, h1, h2, h.out i (by omega)⟩⟩
def swp (S : List Nat) (i j : Nat) : List Nat := (S.set i (at0 S j)).set j (at0 S i)
theorem swp_at (S : List Nat) (i j k : Nat) (hi : i < S.length) (hj : j < S.length) : at0 (swp S i j) k = if k = j then at0 S i else if k = i then at0 S j else at0 S k := by
 unfold swp
 show (((S.set i (at0 S j)).set j (at0 S i))[k]?).getD 0 = _
 rw [List.getElem?_set, List.getElem?_set, List.length_set]
 by_cases h1 : j = k
 ·subst h1; simp [hj]
 ·have h1' : ¬ k = j := fun e => h1 e.symm
  by_cases h2 : i = k
  ·subst h2; simp [h1, h1', hi]
  ·have h2' : ¬ k = i := fun e => h2 e.symm
   simp [h1, h1', h2, h2', at0]
theorem swp_mov (S : List Nat) (a b i j : Nat) (hi : i < S.length) (hj : j < S.length) (h1 : a ≤ i ∧ i < b) (h2 : a ≤ j ∧ j < b) : Mov a b S (swp S i j) := by
 refine ⟨by simp [swp], ?_, fun k hk => ?_, fun k h3 h4 => ?_⟩
 ·have e : ∀ k (h : k < S.length), at0 S k = S[k] := fun k h => by simp [at0, List.getElem?_eq_getElem h]
  unfold swp
  rw [e i hi, e j hj]
  exact List.set_set_perm hi hj
 ·rw [swp_at S i j k hi hj, if_neg (by omega), if_neg (by omega)]
 ·rw [swp_at S i j k hi hj]
  by_cases e1 : k = j
  ·rw [if_pos e1]; exact ⟨i, h1.1, h1.2, rfl⟩
  ·rw [if_neg e1]
   by_cases e2 : k = i
   ·rw [if_pos e2]; exact ⟨j, h2.1, h2.2, rfl⟩
   ·rw [if_neg e2]; exact ⟨k, h3, h4, rfl⟩
/-- Sorted by f from a on, short of b. -/
def SrtOn (f : Nat → Nat) (a b : Nat) (S : List Nat) : Prop := ∀ i j, a ≤ i → i ≤ j → j < b → f (at0 S i) ≤ f (at0 S j)

def iv (x : Nat) : Value := .int .i64 (x : Nat)
/-- The signs' own row. -/
def SnO (w : World) (base gd m cap : Nat) (S : List Nat) : Prop := S.length = m ∧ w.ownsRow base 3 1 (.slice (some ⟨gd, 0, none⟩) m cap) m (S.map iv)
theorem SnO.cell {w : World} {base gd m cap : Nat} {S : List Nat} (h : SnO w base gd m cap S) (k : Nat) (hk : k < m) : w.cell? ⟨gd, k, none⟩ = some (.int .i64 (at0 S k : Nat)) := by
 rw [h.2.cellAt k (by omega), List.getElem?_map, at0, List.getElem?_eq_getElem (by rw [h.1]; exact hk)]
 rfl
theorem SnO.frozen {w : World} {base gd m cap : Nat} {S : List Nat} (h : SnO w base gd m cap S) (k : Nat) : w.frozen? ⟨gd, k, none⟩ = false := h.2.frozenAt k
theorem SnO.drewN {w : World} {base gd m cap : Nat} {S : List Nat} (h : SnO w base gd m cap S) (d : Nat) : SnO (w.drewN d) base gd m cap S := h
theorem SnO.drew {w : World} {base gd m cap : Nat} {S : List Nat} (h : SnO w base gd m cap S) : SnO w.drew base gd m cap S := h
theorem SnO.swap {w : World} {base gd m cap : Nat} {S : List Nat} (h : SnO w base gd m cap S) (i j : Nat) :
  SnO ((w.setCell ⟨gd, i, none⟩ (.int .i64 (at0 S j : Nat))).setCell ⟨gd, j, none⟩ (.int .i64 (at0 S i : Nat))) base gd m cap (swp S i j) := by
 refine ⟨by simp [swp, h.1], ?_⟩
 have h1 := (h.2.stored i (.int .i64 (at0 S j : Nat))).1
 have h2 := (h1.stored j (.int .i64 (at0 S i : Nat))).1
 unfold swp
 rw [List.map_set, List.map_set]
 exact h2
theorem gdrewN (w : World) (d : Nat) (row : Option Nat) : w.grownBy (w.drewN d) row := ⟨rfl, rfl, rfl, Nat.le_refl _, fun _ _ _ => rfl⟩
theorem gset2 {a w : World} {b : Nat} (h : a.grownBy w (some b)) (i : Nat) (v : Value) : a.grownBy (w.setCell ⟨b, i, none⟩ v) (some b) :=
 ⟨h.os, h.tape, h.output, by simp; exact h.size, fun k hk hne => (Below.heap_setCell w _ v k (fun e => hne (by rw [e]))).trans (h.block k hk hne)⟩
theorem gdrew {a w : World} {row : Option Nat} (h : a.grownBy w row) (d : Nat) : a.grownBy (w.drewN d) row := ⟨h.os, h.tape, h.output, h.size, h.block⟩
theorem gdrew1 {a w : World} {row : Option Nat} (h : a.grownBy w row) : a.grownBy w.drew row := ⟨h.os, h.tape, h.output, h.size, h.block⟩

/-- What compares, in every world that the sort passes. -/
def CmpAt (cm : Nat → Nat → Int) (w : World) (gd pc n : Nat) : Prop := ∀ w1, w.grownBy w1 (some gd) → ∀ a b, a < n → b < n →
 Calls Tryz.prog 118 #[.int .i64 (a : Nat), .int .i64 (b : Nat), .pointer (some ⟨pc, 0, none⟩)] w1 fun e w' => e = .returned (.int .i64 (cm a b)) ∧ ∃ d, w' = w1.drewN d
/-- .. it tells of a later sign whether it stands ahead of an earlier one. -/
def CmpOk (w : World) (gd pc n : Nat) (f : Nat → Nat) : Prop := ∃ cm : Nat → Nat → Int, (∀ a b, a < n → b < n → b < a → (cm a b < 0 ↔ f a < f b)) ∧ CmpAt cm w gd pc n
/-- The signs' order: by count, then by place. -/
def keyF (f : Nat → Nat) (s : Nat) : Nat := f s * 1000 + s
theorem cmp_key (f : Nat → Nat) (n a b : Nat) (hn : n ≤ 1000) (ha : a < n) (hb : b < n) (h : b < a) : cmpI (f a) (f b) < 0 ↔ keyF f a < keyF f b := by
 unfold cmpI keyF
 constructor
 ·intro h2
  split at h2
  ·omega
  ·split at h2 <;> omega
 ·intro h2
  rw [if_pos (by omega)]
  omega
set_option maxRecDepth 100000 in
set_option maxHeartbeats 8000000 in
theorem ins_any (base gd m cap a b pc n : Nat) (f : Nat → Nat) (S : List Nat) (w : World) (hO : SnO w base gd m cap S) (hx : ∀ x ∈ S, x < n) (hC : CmpOk w gd pc n f) (hab : b ≤ m) (ha : a ≤ m) (hm : m ≤ 1000) (hinc : ∀ p q, a ≤ p → p < q → q < b → at0 S p < at0 S q) :
  Calls Tryz.prog 133 #[.slice (some ⟨gd, 0, none⟩) m cap, .int .i64 a, .int .i64 b, .func (.func 118) #[] #[.pointer (some ⟨pc, 0, none⟩)]] w
   fun e w' => e = .returned (.tuple #[]) ∧ ∃ S', SnO w' base gd m cap S' ∧ Mov a b S S' ∧ SrtOn f a b S' ∧ w.grownBy w' (some gd) := by
 obtain ⟨cm, hcm, hC⟩ := hC
 have HCI := Lib.hid hcm
 have HINC := Lib.hid hinc
 have HC := Lib.hid hC
 clear hcm hinc
 have HX : Hid (∀ S', S'.Perm S → ∀ k, k < m → at0 S' k < n) := fun S' hp k hk => by
  have hl : S'.length = m := by rw [hp.length_eq, hO.1]
  refine hx _ (hp.mem_iff.1 ?_)
  rw [at0, List.getElem?_eq_getElem (by omega)]
  exact List.getElem_mem _
 have HO := Lib.hid hO
 clear hC hx hO
 have hw1 : IntKind.i64.wrap ((a : Int) + 1) = ((a + 1 : Nat) : Int) := by rw [IntKind.wrap_i64]; omega
 go_enter Tryz.func133, Tryz.ntmps133
 go_wp2
 go_loopw [8] (fun v wr => ∃ i S1, a < i ∧ (i ≤ b ∨ i = a + 1) ∧ v = .int .i64 (i : Nat) ∧ SnO wr base gd m cap S1 ∧ Mov a b S S1 ∧ SrtOn f a i S1 ∧ w.grownBy wr (some gd) ∧ Mov a i S S1) (fun v _ => (m + 2) - (intOf v).toNat)
 case atStart =>
  exact ⟨a + 1, S, by omega, .inr rfl, by go_num, HO.out, Mov.refl _ _ _, fun i j h1 h2 h3 => by rw [show i = j by omega]; exact Nat.le_refl _, World.grownBy.refl _ _, Mov.refl _ _ _⟩
 case round =>
  obtain ⟨i, S1, hai, hib, rfl, ho, hmv, hsr, hg, hmi⟩ := hrel
  by_cases hlt : i < b
  ·have HO1 := Lib.hid ho
   have HM := Lib.hid hmv
   have HG := Lib.hid hg
   have HS := Lib.hid hsr
   have HMI := Lib.hid hmi
   clear ho hmv hg hsr hmi
   go_wp2
   go_loopw [9] (fun v wr2 => ∃ j S2, a ≤ j ∧ j ≤ i ∧ v = .int .i64 (j : Nat) ∧ SnO wr2 base gd m cap S2 ∧ Mov a b S S2 ∧ (∀ p q, a ≤ p → p ≤ q → q ≤ i → p ≠ j → q ≠ j → f (at0 S2 p) ≤ f (at0 S2 q)) ∧ (∀ q, j < q → q ≤ i → f (at0 S2 j) ≤ f (at0 S2 q)) ∧ w.grownBy wr2 (some gd) ∧ Mov a (i + 1) S S2 ∧ at0 S2 j = at0 S i ∧ (∀ p, a ≤ p → p ≤ i → p ≠ j → at0 S2 p < at0 S i)) (fun v _ => (intOf v).toNat)
   case atStart => exact ⟨i, S1, by omega, Nat.le_refl _, rfl, HO1.out, HM.out, fun p q h1 h2 h3 h4 h5 => HS.out p q h1 h2 (by omega), fun q h1 h2 => by omega, HG.out, HMI.out.wide (Nat.le_refl _) (by omega), HMI.out.out i (.inr (Nat.le_refl _)), fun p h1 h2 h3 => by
    obtain ⟨p', e1, e2, e3⟩ := HMI.out.ins p h1 (by omega)
    rw [e3]
    exact HINC.out p' i e1 e2 hlt⟩
   case round =>
    obtain ⟨j, S2, haj, hji, rfl, ho, hmv, hs1, hs2, hg, hmi, hat, hbf⟩ := hrel
    have HMI2 := Lib.hid hmi
    have HAT := Lib.hid hat
    have HBF := Lib.hid hbf
    clear hmi hat hbf
    have HO2 := Lib.hid ho
    have HM2 := Lib.hid hmv
    have HG2 := Lib.hid hg
    have HS1 := Lib.hid hs1
    have HS2 := Lib.hid hs2
    -- the inner loop's way out
    have OUT : Hid ((j = a ∨ ¬ f (at0 S2 j) < f (at0 S2 (j - 1))) → ∀ d, ∃ i' S', a < i' ∧ (i' ≤ b ∨ i' = a + 1) ∧ Value.int .i64 ((i : Int) + 1) = .int .i64 (i' : Nat) ∧ SnO (wr.drewN d) base gd m cap S' ∧ Mov a b S S' ∧ SrtOn f a i' S' ∧ w.grownBy (wr.drewN d) (some gd) ∧ Mov a i' S S') := fun hs d =>
     ⟨i + 1, S2, by omega, .inl (by omega), by go_num, HO2.out.drewN d, HM2.out, fun p q h1 h2 h3 => by
      by_cases e1 : q = j
      ·by_cases e2 : p = j
       ·rw [e1, e2]; exact Nat.le_refl _
       ·have h5 := HS1.out p (j - 1) h1 (by omega) (by omega) e2 (by omega)
        subst e1
        omega
      ·by_cases e2 : p = j
       ·subst e2; exact HS2.out q (by omega) (by omega)
       ·exact HS1.out p q h1 h2 (by omega) e2 e1, gdrew HG2.out d, HMI2.out⟩
    clear ho hmv hg hs1 hs2
    by_cases hja : a < j
    ·obtain ⟨k, rfl⟩ : ∃ k, j = k + 1 := ⟨j - 1, by omega⟩
     have c1 := HO2.out.cell (k + 1) (by omega)
     have c2 := HO2.out.cell k (by omega)
     have f1 := HO2.out.frozen (k + 1)
     have f2 := HO2.out.frozen k
     have hq1 := HX.out S2 HM2.out.perm (k + 1) (by omega)
     have hq2 := HX.out S2 HM2.out.perm k (by omega)
     have HCM := Lib.hid (fun d => HC.out (wr.drewN d) (gdrew HG2.out d) _ _ hq1 hq2)
     have hI1 : (a : Int) < (k : Int) + 1 := by omega
     have hI2 : IntKind.i64.wrap ((k : Int) + 1 - 1) = k := by rw [IntKind.wrap_i64]; omega
     have hI3 : IntKind.i64.wrap (k : Int) = k := by rw [IntKind.wrap_i64]; omega
     have hI4 : (k : Int) < m := by omega
     have hI5 : (k : Int) + 1 < m := by omega
     have hI6 : (0 : Int) ≤ (k : Int) + 1 := by omega
     have HSW := Lib.hid (fun d => (HO2.out.drewN d).swap (k + 1) k)
     have HSM := Lib.hid (swp_mov S2 a b (k + 1) k (by have := HO2.out.1; omega) (by have := HO2.out.1; omega) (by omega) (by omega))
     have HSM2 := Lib.hid (swp_mov S2 a (i + 1) (k + 1) k (by have := HO2.out.1; omega) (by have := HO2.out.1; omega) (by omega) (by omega))
     have HLT : Hid (at0 S2 k < at0 S2 (k + 1)) := by rw [Hid, HAT.out]; exact HBF.out k (by omega) (by omega) (by omega)
     have HSA := Lib.hid (fun p => swp_at S2 (k + 1) k p (by have := HO2.out.1; omega) (by have := HO2.out.1; omega))
     generalize hx1 : at0 S2 (k + 1) = x at *
     generalize hx2 : at0 S2 k = y at *
     have HX1 := Lib.hid hx1
     have HX2 := Lib.hid hx2
     clear hx1 hx2
     by_cases hfx : f x < f y
     ·have hc := (HCI.out x y hq1 hq2 HLT.out).2 hfx
      go_wp2
      go_quiet (first | (go_at_call 118; exact Calls.quiet_of (HCM.out _)))
      go_wp2
      have HGQ := Lib.hid (gdrew1 (gdrew HG2.out nq))
      have HSW2 := Lib.hid (show SnO ((((wr.drewN nq).drew).setCell ⟨gd, k + 1, none⟩ (.int .i64 (y : Nat))).setCell ⟨gd, k, none⟩ (.int .i64 (x : Nat))) base gd m cap (swp S2 (k + 1) k) from HSW.out (nq + 1))
      go_region
      all_goals go_wp2
      go_roundw
      case rel =>
       refine ⟨k, swp S2 (k + 1) k, by omega, by omega, by go_num, HSW2.out, HM2.out.trans HSM.out, ?_, ?_, gset2 (gset2 HGQ.out _ _) _ _, HMI2.out.trans HSM2.out, (by rw [HSA.out, if_pos rfl]; exact HAT.out), ?_⟩
       ·intro p q h1 h2 h3 h4 h5
        rw [HSA.out, HSA.out, if_neg h4, if_neg h5]
        by_cases e1 : q = k + 1
        ·by_cases e2 : p = k + 1
         ·rw [if_pos e1, if_pos e2]; exact Nat.le_refl _
         ·rw [if_pos e1, if_neg e2, ← HX2.out]
          exact HS1.out p k h1 (by omega) (by omega) e2 (by omega)
        ·by_cases e2 : p = k + 1
         ·rw [if_neg e1, if_pos e2, ← HX2.out]
          exact HS1.out k q (by omega) (by omega) h3 (by omega) e1
         ·rw [if_neg e1, if_neg e2]
          exact HS1.out p q h1 h2 h3 e2 e1
       ·intro q h1 h2
        rw [HSA.out, HSA.out, if_pos rfl, if_neg (by omega)]
        by_cases e1 : q = k + 1
        ·rw [if_pos e1]; omega
        ·rw [if_neg e1]
         exact HS2.out q (by omega) h2
       ·intro p h1 h2 h3
        rw [HSA.out, if_neg h3]
        by_cases e1 : p = k + 1
        ·rw [if_pos e1, ← HX2.out]
         exact HBF.out k (by omega) (by omega) (by omega)
        ·rw [if_neg e1]
         exact HBF.out p h1 h2 e1
      case measure => simp [intOf]
     ·have hc : ¬ cm x y < 0 := fun h => hfx ((HCI.out x y hq1 hq2 HLT.out).1 h)
      go_wp2
      go_quiet (first | (go_at_call 118; exact Calls.quiet_of (HCM.out _)))
      go_wp2
      go_roundw
      case rel => exact OUT.out (.inr (by rw [Nat.add_sub_cancel, HX2.out]; exact hfx)) nq
      case measure => simp [intOf]; omega
    ·have hd : decide ((a : Int) < (j : Int)) = false := decide_eq_false (by omega)
     go_wp2
     go_quiet (fail)
     go_wp2
     go_roundw
     case rel => exact OUT.out (.inl (by omega)) nq
     case measure => simp [intOf]; omega
  ·go_wp2
   go_end0
   exact ⟨rfl, S1, ho, hmv, fun p q h1 h2 h3 => hsr p q h1 h2 (by omega), hg⟩
end Go.Proofs.YtmkeicfklbepnaaGreat.We

namespace Go.Proofs.YtmkeicfklbepnaaGreat.We
open Go.RowKit

/-- The signs of the left part stand ahead of those of the right. -/
def Ord (a c b : Nat) (S : List Nat) : Prop := ∀ i j, a ≤ i → i < c → c ≤ j → j < b → at0 S i < at0 S j
/-- What symMerge does. -/
def SymOk (base gd m cap pc n : Nat) (f : Nat → Nat) : Prop := ∀ (a c b : Nat) (S : List Nat) (w : World), a < c → c < b → b ≤ m → SnO w base gd m cap S → (∀ x ∈ S, x < n) → CmpOk w gd pc n f → SrtOn f a c S → SrtOn f c b S → Ord a c b S →
 Calls Tryz.prog 134 #[.slice (some ⟨gd, 0, none⟩) m cap, .int .i64 (a : Nat), .int .i64 (c : Nat), .int .i64 (b : Nat), .func (.func 118) #[] #[.pointer (some ⟨pc, 0, none⟩)]] w
  fun e w' => e = .returned (.tuple #[]) ∧ ∃ S', SnO w' base gd m cap S' ∧ Mov a b S S' ∧ SrtOn f a b S' ∧ w.grownBy w' (some gd)

theorem CmpAt.grown {w w1 : World} {gd pc n : Nat} {cm : Nat → Nat → Int} (h : CmpAt cm w gd pc n) (hg : w.grownBy w1 (some gd)) : CmpAt cm w1 gd pc n := fun w2 hg2 =>
 h w2 ⟨hg2.os.trans hg.os, hg2.tape.trans hg.tape, hg2.output.trans hg.output, Nat.le_trans hg.size hg2.size, fun k hk hne => (hg2.block k (Nat.lt_of_lt_of_le hk hg.size) hne).trans (hg.block k hk hne)⟩
theorem CmpOk.grown {w w1 : World} {gd pc n : Nat} {f : Nat → Nat} (h : CmpOk w gd pc n f) (hg : w.grownBy w1 (some gd)) : CmpOk w1 gd pc n f := by
 obtain ⟨cm, h1, h2⟩ := h
 exact ⟨cm, h1, h2.grown hg⟩
theorem gtrans {w w1 w2 : World} {row : Option Nat} (h : w.grownBy w1 row) (k : w1.grownBy w2 row) : w.grownBy w2 row :=
 ⟨k.os.trans h.os, k.tape.trans h.tape, k.output.trans h.output, Nat.le_trans h.size k.size, fun i hi hne => (k.block i (Nat.lt_of_lt_of_le hi h.size) hne).trans (h.block i hi hne)⟩
theorem Mov.all {a b : Nat} {S S' : List Nat} {n : Nat} (h : Mov a b S S') (hx : ∀ x ∈ S, x < n) : ∀ x ∈ S', x < n := fun x hm => hx x (h.perm.mem_iff.1 hm)
/-- What lies elsewhere stays sorted. -/
theorem Mov.srt {f : Nat → Nat} {a b c d : Nat} {S S' : List Nat} (h : Mov a b S S') (hd : d ≤ a ∨ b ≤ c) (hs : SrtOn f c d S) : SrtOn f c d S' := fun i j h1 h2 h3 => by
 rw [h.out i (by omega), h.out j (by omega)]
 exact hs i j h1 h2 h3

/-- Where the signs come from: below A out of the same pair of blocks, from A on out of the same block. -/
def Org (m : Nat) (S S1 : List Nat) (A bs : Nat) : Prop := ∀ p, p < m → ∃ p', p' < m ∧ at0 S1 p = at0 S p' ∧ (p < A → p' / (2 * bs) = p / (2 * bs)) ∧ (A ≤ p → p' / bs = p / bs)
theorem div_in (bs k p : Nat) (h1 : bs * k ≤ p) (h2 : p < bs * k + bs) : p / bs = k := by
 apply Nat.div_eq_of_lt_le
 ·rw [Nat.mul_comm]; exact h1
 ·rw [Nat.mul_comm, Nat.mul_succ]; exact h2
theorem div_two (bs p q : Nat) (h : p / bs = q / bs) : p / (2 * bs) = q / (2 * bs) := by
 rw [Nat.mul_comm 2 bs, ← Nat.div_div_eq_div_mul, ← Nat.div_div_eq_div_mul, h]
theorem lt_of_div (bs p q : Nat) (h : p / bs < q / bs) : p < q := by
 apply Nat.lt_of_not_le
 intro h2
 have := Nat.div_le_div_right (c := bs) h2
 omega
theorem org_ord {m A bs k b : Nat} {S S1 : List Nat} (h : Org m S S1 A bs) (hA : A = 2 * bs * k) (hinc : ∀ p q, p < q → q < m → at0 S p < at0 S q) (hb : b ≤ m) (hb2 : b ≤ A + 2 * bs) : Ord A (A + bs) b S1 := fun i j h1 h2 h3 h4 => by
 obtain ⟨i', e1, e2, _, e3⟩ := h i (by omega)
 obtain ⟨j', g1, g2, _, g3⟩ := h j (by omega)
 have e4 := e3 h1
 have g4 := g3 (by omega)
 have hA2 : A = bs * (2 * k) := by rw [hA, Nat.mul_comm 2 bs, Nat.mul_assoc]
 have hA3 : bs * (2 * k + 1) = A + bs := by rw [Nat.mul_succ, hA2]
 rw [div_in bs (2 * k) i (by omega) (by omega)] at e4
 rw [div_in bs (2 * k + 1) j (by omega) (by omega)] at g4
 rw [e2, g2]
 exact hinc i' j' (lt_of_div bs i' j' (by omega)) g1
theorem org_step {m A bs k : Nat} {S S1 S2 : List Nat} (h : Org m S S1 A bs) (hA : A = 2 * bs * k) (hm : Mov A (A + 2 * bs) S1 S2) (hb : A + 2 * bs ≤ m) : Org m S S2 (A + 2 * bs) bs := fun p hp => by
 by_cases h1 : A ≤ p
 ·by_cases h2 : p < A + 2 * bs
  ·obtain ⟨p1, e1, e2, e3⟩ := hm.ins p h1 h2
   obtain ⟨p', g1, g2, _, g3⟩ := h p1 (by omega)
   refine ⟨p', g1, by rw [e3, g2], fun _ => ?_, fun h3 => by omega⟩
   rw [div_two bs p' p1 (g3 e1), div_in (2 * bs) k p1 (by omega) (by omega), div_in (2 * bs) k p (by omega) (by omega)]
  ·obtain ⟨p', g1, g2, _, g3⟩ := h p hp
   exact ⟨p', g1, by rw [hm.out p (by omega), g2], fun h3 => by omega, fun _ => g3 h1⟩
 ·obtain ⟨p', g1, g2, g3, _⟩ := h p hp
  exact ⟨p', g1, by rw [hm.out p (by omega), g2], fun _ => g3 (by omega), fun h3 => by omega⟩
theorem org_fin {m A bs k : Nat} {S S1 S2 : List Nat} (h : Org m S S1 A bs) (hA : A = 2 * bs * k) (hm : Mov A m S1 S2) (hb : m < A + 2 * bs) : Org m S S2 0 (2 * bs) := fun p hp => by
 by_cases h1 : A ≤ p
 ·obtain ⟨p1, e1, e2, e3⟩ := hm.ins p h1 hp
  obtain ⟨p', g1, g2, _, g3⟩ := h p1 (by omega)
  refine ⟨p', g1, by rw [e3, g2], fun h3 => by omega, fun _ => ?_⟩
  rw [div_two bs p' p1 (g3 e1), div_in (2 * bs) k p1 (by omega) (by omega), div_in (2 * bs) k p (by omega) (by omega)]
 ·obtain ⟨p', g1, g2, g3, _⟩ := h p hp
  exact ⟨p', g1, by rw [hm.out p (by omega), g2], fun h3 => by omega, fun _ => g3 (by omega)⟩
theorem org_ins {m A B k : Nat} {S S1 S2 : List Nat} (h : Org m S S1 0 20) (ht : ∀ q, A ≤ q → at0 S1 q = at0 S q) (hA : 20 * k = A) (hm : Mov A B S1 S2) (hb : B ≤ A + 20) (hbm : B ≤ m) : Org m S S2 0 20 := fun p hp => by
 by_cases h1 : A ≤ p ∧ p < B
 ·obtain ⟨p1, e1, e2, e3⟩ := hm.ins p h1.1 h1.2
  exact ⟨p1, by omega, by rw [e3, ht p1 e1], fun h3 => by omega, fun _ => by omega⟩
 ·obtain ⟨p', g1, g2, g3, g4⟩ := h p hp
  exact ⟨p', g1, by rw [hm.out p (by omega), g2], g3, g4⟩
theorem org_refl (m : Nat) (S : List Nat) : Org m S S 0 20 := fun p hp => ⟨p, hp, rfl, fun _ => rfl, fun _ => rfl⟩

set_option maxRecDepth 100000 in
set_option maxHeartbeats 8000000 in
theorem stable_any (base gd m cap pc n : Nat) (f : Nat → Nat) (S : List Nat) (w : World) (hO : SnO w base gd m cap S) (hx : ∀ x ∈ S, x < n) (hC : CmpOk w gd pc n f) (hm : m ≤ 1000) (hinc : ∀ p q, p < q → q < m → at0 S p < at0 S q) (hsym : 20 < m → SymOk base gd m cap pc n f) :
  Calls Tryz.prog 126 #[.slice (some ⟨gd, 0, none⟩) m cap, .int .i64 m, .func (.func 118) #[] #[.pointer (some ⟨pc, 0, none⟩)]] w
   fun e w' => e = .returned (.tuple #[]) ∧ ∃ S', SnO w' base gd m cap S' ∧ Mov 0 m S S' ∧ SrtOn f 0 m S' ∧ w.grownBy w' (some gd) := by
 have HI := Lib.hid (fun a b S1 w1 (ho : SnO w1 base gd m cap S1) (hmv : Mov 0 m S S1) (hg : w.grownBy w1 (some gd)) (hb : b ≤ m) (ha : a ≤ m) (ht : ∀ q, a ≤ q → at0 S1 q = at0 S q) => ins_any base gd m cap a b pc n f S1 w1 ho (hmv.all hx) (hC.grown hg) hb ha hm (fun p q h1 h2 h3 => by rw [ht p h1, ht q (by omega)]; exact hinc p q h2 (by omega)))
 have HY := Lib.hid (fun (h20 : 20 < m) a c b S1 w1 (h1 : a < c) (h2 : c < b) (h3 : b ≤ m) (ho : SnO w1 base gd m cap S1) (hmv : Mov 0 m S S1) (hg : w.grownBy w1 (some gd)) => hsym h20 a c b S1 w1 h1 h2 h3 ho (hmv.all hx) (hC.grown hg))
 have HO := Lib.hid hO
 have HINC := Lib.hid hinc
 clear hO hx hC hsym hinc
 go_enter Tryz.func126, Tryz.ntmps126
 go_wp2_with fail
 go_loopw [7, 8] (fun va vb wr => ∃ k S1, va = .int .i64 (20 * k : Nat) ∧ vb = .int .i64 (20 * k + 20 : Nat) ∧ 20 * k ≤ m ∧ SnO wr base gd m cap S1 ∧ Mov 0 m S S1 ∧ (∀ j, j < k → SrtOn f (20 * j) (20 * j + 20) S1) ∧ w.grownBy wr (some gd) ∧ Org m S S1 0 20 ∧ (∀ q, 20 * k ≤ q → at0 S1 q = at0 S q)) (fun va _ _ => (m + 40) - (intOf va).toNat)
 case atStart => exact ⟨0, S, rfl, rfl, Nat.zero_le _, HO.out, Mov.refl _ _ _, fun j hj => by omega, World.grownBy.refl _ _, org_refl _ _, fun _ _ => rfl⟩
 case round =>
  obtain ⟨k, S1, rfl, rfl, hk, ho, hmv, hs, hg, horg, htl⟩ := hrel
  have HORG := Lib.hid horg
  have HTL := Lib.hid htl
  clear horg htl
  have HO1 := Lib.hid ho
  have HM := Lib.hid hmv
  have HS := Lib.hid hs
  have HG := Lib.hid hg
  clear ho hmv hs hg
  by_cases hlt : 20 * k + 20 ≤ m
  ·have hI : ((20 * k + 20 : Nat) : Int) ≤ m := by omega
   have HK1 : Hid (∀ S2, Mov (20 * k) (20 * k + 20) S1 S2 → Org m S S2 0 20 ∧ ∀ q, 20 * (k + 1) ≤ q → at0 S2 q = at0 S q) := fun S2 hm2 =>
    ⟨org_ins HORG.out HTL.out rfl hm2 (Nat.le_refl _) hlt, fun q hq => by rw [hm2.out q (by omega), HTL.out q (by omega)]⟩
   have hW : IntKind.i64.wrap (((20 * k + 20 : Nat) : Int) + 20) = ((20 * k + 40 : Nat) : Int) := by rw [IntKind.wrap_i64]; omega
   generalize hA : 20 * k = A at *
   generalize hB : A + 20 = B at *
   go_wp2_with fail
   refine (HI.out A B S1 wr HO1.out HM.out HG.out (by omega) (by omega) HTL.out).mono ?_
   rintro e w2 ⟨rfl, S2, ho2, hm2, hs2, hg2⟩
   go_wp2_with fail
   go_roundw
   case rel =>
    refine ⟨k + 1, S2, by congr 1; omega, ?_, by omega, ho2, HM.out.trans (hm2.wide (Nat.zero_le _) (by omega)), ?_, gtrans HG.out hg2, (HK1.out S2 hm2).1, (HK1.out S2 hm2).2⟩
    ·congr 1; omega
    ·intro j hj
     by_cases e : j = k
     ·subst e; rw [hA, hB]; exact hs2
     ·exact hm2.srt (.inl (by omega)) (HS.out j (by omega))
   case measure => simp [intOf]; omega
  ·have hI : ¬ ((20 * k + 20 : Nat) : Int) ≤ m := by omega
   have HK2 : Hid (∀ S2, Mov (20 * k) m S1 S2 → Org m S S2 0 20) := fun S2 hm2 => org_ins HORG.out HTL.out rfl hm2 (by omega) (Nat.le_refl _)
   generalize hA : 20 * k = A at *
   generalize hB : A + 20 = B at *
   go_wp2_with fail
   refine (HI.out A m S1 wr HO1.out HM.out HG.out (by omega) (by omega) HTL.out).mono ?_
   rintro e w2 ⟨rfl, S2, ho2, hm2, hs2, hg2⟩
   have HORG2 := Lib.hid (HK2.out S2 hm2)
   have HO2 := Lib.hid ho2
   have HM2 := Lib.hid (HM.out.trans (hm2.wide (Nat.zero_le _) (Nat.le_refl _)))
   have HG2 := Lib.hid (gtrans HG.out hg2)
   have HS2 : Hid (∀ j, SrtOn f (20 * j) (min (20 * j + 20) m) S2) := fun j => by
    by_cases h1 : j < k
    ·have := hm2.srt (.inl (by omega)) (HS.out j h1)
     intro p q e1 e2 e3
     exact this p q e1 e2 (by omega)
    ·by_cases h2 : j = k
     ·subst h2; rw [hA]; intro p q e1 e2 e3; exact hs2 p q e1 e2 (by omega)
     ·intro p q e1 e2 e3; omega
   clear ho2 hm2 hs2 hg2 HS HM HG HO1
   go_wp2_with fail
   go_loopw [6] (fun vs wr => ∃ bs S1, vs = .int .i64 (bs : Nat) ∧ 20 ≤ bs ∧ (bs = 20 ∨ bs < 2 * m) ∧ SnO wr base gd m cap S1 ∧ Mov 0 m S S1 ∧ (∀ j, SrtOn f (bs * j) (min (bs * j + bs) m) S1) ∧ w.grownBy wr (some gd) ∧ Org m S S1 0 bs) (fun vs _ => m - (intOf vs).toNat)
   case atStart => exact ⟨20, S2, rfl, Nat.le_refl _, .inl rfl, HO2.out, HM2.out, HS2.out, HG2.out, HORG2.out⟩
   case round =>
    obtain ⟨bs, S3, rfl, hb20, hbm, ho, hmv, hs, hg, horg⟩ := hrel
    have HORG3 := Lib.hid horg
    clear horg HK2 HORG HTL HORG2
    have HO3 := Lib.hid ho
    have HM3 := Lib.hid hmv
    have HS3 := Lib.hid hs
    have HG3 := Lib.hid hg
    clear ho hmv hs hg HO2 HM2 HS2 HG2
    by_cases hbs : bs < m
    ·have hW1 : IntKind.i64.wrap (2 * (bs : Int)) = ((2 * bs : Nat) : Int) := by rw [IntKind.wrap_i64]; omega
     have hW2 : IntKind.i64.wrap ((bs : Int) * 2) = ((2 * bs : Nat) : Int) := by rw [IntKind.wrap_i64]; omega
     have hSY := HY.out (by omega)
     have HSY := Lib.hid hSY
     clear hSY
     go_wp2_with fail
     go_loopw [7, 8] (fun va vb wr => ∃ k A S1, A = 2 * bs * k ∧ va = .int .i64 (A : Nat) ∧ vb = .int .i64 (A + 2 * bs : Nat) ∧ A ≤ m ∧ SnO wr base gd m cap S1 ∧ Mov 0 m S S1 ∧ (∀ j, j < k → SrtOn f (2 * bs * j) (2 * bs * j + 2 * bs) S1) ∧ (∀ j, 2 * k ≤ j → SrtOn f (bs * j) (min (bs * j + bs) m) S1) ∧ w.grownBy wr (some gd) ∧ Org m S S1 A bs) (fun va _ _ => (3 * m + 40) - (intOf va).toNat)
     case atStart => exact ⟨0, 0, S3, by simp, rfl, by congr 1; omega, Nat.zero_le _, HO3.out, HM3.out, fun j hj => by omega, fun j _ => HS3.out j, HG3.out, HORG3.out⟩
     case round =>
      obtain ⟨k, A, S1, hAk, rfl, rfl, hAm, ho, hmv, hs1, hs2, hg, horg⟩ := hrel
      have HOD : Hid (∀ b, b ≤ m → b ≤ A + 2 * bs → Ord A (A + bs) b S1) := fun b h1 h2 => org_ord horg hAk HINC.out h1 h2
      have HOS : Hid (A + 2 * bs ≤ m → ∀ S2, Mov A (A + 2 * bs) S1 S2 → Org m S S2 (A + 2 * bs) bs) := fun h1 S2 h2 => org_step horg hAk h2 h1
      have HOF : Hid (m < A + 2 * bs → ∀ S2, Mov A m S1 S2 → Org m S S2 0 (2 * bs)) := fun h1 S2 h2 => org_fin horg hAk h2 h1
      clear horg
      have HO1 := Lib.hid ho
      have HM1 := Lib.hid hmv
      have HS1 := Lib.hid hs1
      have HS2 := Lib.hid hs2
      have HG1 := Lib.hid hg
      clear ho hmv hs1 hs2 hg
      have e0 : bs * (2 * k) = A := by rw [hAk, Nat.mul_left_comm, Nat.mul_assoc]
      have e1 : bs * (2 * k + 1) = A + bs := by rw [Nat.mul_succ, e0]
      have e2 : 2 * bs * (k + 1) = A + 2 * bs := by rw [Nat.mul_succ, hAk]
      have e3 : ∀ j, j < k → 2 * bs * j + 2 * bs ≤ A := fun j hj => by rw [hAk, ← Nat.mul_succ]; exact Nat.mul_le_mul_left _ hj
      have e4 : ∀ j, 2 * k + 2 ≤ j → A + 2 * bs ≤ bs * j := fun j hj => by
       have := Nat.mul_le_mul_left bs hj
       rw [show 2 * k + 2 = 2 * k + 1 + 1 by omega, Nat.mul_succ, e1] at this
       omega
      have e5 : ∀ j, k < j → A + 2 * bs ≤ 2 * bs * j := fun j hj => by
       have := Nat.mul_le_mul_left (2 * bs) hj
       rw [Nat.succ_eq_add_one, e2] at this
       exact this
      have q1 := HS2.out (2 * k) (Nat.le_refl _)
      have q2 := HS2.out (2 * k + 1) (by omega)
      rw [e0] at q1
      rw [e1] at q2
      have hW3 : IntKind.i64.wrap ((A : Int) + (bs : Int)) = ((A + bs : Nat) : Int) := by rw [IntKind.wrap_i64]; omega
      have hW4 : IntKind.i64.wrap (((A + 2 * bs : Nat) : Int) + ((2 * bs : Nat) : Int)) = ((A + 2 * bs + 2 * bs : Nat) : Int) := by rw [IntKind.wrap_i64]; omega
      have HQ1 := Lib.hid q1
      have HQ2 := Lib.hid q2
      have HE := Lib.hid e3
      have HE4 := Lib.hid e4
      have HE5 := Lib.hid e5
      have HE2 := Lib.hid e2
      have HAK := Lib.hid hAk
      clear q1 q2 e0 e1 e2 e3 e4 e5 hAk
      by_cases hlt : A + 2 * bs ≤ m
      ·have hI : ((A + 2 * bs : Nat) : Int) ≤ m := by omega
       have HOD1 := Lib.hid (HOD.out _ hlt (Nat.le_refl _))
       have HOS1 := Lib.hid (HOS.out hlt)
       clear HOD HOS HOF HORG3
       generalize hB2 : 2 * bs = B2 at *
       generalize hBB : A + B2 = BB at *
       generalize hMM : A + bs = MM at *
       go_wp2_with fail
       refine (HSY.out A MM BB S1 wr (by omega) (by omega) (by omega) HO1.out HM1.out HG1.out (fun p q h1 h2 h3 => HQ1.out p q h1 h2 (by omega)) (fun p q h1 h2 h3 => HQ2.out p q h1 h2 (by omega)) HOD1.out).mono ?_
       rintro e w2 ⟨rfl, S2, ho2, hm2, hs2, hg2⟩
       go_wp2_with fail
       go_roundw
       case rel =>
        refine ⟨k + 1, BB, S2, by rw [HE2.out], by congr 1, by congr 1, by omega, ho2, HM1.out.trans (hm2.wide (Nat.zero_le _) (by omega)), ?_, ?_, gtrans HG1.out hg2, HOS1.out S2 hm2⟩
        ·intro j hj
         by_cases e : j = k
         ·subst e; rw [← HAK.out, hBB]; exact hs2
         ·have := HE.out j (by omega)
          exact hm2.srt (.inl (by omega)) (HS1.out j (by omega))
        ·intro j hj
         have := HE4.out j (by omega)
         exact hm2.srt (.inr (by omega)) (HS2.out j (by omega))
       case measure => simp [intOf]; omega
      ·have hI : ¬ ((A + 2 * bs : Nat) : Int) ≤ m := by omega
       -- what is left, merged or not
       have FIN : Hid (∀ S2 w2, SnO w2 base gd m cap S2 → Mov A m S1 S2 → SrtOn f A m S2 → w.grownBy w2 (some gd) → ∃ bs' S', Value.int .i64 ((2 * bs : Nat) : Int) = .int .i64 (bs' : Nat) ∧ 20 ≤ bs' ∧ (bs' = 20 ∨ bs' < 2 * m) ∧ SnO w2 base gd m cap S' ∧ Mov 0 m S S' ∧ (∀ j, SrtOn f (bs' * j) (min (bs' * j + bs') m) S') ∧ w.grownBy w2 (some gd) ∧ Org m S S' 0 bs') := fun S2 w2 ho2 hm2 hs2 hg2 =>
        ⟨2 * bs, S2, rfl, by omega, .inr (by omega), ho2, HM1.out.trans (hm2.wide (Nat.zero_le _) (Nat.le_refl _)), fun j => by
         by_cases h1 : j < k
         ·have h2 := HE.out j h1
          have := hm2.srt (.inl (by omega)) (HS1.out j h1)
          intro p q e1 e2 e3
          exact this p q e1 e2 (by omega)
         ·by_cases h2 : j = k
          ·subst h2; rw [← HAK.out]; intro p q e1 e2 e3; exact hs2 p q e1 e2 (by omega)
          ·have := HE5.out j (by omega)
           intro p q e1 e2 e3; omega, hg2, HOF.out (by omega) S2 hm2⟩
       by_cases hmm : A + bs < m
       ·have hI2 : ((A + bs : Nat) : Int) < m := by omega
        have HOD1 := Lib.hid (HOD.out m (Nat.le_refl _) (by omega))
        clear HOD HOS HOF HORG3
        generalize hMM : A + bs = MM at *
        generalize hBB : A + 2 * bs = BB at *
        generalize hB2 : 2 * bs = B2 at *
        go_wp2_with fail
        refine (HSY.out A MM m S1 wr (by omega) (by omega) (by omega) HO1.out HM1.out HG1.out (fun p q h1 h2 h3 => HQ1.out p q h1 h2 (by omega)) (fun p q h1 h2 h3 => HQ2.out p q h1 h2 (by omega)) HOD1.out).mono ?_
        rintro e w2 ⟨rfl, S2, ho2, hm2, hs2, hg2⟩
        go_wp2_with fail
        go_roundw
        case rel => exact FIN.out S2 w2 ho2 hm2 hs2 (gtrans HG1.out hg2)
        case measure => simp [intOf]; omega
       ·have hI2 : ¬ ((A + bs : Nat) : Int) < m := by omega
        clear HOD HOS HOF HORG3
        generalize hMM : A + bs = MM at *
        generalize hBB : A + 2 * bs = BB at *
        generalize hB2 : 2 * bs = B2 at *
        go_wp2_with fail
        go_roundw
        case rel => exact FIN.out S1 wr HO1.out (Mov.refl _ _ _) (fun p q h1 h2 h3 => HQ1.out p q h1 h2 (by omega)) HG1.out
        case measure => simp [intOf]; omega
    ·go_wp2_with fail
     go_end0
     refine ⟨rfl, S3, HO3.out, HM3.out, ?_, HG3.out⟩
     have := HS3.out 0
     intro p q e1 e2 e3
     exact this p q (by omega) e2 (by omega)

set_option maxHeartbeats 2000000 in
theorem sort_any (base gd m cap pc n : Nat) (f : Nat → Nat) (S : List Nat) (w : World) (hO : SnO w base gd m cap S) (hx : ∀ x ∈ S, x < n) (hC : CmpOk w gd pc n f) (hm : m ≤ 1000) (hinc : ∀ p q, p < q → q < m → at0 S p < at0 S q) (hsym : 20 < m → SymOk base gd m cap pc n f) :
  Calls Tryz.prog 117 #[.slice (some ⟨gd, 0, none⟩) m cap, .func (.func 118) #[] #[.pointer (some ⟨pc, 0, none⟩)]] w
   fun e w' => e = .returned (.tuple #[]) ∧ ∃ S', SnO w' base gd m cap S' ∧ Mov 0 m S S' ∧ SrtOn f 0 m S' ∧ w.grownBy w' (some gd) := by
 have H := Lib.hid (stable_any base gd m cap pc n f S w hO hx hC hm hinc hsym)
 clear hO hx hC hsym hinc
 go_enter Tryz.func117, Tryz.ntmps117
 go_wp2_with fail
 refine (H.out).mono ?_
 rintro e w2 ⟨rfl, h⟩
 go_wp2_with fail
 go_end0
 exact ⟨rfl, h⟩
theorem ins_nil (pc : Nat) (w : World) :
  Calls Tryz.prog 133 #[.slice none 0 0, .int .i64 0, .int .i64 0, .func (.func 118) #[] #[.pointer (some ⟨pc, 0, none⟩)]] w fun e w' => e = .returned (.tuple #[]) ∧ w' = w := by
 go_enter Tryz.func133, Tryz.ntmps133
 go_wp2
 go_loopw [8] (fun v wr => v = .int .i64 1 ∧ wr = w) (fun _ _ => 0)
 case atStart => exact ⟨rfl, rfl⟩
 case round =>
  obtain ⟨rfl, rfl⟩ := hrel
  go_wp2
  go_end0
  exact ⟨rfl, rfl⟩
theorem stable_nil (pc : Nat) (w : World) :
  Calls Tryz.prog 126 #[.slice none 0 0, .int .i64 0, .func (.func 118) #[] #[.pointer (some ⟨pc, 0, none⟩)]] w fun e w' => e = .returned (.tuple #[]) ∧ w' = w := by
 go_enter Tryz.func126, Tryz.ntmps126
 go_wp2_with fail
 go_loopw [7, 8] (fun v v2 wr => v = .int .i64 0 ∧ v2 = .int .i64 20 ∧ wr = w) (fun _ _ _ => 0)
 case atStart => exact ⟨rfl, rfl, rfl⟩
 case round =>
  obtain ⟨rfl, rfl, rfl⟩ := hrel
  go_wp2_with fail
  refine (ins_nil pc wr).mono ?_
  rintro e w2 ⟨rfl, rfl⟩
  go_wp2_with fail
  go_loopw [6] (fun v wr => v = .int .i64 20 ∧ wr = w2) (fun _ _ => 0)
  case atStart => exact ⟨rfl, rfl⟩
  case round =>
   obtain ⟨rfl, rfl⟩ := hrel
   go_wp2_with fail
   go_end0
   exact ⟨rfl, rfl⟩
/-- Of no sign. -/
theorem sort_nil (pc : Nat) (w : World) :
  Calls Tryz.prog 117 #[.slice none 0 0, .func (.func 118) #[] #[.pointer (some ⟨pc, 0, none⟩)]] w fun e w' => e = .returned (.tuple #[]) ∧ w' = w := by
 go_enter Tryz.func117, Tryz.ntmps117
 go_wp2_with fail
 refine (stable_nil pc w).mono ?_
 rintro e w2 ⟨rfl, rfl⟩
 go_wp2_with fail
 go_end0
 exact ⟨rfl, rfl⟩
end Go.Proofs.YtmkeicfklbepnaaGreat.We

namespace Go.Proofs.YtmkeicfklbepnaaGreat.We
open Go.RowKit

/-- The signs that come, in their order. -/
def comeL (f : Nat → Nat) : Nat → List Nat
 | 0 => []
 | n + 1 => if 0 < f n then comeL f n ++ [n] else comeL f n
theorem comeL_lt (f : Nat → Nat) (n : Nat) : ∀ x ∈ comeL f n, x < n ∧ 0 < f x := by
 induction n with
 | zero => simp [comeL]
 | succ n ih =>
  intro x hx
  rw [comeL] at hx
  split at hx
  ·rcases List.mem_append.1 hx with hx | hx
   ·have := ih x hx; omega
   ·simp at hx; subst hx; omega
  ·have := ih x hx; omega
theorem comeL_mem (f : Nat → Nat) (n i : Nat) (hi : i < n) (h : 0 < f i) : i ∈ comeL f n := by
 induction n with
 | zero => omega
 | succ n ih =>
  rw [comeL]
  by_cases e : i = n
  ·subst e; rw [if_pos h]; simp
  ·have := ih (by omega)
   split <;> simp [this]
theorem comeL_inc (f : Nat → Nat) : ∀ n, ∀ p q, p < q → q < (comeL f n).length → at0 (comeL f n) p < at0 (comeL f n) q
 | 0, p, q, _, h => by simp [comeL] at h
 | n + 1, p, q, hpq, h => by
  rw [comeL] at h ⊢
  split at h
  ·rename_i hf
   rw [if_pos hf]
   have e : ∀ i, i < (comeL f n).length → at0 (comeL f n ++ [n]) i = at0 (comeL f n) i := fun i hi => by rw [at0, List.getElem?_append_left hi]; rfl
   rw [List.length_append, List.length_singleton] at h
   by_cases h2 : q < (comeL f n).length
   ·rw [e p (by omega), e q h2]
    exact comeL_inc f n p q hpq h2
   ·have hq : q = (comeL f n).length := by omega
    have e2 : at0 (comeL f n ++ [n]) q = n := by rw [at0, hq, List.getElem?_append_right (Nat.le_refl _), Nat.sub_self]; rfl
    rw [e p (by omega), e2, at0, List.getElem?_eq_getElem (by omega)]
    exact (comeL_lt f n _ (List.getElem_mem _)).1
  ·rename_i hf
   rw [if_neg hf]
   exact comeL_inc f n p q hpq h
theorem comeL_le (f : Nat → Nat) (n : Nat) : (comeL f n).length ≤ n := by
 induction n with
 | zero => simp [comeL]
 | succ n ih => rw [comeL]; split <;> (try simp only [List.length_append, List.length_cons, List.length_nil]) <;> omega
theorem comeL_nodup (f : Nat → Nat) (n : Nat) : (comeL f n).Nodup := by
 induction n with
 | zero => simp [comeL]
 | succ n ih =>
  rw [comeL]
  split
  ·rw [List.nodup_append]
   refine ⟨ih, by simp, ?_⟩
   intro a ha b hb e
   simp at hb
   have := comeL_lt f n a ha
   omega
  ·exact ih
theorem info_i64 : (Tryz.prog.info? 3).map (fun i => (i.zero, i.size, i.bytes)) = some (some (.int .i64 0), 1, 8) := by kernel_rfl

set_option maxRecDepth 100000 in
set_option maxHeartbeats 8000000 in
theorem coming_any (A : Option Addr) (n capA : Nat) (f : Nat → Nat) (w : World) (hC : Cts w A n f) (hn : n ≤ 400) (hsym : ∀ base gd m cap pc, 20 < m → m ≤ (comeL f n).length → SymOk base gd m cap pc n (keyF f)) :
  Calls Tryz.prog 104 #[.slice A n capA] w fun e w' => ∃ S v, e = .returned v ∧ S.Perm (comeL f n) ∧ SrtOn (keyF f) 0 S.length S ∧ ((S = [] ∧ v = .slice none 0 0) ∨ ∃ gd cap, v = .slice (some ⟨gd, 0, none⟩) S.length cap ∧ w.heap.size < gd ∧ SnO w' (w.heap.size + 1) gd S.length cap S) ∧ Below w.heap.size w w' := by
 have hmf : ∀ (fn : Fn) (first cap : Array Value) (w : World), (Instr.makeFunc fn first cap).run Tryz.prog w = .ok (.func fn first cap) w := fun _ _ _ _ => rfl
 obtain ⟨i0, hi, hz0, hz1, hz2⟩ := info_parts info_i64
 have hb1 := below_alloc (Below.refl w.heap.size w) (.cells #[.slice A n capA] 147)
 have c0 := cell_new w (.slice A n capA) 147
 have hs1 : (w.alloc (.cells #[.slice A n capA] 147)).heap.size = w.heap.size + 1 := by simp
 have HC := Lib.hid hC
 have HY := Lib.hid hsym
 clear hC hsym
 go_enter Tryz.func104, Tryz.ntmps104
 go_wp2_with fail
 generalize w.alloc (.cells #[.slice A n capA] 147) = w1 at *
 have HI : Hid (Below w.heap.size w w1 ∧ w1.cell? ⟨w.heap.size, 0, none⟩ = some (.slice A n capA) ∧ w1.heap.size = w.heap.size + 1) := ⟨hb1, c0, hs1⟩
 clear hb1 c0 hs1
 go_loopw [3, 8] (fun v i wr => ∃ k : Nat, k ≤ n ∧ i = .int .i64 k ∧ wr.ownsRow (w.heap.size + 1) 3 1 v (comeL f k).length ((comeL f k).map iv) ∧ wr.cell? ⟨w.heap.size, 0, none⟩ = some (.slice A n capA) ∧ w.heap.size < wr.heap.size ∧ Below w.heap.size w wr) (fun _ i _ => n - (intOf i).toNat)
 case atStart => exact ⟨0, Nat.zero_le _, rfl, World.ownsRow_nil _ _ _ _, HI.out.2.1, by have := HI.out.2.2; omega, HI.out.1⟩
 case round =>
  obtain ⟨k, hk, rfl, hown, hc, hsz, hb⟩ := hrel
  have HO := Lib.hid hown
  have HB := Lib.hid hb
  have HCL := Lib.hid hc
  have hlen := comeL_le f k
  clear hown hb hc
  by_cases hlt : k < n
  ·obtain ⟨bk, off, rfl, hbl, hcc⟩ := HC.out (by omega)
   have c1 := (HB.out.cell (p := ⟨bk, off + k, none⟩) hbl).trans (hcc k hlt).1
   clear hcc
   by_cases hf : 0 < f k
   ·have HST : Hid (comeL f (k + 1) = comeL f k ++ [k]) := by rw [Hid, comeL, if_pos hf]
    go_wp2_with (at_builtin; refine wpList_append_own _ rfl _ _ 68 rfl (w.heap.size + 1) 3 i0 (.int .i64 0) 1 8 Tryz.underlying68 hi hz0 hz1 hz2 rfl (by decide) _ _ _ rfl (HO.out.alloc _) ⟨wr.heap.size, 0, none⟩ 1 1 [.int .i64 (k : Nat)] rfl rfl ?c1 ?c2 ?c3 ?c4 ?c5 ?_)
    case c1 =>
     intro j u hj
     match j, hj with
     | 0, hj => simp at hj; subst hj; simp [Addr.add]
    case c2 => intro u hu; simp at hu; subst hu; rfl
    case c3 => unfold maxLen; omega
    case c4 => omega
    case c5 => simp; omega
    intro v' w2 hown2 hgrow2 _
    have HOW := Lib.hid (fun h => (HO.out.lt h))
    have hne : ∀ vv : Value, (∀ h, vv.ownBlock = some h → w.heap.size + 1 ≤ h) → some w.heap.size ≠ vv.ownBlock := fun vv hv e => by have := hv _ e.symm; omega
    go_wp2
    go_roundw
    case rel =>
     refine ⟨k + 1, by omega, by go_num, by rw [HST.out]; simpa [iv] using hown2, ?_, by have := hgrow2.size; simp at this; omega, (below_alloc HB.out _).grown hgrow2 (by simp; omega) (fun h e => by have := (HOW.out h e).1; omega)⟩
     refine (World.cell?_of_block (a := ⟨w.heap.size, 0, none⟩) (hgrow2.block w.heap.size (by simp; omega) (hne _ (fun h e => (HOW.out h e).1)))).trans ?_
     exact (World.cell?_of_block (a := ⟨w.heap.size, 0, none⟩) (Below.heap_alloc _ _ _ hsz)).trans HCL.out
    case measure => simp [intOf]; omega
   ·have hf0 : f k = 0 := by omega
    have HST : Hid (comeL f (k + 1) = comeL f k) := by rw [Hid, comeL, if_neg hf]
    rw [hf0] at c1
    go_wp2
    go_roundw
    case rel => exact ⟨k + 1, by omega, by go_num, by rw [HST.out]; exact HO.out, HCL.out, hsz, HB.out⟩
    case measure => simp [intOf]; omega
  ·obtain rfl : k = n := by omega
   have ho := HO.out
   obtain ⟨_, ⟨rfl, hz⟩ | ⟨g, cap, cur, rfl, hbg, hgh, _⟩⟩ := ho
   ·have hnil : comeL f k = [] := List.eq_nil_of_length_eq_zero hz
    go_wp2_with fail
    refine (sort_nil w.heap.size wr).mono ?_
    rintro e w2 ⟨rfl, rfl⟩
    go_wp2_with fail
    go_ret
    exact ⟨[], _, rfl, by rw [hnil], fun i j _ _ h => by simp at h, .inl ⟨rfl, rfl⟩, HB.out⟩
   ·have hlen2 := hlen
    have HCM : Hid (CmpOk wr g w.heap.size k (keyF f)) := ⟨fun a b => cmpI (f a) (f b), fun a b ha hb hba => cmp_key f k a b (by omega) ha hb hba, fun w3 hg3 a b ha hb =>
     cmp_any w.heap.size A k capA f a b w3 (HC.out.below (Nat.le_refl _) (HB.out.grown hg3 (by omega) (fun h e => by cases e; omega)))
      ((World.cell?_of_block (a := ⟨w.heap.size, 0, none⟩) (hg3.block w.heap.size hsz (by intro e; injection e with e; omega))).trans HCL.out) ha hb⟩
    have HSO := Lib.hid (sort_any (w.heap.size + 1) g (comeL f k).length cap w.heap.size k (keyF f) (comeL f k) wr ⟨rfl, HO.out⟩ (fun x hx => (comeL_lt f k x hx).1) HCM.out (by omega) (comeL_inc f k) (fun h20 => HY.out _ _ _ _ _ h20 (Nat.le_refl _)))
    clear hgh
    go_wp2_with fail
    refine (HSO.out).mono ?_
    rintro e w2 ⟨rfl, S', ho2, hm2, hs2, hg2⟩
    have hl : S'.length = (comeL f k).length := hm2.len
    go_wp2_with fail
    go_ret
    exact ⟨S', _, rfl, hm2.perm, by rw [hl]; exact hs2, .inr ⟨g, cap, by rw [hl]; rfl, by omega, by rw [hl]; exact ho2⟩, HB.out.grown hg2 (by omega) (fun h e => by cases e; omega)⟩
end Go.Proofs.YtmkeicfklbepnaaGreat.We

namespace Go.Proofs.YtmkeicfklbepnaaGreat.We
open Go.RowKit

/-- Where what stands at k comes from: two ranges exchanged. -/
def swI (x y n k : Nat) : Nat := if x ≤ k ∧ k < x + n then y + (k - x) else if y ≤ k ∧ k < y + n then x + (k - y) else k
/-- .. two neighbours exchanged: [x, y) and [y, z). -/
def rotI (x y z k : Nat) : Nat := if x ≤ k ∧ k < x + (z - y) then y + (k - x) else if x + (z - y) ≤ k ∧ k < z then k - (z - y) else k
theorem swI_zero (x y k : Nat) : swI x y 0 k = k := by unfold swI; (repeat' split) <;> omega
theorem swI_step (x y n i k : Nat) (hi : i < n) (hxy : x + n ≤ y) : (if k = y + i then swI x y i (x + i) else if k = x + i then swI x y i (y + i) else swI x y i k) = swI x y (i + 1) k := by
 unfold swI
 (repeat' split) <;> omega
/-- The first range the longer one. -/
theorem rot_a (c i j k : Nat) (hic : i ≤ c) (hj : 1 ≤ j) (h : j < i) : swI (c - i) c j (rotI (c - (i - j)) c (c + j) k) = rotI (c - i) c (c + j) k := by
 unfold swI rotI
 (repeat' split) <;> omega
/-- The second one. -/
theorem rot_b (c i j k : Nat) (hic : i ≤ c) (hi : 1 ≤ i) (h : i < j) : swI (c - i) (c + j - i) i (rotI (c - i) c (c + (j - i)) k) = rotI (c - i) c (c + j) k := by
 unfold swI rotI
 (repeat' split) <;> omega
theorem rot_c (c i k : Nat) (hic : i ≤ c) : swI (c - i) c i k = rotI (c - i) c (c + i) k := by
 unfold swI rotI
 (repeat' split) <;> omega

set_option maxRecDepth 100000 in
set_option maxHeartbeats 8000000 in
theorem swapRange_any (base gd m cap x y n : Nat) (cv : Value) (S : List Nat) (w : World) (hO : SnO w base gd m cap S) (hxy : x + n ≤ y) (hy : y + n ≤ m) (hm : m ≤ 1000) (hcv : ∃ fn a b, cv = .func fn a b) :
  Calls Tryz.prog 136 #[.slice (some ⟨gd, 0, none⟩) m cap, .int .i64 x, .int .i64 y, .int .i64 n, cv] w
   fun e w' => e = .returned (.tuple #[]) ∧ ∃ S', SnO w' base gd m cap S' ∧ Mov x (y + n) S S' ∧ (∀ k, at0 S' k = at0 S (swI x y n k)) ∧ w.grownBy w' (some gd) := by
 obtain ⟨fn, a, b, rfl⟩ := hcv
 have HO := Lib.hid hO
 clear hO
 go_enter Tryz.func136, Tryz.ntmps136
 go_wp2
 go_loopw [10] (fun v wr => ∃ i S1, i ≤ n ∧ v = .int .i64 (i : Nat) ∧ SnO wr base gd m cap S1 ∧ Mov x (y + n) S S1 ∧ (∀ k, at0 S1 k = at0 S (swI x y i k)) ∧ w.grownBy wr (some gd)) (fun v _ => n - (intOf v).toNat)
 case atStart => exact ⟨0, S, Nat.zero_le _, rfl, HO.out, Mov.refl _ _ _, fun k => by rw [swI_zero], World.grownBy.refl _ _⟩
 case round =>
  obtain ⟨i, S1, hi, rfl, ho, hmv, hat, hg⟩ := hrel
  by_cases hlt : i < n
  ·have c1 := ho.cell (x + i) (by omega)
   have c2 := ho.cell (y + i) (by omega)
   have f1 := ho.frozen (x + i)
   have f2 := ho.frozen (y + i)
   have HSW := Lib.hid (fun d => (ho.drewN d).swap (x + i) (y + i))
   have HSM := Lib.hid (hmv.trans (swp_mov S1 x (y + n) (x + i) (y + i) (by have := ho.1; omega) (by have := ho.1; omega) (by omega) (by omega)))
   have hsa := fun k => swp_at S1 (x + i) (y + i) k (by have := ho.1; omega) (by have := ho.1; omega)
   have HAT : Hid (∀ k, at0 (swp S1 (x + i) (y + i)) k = at0 S (swI x y (i + 1) k)) := fun k => by
    rw [hsa k, ← swI_step x y n i k hlt hxy]
    by_cases h1 : k = y + i
    ·rw [if_pos h1, if_pos h1, hat]
    ·rw [if_neg h1, if_neg h1]
     by_cases h2 : k = x + i
     ·rw [if_pos h2, if_pos h2, hat]
     ·rw [if_neg h2, if_neg h2, hat]
   have HG := Lib.hid hg
   clear ho hmv hat hg hsa
   have w1 : IntKind.i64.wrap ((x : Int) + (i : Int)) = ((x + i : Nat) : Int) := by rw [IntKind.wrap_i64]; omega
   have w2 : IntKind.i64.wrap ((y : Int) + (i : Int)) = ((y + i : Nat) : Int) := by rw [IntKind.wrap_i64]; omega
   generalize at0 S1 (x + i) = xv at *
   generalize at0 S1 (y + i) = yv at *
   go_wp2
   have HGQ := Lib.hid (gdrew1 HG.out)
   have HSW2 := Lib.hid (show SnO (((wr.drew).setCell ⟨gd, x + i, none⟩ (.int .i64 (yv : Nat))).setCell ⟨gd, y + i, none⟩ (.int .i64 (xv : Nat))) base gd m cap (swp S1 (x + i) (y + i)) from HSW.out 1)
   have b1 : (x : Int) + (i : Int) < m := by omega
   have b2 : (y : Int) + (i : Int) < m := by omega
   have b3 : (0 : Int) ≤ (x : Int) + (i : Int) := by omega
   have b4 : (0 : Int) ≤ (y : Int) + (i : Int) := by omega
   have t1 : ((x : Int) + (i : Int)).toNat = x + i := by omega
   have t2 : ((y : Int) + (i : Int)).toNat = y + i := by omega
   go_region
   all_goals go_wp2
   go_roundw
   case rel => exact ⟨i + 1, _, by omega, by go_num, HSW2.out, HSM.out, HAT.out, gset2 (gset2 HGQ.out _ _) _ _⟩
   case measure => simp [intOf]; omega
  ·obtain rfl : i = n := by omega
   go_wp2
   go_end0
   exact ⟨rfl, S1, ho, hmv, hat, hg⟩

set_option maxRecDepth 100000 in
set_option maxHeartbeats 8000000 in
theorem rotate_any (base gd m cap a c b : Nat) (cv : Value) (S : List Nat) (w : World) (hO : SnO w base gd m cap S) (hac : a < c) (hcb : c < b) (hb : b ≤ m) (hm : m ≤ 1000) (hcv : ∃ fn a b, cv = .func fn a b) :
  Calls Tryz.prog 135 #[.slice (some ⟨gd, 0, none⟩) m cap, .int .i64 a, .int .i64 c, .int .i64 b, cv] w
   fun e w' => e = .returned (.tuple #[]) ∧ ∃ S', SnO w' base gd m cap S' ∧ Mov a b S S' ∧ (∀ k, at0 S' k = at0 S (rotI a c b k)) ∧ w.grownBy w' (some gd) := by
 have HSR := Lib.hid (fun x y n S1 w1 (ho : SnO w1 base gd m cap S1) (h1 : x + n ≤ y) (h2 : y + n ≤ m) => swapRange_any base gd m cap x y n cv S1 w1 ho h1 h2 hm hcv)
 obtain ⟨fn, q1, q2, rfl⟩ := hcv
 have HO := Lib.hid hO
 clear hO
 have w1 : IntKind.i64.wrap ((c : Int) - (a : Int)) = ((c - a : Nat) : Int) := by rw [IntKind.wrap_i64]; omega
 have w2 : IntKind.i64.wrap ((b : Int) - (c : Int)) = ((b - c : Nat) : Int) := by rw [IntKind.wrap_i64]; omega
 go_enter Tryz.func135, Tryz.ntmps135
 go_wp2_with fail
 go_loopw [10, 11] (fun vi vj wr => ∃ i j S1, 1 ≤ i ∧ 1 ≤ j ∧ i ≤ c - a ∧ j ≤ b - c ∧ vi = .int .i64 (i : Nat) ∧ vj = .int .i64 (j : Nat) ∧ SnO wr base gd m cap S1 ∧ Mov a b S S1 ∧ (∀ k, at0 S1 (rotI (c - i) c (c + j) k) = at0 S (rotI a c b k)) ∧ w.grownBy wr (some gd)) (fun vi vj _ => (intOf vi).toNat + (intOf vj).toNat)
 case atStart => exact ⟨c - a, b - c, S, by omega, by omega, Nat.le_refl _, Nat.le_refl _, rfl, rfl, HO.out, Mov.refl _ _ _, fun k => by rw [show c - (c - a) = a by omega, show c + (b - c) = b by omega], World.grownBy.refl _ _⟩
 case round =>
  obtain ⟨i, j, S1, hi1, hj1, hi, hj, rfl, rfl, ho, hmv, hat, hg⟩ := hrel
  have HO1 := Lib.hid ho
  have HM := Lib.hid hmv
  have HAT := Lib.hid hat
  have HG := Lib.hid hg
  clear ho hmv hat hg
  have v1 : IntKind.i64.wrap ((c : Int) - (i : Int)) = ((c - i : Nat) : Int) := by rw [IntKind.wrap_i64]; omega
  rcases Nat.lt_trichotomy i j with hij | hij | hij
  ·have hne : ¬ (i : Int) = (j : Int) := by omega
   have hlt : ¬ (j : Int) < (i : Int) := by omega
   have hltN : ¬ j < i := by omega
   have v2 : IntKind.i64.wrap ((c : Int) + (j : Int)) = ((c + j : Nat) : Int) := by rw [IntKind.wrap_i64]; omega
   have v3 : IntKind.i64.wrap (((c + j : Nat) : Int) - (i : Int)) = ((c + j - i : Nat) : Int) := by rw [IntKind.wrap_i64]; omega
   have v3' : IntKind.i64.wrap ((c : Int) + (j : Int) - (i : Int)) = ((c + j - i : Nat) : Int) := by rw [IntKind.wrap_i64]; omega
   have v4 : IntKind.i64.wrap ((j : Int) - (i : Int)) = ((j - i : Nat) : Int) := by rw [IntKind.wrap_i64]; omega
   have HC := Lib.hid (HSR.out (c - i) (c + j - i) i S1 wr HO1.out (by omega) (by omega))
   go_wp2_with fail
   refine (HC.out).mono ?_
   rintro e w3 ⟨rfl, S2, ho2, hm2, hat2, hg2⟩
   go_wp2_with fail
   go_roundw
   case rel => exact ⟨i, j - i, S2, hi1, by omega, hi, by omega, rfl, rfl, ho2, HM.out.trans (hm2.wide (by omega) (by omega)), fun k => by rw [hat2, rot_b c i j k (by omega) hi1 hij, HAT.out], gtrans HG.out hg2⟩
   case measure => simp [intOf]; omega
  ·subst hij
   have HC := Lib.hid (HSR.out (c - i) c i S1 wr HO1.out (by omega) (by omega))
   go_wp2_with fail
   refine (HC.out).mono ?_
   rintro e w3 ⟨rfl, S2, ho2, hm2, hat2, hg2⟩
   go_wp2_with fail
   go_end0
   exact ⟨rfl, S2, ho2, HM.out.trans (hm2.wide (by omega) (by omega)), fun k => by rw [hat2, rot_c c i k (by omega), HAT.out], gtrans HG.out hg2⟩
  ·have hne : ¬ (i : Int) = (j : Int) := by omega
   have hlt : (j : Int) < (i : Int) := by omega
   have v4 : IntKind.i64.wrap ((i : Int) - (j : Int)) = ((i - j : Nat) : Int) := by rw [IntKind.wrap_i64]; omega
   have HC := Lib.hid (HSR.out (c - i) c j S1 wr HO1.out (by omega) (by omega))
   go_wp2_with fail
   refine (HC.out).mono ?_
   rintro e w3 ⟨rfl, S2, ho2, hm2, hat2, hg2⟩
   go_wp2_with fail
   go_roundw
   case rel => exact ⟨i - j, j, S2, by omega, hj1, by omega, hj, rfl, rfl, ho2, HM.out.trans (hm2.wide (by omega) (by omega)), fun k => by rw [hat2, rot_a c i j k (by omega) hj1 hij, HAT.out], gtrans HG.out hg2⟩
   case measure => simp [intOf]; omega
end Go.Proofs.YtmkeicfklbepnaaGreat.We

namespace Go.Proofs.YtmkeicfklbepnaaGreat.We
open Go.RowKit

set_option maxRecDepth 100000 in
set_option maxHeartbeats 8000000 in
theorem sym_one (base gd m cap a c b pc n : Nat) (f : Nat → Nat) (S : List Nat) (w : World) (hO : SnO w base gd m cap S) (hx : ∀ x ∈ S, x < n) (hC : CmpOk w gd pc n f) (hac : c = a + 1) (hcb : c < b) (hb : b ≤ m) (hm : m ≤ 1000) (hs : SrtOn f c b S) (hord : Ord a c b S) :
  Calls Tryz.prog 134 #[.slice (some ⟨gd, 0, none⟩) m cap, .int .i64 (a : Nat), .int .i64 (c : Nat), .int .i64 (b : Nat), .func (.func 118) #[] #[.pointer (some ⟨pc, 0, none⟩)]] w
   fun e w' => e = .returned (.tuple #[]) ∧ ∃ S', SnO w' base gd m cap S' ∧ Mov a b S S' ∧ SrtOn f a b S' ∧ w.grownBy w' (some gd) := by
 have HX : Hid (∀ k, k < m → at0 S k < n) := fun k hk => by
  have hl : S.length = m := hO.1
  refine hx _ ?_
  rw [at0, List.getElem?_eq_getElem (by omega)]
  exact List.getElem_mem _
 obtain ⟨cm, hcm, hC⟩ := hC
 have HCI := Lib.hid hcm
 have HORD := Lib.hid hord
 clear hcm hord
 have HC := Lib.hid hC
 have HO := Lib.hid hO
 have HS := Lib.hid hs
 have HAC := Lib.hid hac
 have hbnd : a < c := by omega
 have hca : c ≤ a + 1 := by omega
 clear hC hx hO hs
 have v0 : IntKind.i64.wrap ((c : Int) - (a : Int)) = 1 := by rw [IntKind.wrap_i64]; omega
 clear hac
 go_enter Tryz.func134, Tryz.ntmps134
 go_wp2_with fail
 go_loopw [10, 11] (fun vi vj wr => ∃ i j d, c ≤ i ∧ i ≤ j ∧ j ≤ b ∧ vi = .int .i64 (i : Nat) ∧ vj = .int .i64 (j : Nat) ∧ wr = w.drewN d ∧ (∀ q, c ≤ q → q < i → f (at0 S q) < f (at0 S a)) ∧ (∀ q, j ≤ q → q < b → f (at0 S a) ≤ f (at0 S q))) (fun vi vj _ => (intOf vj - intOf vi).toNat)
 case atStart => exact ⟨c, b, 0, Nat.le_refl _, by omega, Nat.le_refl _, rfl, rfl, rfl, fun q h1 h2 => by omega, fun q h1 h2 => by omega⟩
 case round =>
  obtain ⟨i, j, d, hci, hij, hjb, rfl, rfl, rfl, hlo, hhi⟩ := hrel
  have HLO := Lib.hid hlo
  have HHI := Lib.hid hhi
  clear hlo hhi
  by_cases hlt : i < j
  ·obtain ⟨h, hh⟩ : ∃ h, h = (i + j) / 2 := ⟨_, rfl⟩
   have hih : i ≤ h := by omega
   have hhj : h < j := by omega
   have HO2 := Lib.hid (HO.out.drewN d)
   have HG2 := Lib.hid (gdrewN w d (some gd))
   obtain ⟨w2, hw2⟩ : ∃ w2, w2 = w.drewN d := ⟨_, rfl⟩
   rw [← hw2] at HO2 HG2 ⊢
   have HW2 := Lib.hid hw2
   clear hw2
   have c1 := HO2.out.cell h (by omega)
   have c2 := HO2.out.cell a (by omega)
   have hq1 := HX.out h (by omega)
   have hq2 := HX.out a (by omega)
   have HCM := Lib.hid (fun d2 => HC.out (w2.drewN d2) (gdrew HG2.out d2) _ _ hq1 hq2)
   have HCC := Lib.hid (HCI.out _ _ hq1 hq2 (HORD.out a h (Nat.le_refl _) (by omega) (by omega) (by omega)))
   have HUP : Hid (f (at0 S h) < f (at0 S a) → ∀ q, c ≤ q → q < h + 1 → f (at0 S q) < f (at0 S a)) := fun hlt2 q h1 h2 => Nat.lt_of_le_of_lt (HS.out q h h1 (by omega) (by omega)) hlt2
   have HDN : Hid (¬ f (at0 S h) < f (at0 S a) → ∀ q, h ≤ q → q < b → f (at0 S a) ≤ f (at0 S q)) := fun hlt2 q h1 h2 => Nat.le_trans (by omega) (HS.out h q (by omega) h1 h2)
   go_wp2_with fail
   rw [show ((i : Int) + (j : Int)) / 2 = ((h : Nat) : Int) by omega]
   clear hh
   generalize hx1 : at0 S h = x at *
   generalize hx2 : at0 S a = y at *
   have HX2 := Lib.hid hx2
   clear hx1 hx2
   by_cases hfx : f x < f y
   ·have hc := HCC.out.2 hfx
    go_quiet (first | (go_at_call 118; exact Calls.quiet_of (HCM.out _)))
    go_wp2_with fail
    go_roundw
    case rel => exact ⟨h + 1, j, _, by omega, by omega, hjb, by go_num, rfl, (by rw [HW2.out]; exact World.drewN_drewN w d nq), by rw [HX2.out]; exact HUP.out hfx, by rw [HX2.out]; exact HHI.out⟩
    case measure => simp [intOf]; omega
   ·have hc : ¬ cm x y < 0 := fun h => hfx (HCC.out.1 h)
    go_quiet (first | (go_at_call 118; exact Calls.quiet_of (HCM.out _)))
    go_wp2_with fail
    go_roundw
    case rel => exact ⟨i, h, _, by omega, by omega, by omega, rfl, rfl, (by rw [HW2.out]; exact World.drewN_drewN w d nq), by rw [HX2.out]; exact HLO.out, by rw [HX2.out]; exact HDN.out hfx⟩
    case measure => simp [intOf]; omega
  ·obtain rfl : i = j := by omega
   have HO2 := Lib.hid (HO.out.drewN d)
   have HG2 := Lib.hid (gdrewN w d (some gd))
   generalize w.drewN d = w2 at *
   have v1 : IntKind.i64.wrap ((i : Int) - 1) = ((i - 1 : Nat) : Int) := by rw [IntKind.wrap_i64]; omega
   go_wp2_with fail
   go_loopw [13] (fun vk wr => ∃ k S1, a ≤ k ∧ k ≤ i - 1 ∧ vk = .int .i64 (k : Nat) ∧ SnO wr base gd m cap S1 ∧ Mov a b S S1 ∧ (∀ p, at0 S1 p = if a ≤ p ∧ p < k then at0 S (p + 1) else if p = k then at0 S a else at0 S p) ∧ w.grownBy wr (some gd)) (fun vk _ => i - (intOf vk).toNat)
   case atStart => exact ⟨a, S, Nat.le_refl _, by omega, rfl, HO2.out, Mov.refl _ _ _, fun p => by rw [if_neg (by omega)]; split <;> simp_all, HG2.out⟩
   case round =>
    obtain ⟨k, S1, hak, hki, rfl, ho, hmv, hat, hg⟩ := hrel
    by_cases hlt2 : k < i - 1
    ·have c1 := ho.cell k (by omega)
     have c2 := ho.cell (k + 1) (by omega)
     have f1 := ho.frozen k
     have f2 := ho.frozen (k + 1)
     have HSW := Lib.hid (fun d => (ho.drewN d).swap k (k + 1))
     have HSM := Lib.hid (hmv.trans (swp_mov S1 a b k (k + 1) (by have := ho.1; omega) (by have := ho.1; omega) (by omega) (by omega)))
     have hsa := fun p => swp_at S1 k (k + 1) p (by have := ho.1; omega) (by have := ho.1; omega)
     have HAT : Hid (∀ p, at0 (swp S1 k (k + 1)) p = if a ≤ p ∧ p < k + 1 then at0 S (p + 1) else if p = k + 1 then at0 S a else at0 S p) := fun p => by
      rw [hsa p]
      by_cases h1 : p = k + 1
      ·rw [if_pos h1, if_neg (by omega), if_pos h1, hat, if_neg (by omega), if_pos rfl]
      ·rw [if_neg h1]
       by_cases h2 : p = k
       ·subst h2
        rw [if_pos rfl, if_pos (by omega), hat, if_neg (by omega), if_neg (by omega)]
       ·rw [if_neg h2, hat, if_neg h1]
        by_cases h3 : a ≤ p ∧ p < k
        ·rw [if_pos h3, if_pos (by omega)]
        ·rw [if_neg h3, if_neg h2, if_neg (by omega)]
     have HG3 := Lib.hid hg
     clear ho hmv hat hg hsa
     have x1 : (k : Int) < ((i - 1 : Nat) : Int) := by omega
     have x2 : IntKind.i64.wrap ((k : Int) + 1) = ((k + 1 : Nat) : Int) := by rw [IntKind.wrap_i64]; omega
     have x3 : (k : Int) + 1 < m := by omega
     have x4 : (0 : Int) ≤ (k : Int) + 1 := by omega
     generalize at0 S1 k = xv at *
     generalize at0 S1 (k + 1) = yv at *
     go_wp2_with fail
     have HGQ := Lib.hid (gdrew1 HG3.out)
     have HSW2 := Lib.hid (show SnO (((wr.drew).setCell ⟨gd, k, none⟩ (.int .i64 (yv : Nat))).setCell ⟨gd, k + 1, none⟩ (.int .i64 (xv : Nat))) base gd m cap (swp S1 k (k + 1)) from HSW.out 1)
     go_region
     all_goals go_wp2_with fail
     go_roundw
     case rel => exact ⟨k + 1, _, by omega, by omega, by go_num, HSW2.out, HSM.out, HAT.out, gset2 (gset2 HGQ.out _ _) _ _⟩
     case measure => simp [intOf]; omega
    ·obtain rfl : k = i - 1 := by omega
     have x1 : ¬ ((i - 1 : Nat) : Int) < ((i - 1 : Nat) : Int) := by omega
     have HF : Hid (SrtOn f a b S1) := by
      intro p q h1 h2 h3
      rw [hat p, hat q]
      by_cases e1 : q < i - 1
      ·rw [if_pos (by omega), if_pos (by omega)]
       exact HS.out _ _ (by omega) (by omega) (by omega)
      ·rw [if_neg (show ¬ (a ≤ q ∧ q < i - 1) by omega)]
       by_cases e2 : q = i - 1
       ·rw [if_pos e2]
        by_cases e3 : p < i - 1
        ·rw [if_pos (by omega)]; exact Nat.le_of_lt (HLO.out _ (by omega) (by omega))
        ·rw [if_neg (by omega), if_pos (by omega)]; exact Nat.le_refl _
       ·rw [if_neg e2]
        by_cases e3 : p < i - 1
        ·rw [if_pos (by omega)]; exact HS.out _ _ (by omega) (by omega) (by omega)
        ·rw [if_neg (by omega)]
         by_cases e4 : p = i - 1
         ·rw [if_pos e4]; exact HHI.out _ (by omega) (by omega)
         ·rw [if_neg e4]; exact HS.out _ _ (by omega) (by omega) (by omega)
     have HO3 := Lib.hid ho
     have HM3 := Lib.hid hmv
     have HG3 := Lib.hid hg
     clear ho hmv hg hat
     go_wp2_with fail
     refine bodyPost_ret (results_none rfl _ _ _) rfl ?_
     exact ⟨rfl, S1, HO3.out, HM3.out, HF.out, HG3.out⟩
end Go.Proofs.YtmkeicfklbepnaaGreat.We

namespace Go.Proofs.YtmkeicfklbepnaaGreat.We
open Go.RowKit

set_option maxRecDepth 100000 in
set_option maxHeartbeats 8000000 in
theorem sym_two (base gd m cap a c b pc n : Nat) (f : Nat → Nat) (S : List Nat) (w : World) (hO : SnO w base gd m cap S) (hx : ∀ x ∈ S, x < n) (hC : CmpOk w gd pc n f) (hac : a + 2 ≤ c) (hcb : b = c + 1) (hb : b ≤ m) (hm : m ≤ 1000) (hs : SrtOn f a c S) (hord : Ord a c b S) :
  Calls Tryz.prog 134 #[.slice (some ⟨gd, 0, none⟩) m cap, .int .i64 (a : Nat), .int .i64 (c : Nat), .int .i64 (b : Nat), .func (.func 118) #[] #[.pointer (some ⟨pc, 0, none⟩)]] w
   fun e w' => e = .returned (.tuple #[]) ∧ ∃ S', SnO w' base gd m cap S' ∧ Mov a b S S' ∧ SrtOn f a b S' ∧ w.grownBy w' (some gd) := by
 have HX : Hid (∀ k, k < m → at0 S k < n) := fun k hk => by
  have hl : S.length = m := hO.1
  refine hx _ ?_
  rw [at0, List.getElem?_eq_getElem (by omega)]
  exact List.getElem_mem _
 obtain ⟨cm, hcm, hC⟩ := hC
 have HCI := Lib.hid hcm
 have HORD := Lib.hid hord
 clear hcm hord
 have HC := Lib.hid hC
 have HO := Lib.hid hO
 have HS := Lib.hid hs
 have HCB := Lib.hid hcb
 have hbnd : c < b := by omega
 have hbc : b ≤ c + 1 := by omega
 clear hC hx hO hs
 have v0 : IntKind.i64.wrap ((c : Int) - (a : Int)) = ((c - a : Nat) : Int) := by rw [IntKind.wrap_i64]; omega
 have v1 : IntKind.i64.wrap ((b : Int) - (c : Int)) = 1 := by rw [IntKind.wrap_i64]; omega
 have v2 : (((c - a : Nat) : Int) == 1) = false := by rw [beq_eq_false_iff_ne]; omega
 have v3 : ¬ ((c - a : Nat) : Int) = 1 := by omega
 have v4 : ¬ (c - a) = 1 := by omega
 clear hcb
 go_enter Tryz.func134, Tryz.ntmps134
 go_wp2_with fail
 go_loopw [14, 15] (fun vi vj wr => ∃ i j d, a ≤ i ∧ i ≤ j ∧ j ≤ c ∧ vi = .int .i64 (i : Nat) ∧ vj = .int .i64 (j : Nat) ∧ wr = w.drewN d ∧ (∀ q, a ≤ q → q < i → f (at0 S q) ≤ f (at0 S c)) ∧ (∀ q, j ≤ q → q < c → f (at0 S c) < f (at0 S q))) (fun vi vj _ => (intOf vj - intOf vi).toNat)
 case atStart => exact ⟨a, c, 0, Nat.le_refl _, by omega, Nat.le_refl _, rfl, rfl, rfl, fun q h1 h2 => by omega, fun q h1 h2 => by omega⟩
 case round =>
  obtain ⟨i, j, d, hci, hij, hjb, rfl, rfl, rfl, hlo, hhi⟩ := hrel
  have HLO := Lib.hid hlo
  have HHI := Lib.hid hhi
  clear hlo hhi
  by_cases hlt : i < j
  ·obtain ⟨h, hh⟩ : ∃ h, h = (i + j) / 2 := ⟨_, rfl⟩
   have hih : i ≤ h := by omega
   have hhj : h < j := by omega
   have HO2 := Lib.hid (HO.out.drewN d)
   have HG2 := Lib.hid (gdrewN w d (some gd))
   obtain ⟨w2, hw2⟩ : ∃ w2, w2 = w.drewN d := ⟨_, rfl⟩
   rw [← hw2] at HO2 HG2 ⊢
   have HW2 := Lib.hid hw2
   clear hw2
   have c1 := HO2.out.cell h (by omega)
   have c2 := HO2.out.cell c (by omega)
   have hq1 := HX.out h (by omega)
   have hq2 := HX.out c (by omega)
   have HCM := Lib.hid (fun d2 => HC.out (w2.drewN d2) (gdrew HG2.out d2) _ _ hq2 hq1)
   have HCC := Lib.hid (HCI.out _ _ hq2 hq1 (HORD.out h c (by omega) (by omega) (Nat.le_refl _) (by omega)))
   have HUP : Hid (¬ f (at0 S c) < f (at0 S h) → ∀ q, a ≤ q → q < h + 1 → f (at0 S q) ≤ f (at0 S c)) := fun hlt2 q h1 h2 => Nat.le_trans (HS.out q h h1 (by omega) (by omega)) (by omega)
   have HDN : Hid (f (at0 S c) < f (at0 S h) → ∀ q, h ≤ q → q < c → f (at0 S c) < f (at0 S q)) := fun hlt2 q h1 h2 => Nat.lt_of_lt_of_le hlt2 (HS.out h q (by omega) h1 h2)
   go_wp2_with fail
   rw [show ((i : Int) + (j : Int)) / 2 = ((h : Nat) : Int) by omega]
   clear hh
   generalize hx1 : at0 S h = x at *
   generalize hx2 : at0 S c = y at *
   have HX2 := Lib.hid hx2
   clear hx1 hx2
   by_cases hfx : f y < f x
   ·have hc := HCC.out.2 hfx
    go_quiet (first | (go_at_call 118; exact Calls.quiet_of (HCM.out _)))
    go_wp2_with fail
    go_roundw
    case rel => exact ⟨i, h, _, by omega, by omega, by omega, rfl, rfl, (by rw [HW2.out]; exact World.drewN_drewN w d nq), by rw [HX2.out]; exact HLO.out, by rw [HX2.out]; exact HDN.out hfx⟩
    case measure => simp [intOf]; omega
   ·have hc : ¬ cm y x < 0 := fun h => hfx (HCC.out.1 h)
    go_quiet (first | (go_at_call 118; exact Calls.quiet_of (HCM.out _)))
    go_wp2_with fail
    go_roundw
    case rel => exact ⟨h + 1, j, _, by omega, by omega, hjb, by go_num, rfl, (by rw [HW2.out]; exact World.drewN_drewN w d nq), by rw [HX2.out]; exact HUP.out hfx, by rw [HX2.out]; exact HHI.out⟩
    case measure => simp [intOf]; omega
  ·obtain rfl : i = j := by omega
   have HO2 := Lib.hid (HO.out.drewN d)
   have HG2 := Lib.hid (gdrewN w d (some gd))
   generalize w.drewN d = w2 at *
   go_wp2_with fail
   go_loopw [17] (fun vk wr => ∃ k S1, i ≤ k ∧ k ≤ c ∧ vk = .int .i64 (k : Nat) ∧ SnO wr base gd m cap S1 ∧ Mov a b S S1 ∧ (∀ p, at0 S1 p = if k < p ∧ p ≤ c then at0 S (p - 1) else if p = k then at0 S c else at0 S p) ∧ w.grownBy wr (some gd)) (fun vk _ => (intOf vk).toNat)
   case atStart => exact ⟨c, S, by omega, Nat.le_refl _, rfl, HO2.out, Mov.refl _ _ _, fun p => by rw [if_neg (by omega)]; split <;> simp_all, HG2.out⟩
   case round =>
    obtain ⟨k0, S1, hak, hki, rfl, ho, hmv, hat, hg⟩ := hrel
    by_cases hlt2 : i < k0
    ·obtain ⟨k, rfl⟩ : ∃ k, k0 = k + 1 := ⟨k0 - 1, by omega⟩
     have c1 := ho.cell k (by omega)
     have c2 := ho.cell (k + 1) (by omega)
     have f1 := ho.frozen k
     have f2 := ho.frozen (k + 1)
     have HSW := Lib.hid (fun d => (ho.drewN d).swap (k + 1) k)
     have HSM := Lib.hid (hmv.trans (swp_mov S1 a b (k + 1) k (by have := ho.1; omega) (by have := ho.1; omega) (by omega) (by omega)))
     have hsa := fun p => swp_at S1 (k + 1) k p (by have := ho.1; omega) (by have := ho.1; omega)
     have HAT : Hid (∀ p, at0 (swp S1 (k + 1) k) p = if k < p ∧ p ≤ c then at0 S (p - 1) else if p = k then at0 S c else at0 S p) := fun p => by
      rw [hsa p]
      by_cases h1 : p = k
      ·rw [if_pos h1, if_neg (by omega), if_pos h1, hat, if_neg (by omega), if_pos rfl]
      ·rw [if_neg h1]
       by_cases h2 : p = k + 1
       ·subst h2
        rw [if_pos rfl, if_pos (by omega), hat, if_neg (by omega), if_neg (by omega), Nat.add_sub_cancel]
       ·rw [if_neg h2, hat, if_neg h1]
        by_cases h3 : k + 1 < p ∧ p ≤ c
        ·rw [if_pos h3, if_pos (by omega)]
        ·rw [if_neg h3, if_neg h2, if_neg (by omega)]
     have HG3 := Lib.hid hg
     clear ho hmv hat hg hsa
     have x1 : (i : Int) < (k : Int) + 1 := by omega
     have hI2 : IntKind.i64.wrap ((k : Int) + 1 - 1) = k := by rw [IntKind.wrap_i64]; omega
     have hI3 : IntKind.i64.wrap (k : Int) = k := by rw [IntKind.wrap_i64]; omega
     have x3 : (k : Int) + 1 < m := by omega
     have x4 : (0 : Int) ≤ (k : Int) + 1 := by omega
     have x5 : (k : Int) < m := by omega
     generalize at0 S1 k = xv at *
     generalize at0 S1 (k + 1) = yv at *
     go_wp2_with fail
     have HGQ := Lib.hid (gdrew1 HG3.out)
     have HSW2 := Lib.hid (show SnO (((wr.drew).setCell ⟨gd, k + 1, none⟩ (.int .i64 (xv : Nat))).setCell ⟨gd, k, none⟩ (.int .i64 (yv : Nat))) base gd m cap (swp S1 (k + 1) k) from HSW.out 1)
     go_region
     all_goals go_wp2_with fail
     go_roundw
     case rel => exact ⟨k, _, by omega, by omega, by go_num, HSW2.out, HSM.out, HAT.out, gset2 (gset2 HGQ.out _ _) _ _⟩
     case measure => simp [intOf]
    ·obtain rfl : k0 = i := by omega
     have x1 : ¬ (k0 : Int) < (k0 : Int) := by omega
     have HF : Hid (SrtOn f a b S1) := by
      intro p q h1 h2 h3
      rw [hat p, hat q]
      by_cases e1 : k0 < q
      ·rw [if_pos (show k0 < q ∧ q ≤ c by omega)]
       by_cases e2 : k0 < p
       ·rw [if_pos (by omega)]
        exact HS.out _ _ (by omega) (by omega) (by omega)
       ·rw [if_neg (by omega)]
        by_cases e3 : p = k0
        ·rw [if_pos e3]; exact Nat.le_of_lt (HHI.out _ (by omega) (by omega))
        ·rw [if_neg e3]; exact HS.out _ _ (by omega) (by omega) (by omega)
      ·rw [if_neg (show ¬ (k0 < q ∧ q ≤ c) by omega), if_neg (show ¬ (k0 < p ∧ p ≤ c) by omega)]
       by_cases e2 : q = k0
       ·rw [if_pos e2]
        by_cases e3 : p = k0
        ·rw [if_pos e3]; exact Nat.le_refl _
        ·rw [if_neg e3]; exact HLO.out _ (by omega) (by omega)
       ·rw [if_neg e2, if_neg (by omega)]
        exact HS.out _ _ (by omega) (by omega) (by omega)
     have HO3 := Lib.hid ho
     have HM3 := Lib.hid hmv
     have HG3 := Lib.hid hg
     clear ho hmv hg hat
     go_wp2_with fail
     refine bodyPost_ret (results_none rfl _ _ _) rfl ?_
     exact ⟨rfl, S1, HO3.out, HM3.out, HF.out, HG3.out⟩
end Go.Proofs.YtmkeicfklbepnaaGreat.We
