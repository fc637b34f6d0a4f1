/-
  A stable sort of items: the insertion sort.
  A stable sort of items: the blocks of twenty, the merging.
-/
import Derived.Test.YtmeapijckncoeaaGreatDoorPkBA

namespace Go.Proofs.YtmeapijckncoeaaGreatDoor.Is
set_option maxRecDepth 100000
set_option linter.unusedSimpArgs false
set_option linter.unusedVariables false
open Go.RowKit Go.Joins Go.Deep
theorem setC8 (w : World) (gd o : Nat) (X : Itm) : w.setCells gd o X.cellsL = ((((((((w.setCell ⟨gd, o, none⟩ (.string X.s)).setCell ⟨gd, o + 1, none⟩ (.int .i64 X.k)).setCell ⟨gd, o + 2, none⟩ (.int .u32 X.m)).setCell ⟨gd, o + 3, none⟩ (.int .u32 X.u)).setCell ⟨gd, o + 4, none⟩ (.int .u32 X.g)).setCell ⟨gd, o + 5, none⟩ (.int .i64 X.t)).setCell ⟨gd, o + 6, none⟩ (.int .i64 X.a)).setCell ⟨gd, o + 7, none⟩ (.string X.d)) := by
  simp only [Itm.cellsL, World.setCells, Nat.add_assoc, Nat.reduceAdd]
theorem and16 {a b c d e f g h a' b' c' d' e' f' g' h' : Prop} (k : (a ∧ b ∧ c ∧ d ∧ e ∧ f ∧ g ∧ h) ∧ (a' ∧ b' ∧ c' ∧ d' ∧ e' ∧ f' ∧ g' ∧ h')) : a ∧ b ∧ c ∧ d ∧ e ∧ f ∧ g ∧ h ∧ a' ∧ b' ∧ c' ∧ d' ∧ e' ∧ f' ∧ g' ∧ h' := by
  obtain ⟨⟨k0, k1, k2, k3, k4, k5, k6, k7⟩, l⟩ := k
  exact ⟨k0, k1, k2, k3, k4, k5, k6, k7, l⟩
set_option maxRecDepth 100000 in
set_option maxHeartbeats 8000000 in
theorem ins_any (T : Nat → Itm) (base gd m cap a b pc n : Nat) (f : Nat → Nat) (S : List Nat) (w : World) (hO : SnO T w base gd m cap S) (hx : ∀ x ∈ S, x < n) (hC : CmpOk T w gd pc n f) (hab : b ≤ m) (ha : a ≤ m) (hm : m ≤ 1000000) (hinc : ∀ p q, a ≤ p → p < q → q < b → at0 S p < at0 S q) :
    Calls Tryz.prog 84 #[.slice (some ⟨gd, 0, none⟩) m cap, .int .i64 a, .int .i64 b, .func (.func 44) #[] #[]] w
      fun e w' => e = .returned (.tuple #[]) ∧ ∃ S', SnO T w' base gd m cap S' ∧ Mov a b S S' ∧ SrtOn f a b S' ∧ w.grownBy w' (some gd) := by
  obtain ⟨cm, hcm, hC⟩ := hC
  have HCI := Lib.hid hcm
  have HINC := Lib.hid hinc
  have HC := Lib.hid hC
  clear hcm hinc
  have HX : Hid (∀ S', S'.Perm S → ∀ k, k < m → at0 S' k < n) := fun S' hp k hk => by
    have hl : S'.length = m := by rw [hp.length_eq, hO.1]
    refine hx _ (hp.mem_iff.1 ?_)
    rw [at0, List.getElem?_eq_getElem (by omega)]
    exact List.getElem_mem _
  have HO := Lib.hid hO
  clear hC hx hO
  have hw1 : IntKind.i64.wrap ((a : Int) + 1) = ((a + 1 : Nat) : Int) := by rw [IntKind.wrap_i64]; omega
  go_enter Tryz.func84, Tryz.ntmps84
  go_wp2
  go_loopw [8] (fun v wr => ∃ i S1, a < i ∧ (i ≤ b ∨ i = a + 1) ∧ v = .int .i64 (i : Nat) ∧ SnO T wr base gd m cap S1 ∧ Mov a b S S1 ∧ SrtOn f a i S1 ∧ w.grownBy wr (some gd) ∧ Mov a i S S1) (fun v _ => (m + 2) - (intOf v).toNat)
  case atStart =>
    exact ⟨a + 1, S, by omega, .inr rfl, by go_num, HO.out, Mov.refl _ _ _, fun i j h1 h2 h3 => by rw [show i = j by omega]; exact Nat.le_refl _, World.grownBy.refl _ _, Mov.refl _ _ _⟩
  case round =>
    obtain ⟨i, S1, hai, hib, rfl, ho, hmv, hsr, hg, hmi⟩ := hrel
    by_cases hlt : i < b
    · have HO1 := Lib.hid ho
      have HM := Lib.hid hmv
      have HG := Lib.hid hg
      have HS := Lib.hid hsr
      have HMI := Lib.hid hmi
      clear ho hmv hg hsr hmi
      go_wp2
      go_loopw [9] (fun v wr2 => ∃ j S2, a ≤ j ∧ j ≤ i ∧ v = .int .i64 (j : Nat) ∧ SnO T wr2 base gd m cap S2 ∧ Mov a b S S2 ∧ (∀ p q, a ≤ p → p ≤ q → q ≤ i → p ≠ j → q ≠ j → f (at0 S2 p) ≤ f (at0 S2 q)) ∧ (∀ q, j < q → q ≤ i → f (at0 S2 j) ≤ f (at0 S2 q)) ∧ w.grownBy wr2 (some gd) ∧ Mov a (i + 1) S S2 ∧ at0 S2 j = at0 S i ∧ (∀ p, a ≤ p → p ≤ i → p ≠ j → at0 S2 p < at0 S i)) (fun v _ => (intOf v).toNat)
      case atStart => exact ⟨i, S1, by omega, Nat.le_refl _, rfl, HO1.out, HM.out, fun p q h1 h2 h3 h4 h5 => HS.out p q h1 h2 (by omega), fun q h1 h2 => by omega, HG.out, HMI.out.wide (Nat.le_refl _) (by omega), HMI.out.out i (.inr (Nat.le_refl _)), fun p h1 h2 h3 => by
        obtain ⟨p', e1, e2, e3⟩ := HMI.out.ins p h1 (by omega)
        rw [e3]
        exact HINC.out p' i e1 e2 hlt⟩
      case round =>
        obtain ⟨j, S2, haj, hji, rfl, ho, hmv, hs1, hs2, hg, hmi, hat, hbf⟩ := hrel
        have HMI2 := Lib.hid hmi
        have HAT := Lib.hid hat
        have HBF := Lib.hid hbf
        clear hmi hat hbf
        have HO2 := Lib.hid ho
        have HM2 := Lib.hid hmv
        have HG2 := Lib.hid hg
        have HS1 := Lib.hid hs1
        have HS2 := Lib.hid hs2
        -- the inner loop's way out
        have OUT : Hid ((j = a ∨ ¬ f (at0 S2 j) < f (at0 S2 (j - 1))) → ∀ wx : World, SnO T wx base gd m cap S2 → w.grownBy wx (some gd) → ∃ i' S', a < i' ∧ (i' ≤ b ∨ i' = a + 1) ∧ Value.int .i64 ((i : Int) + 1) = .int .i64 (i' : Nat) ∧ SnO T wx base gd m cap S' ∧ Mov a b S S' ∧ SrtOn f a i' S' ∧ w.grownBy wx (some gd) ∧ Mov a i' S S') := fun hs wx hox hgx =>
          ⟨i + 1, S2, by omega, .inl (by omega), by go_num, hox, HM2.out, fun p q h1 h2 h3 => by
            by_cases e1 : q = j
            · by_cases e2 : p = j
              · rw [e1, e2]; exact Nat.le_refl _
              · have h5 := HS1.out p (j - 1) h1 (by omega) (by omega) e2 (by omega)
                subst e1
                omega
            · by_cases e2 : p = j
              · subst e2; exact HS2.out q (by omega) (by omega)
              · exact HS1.out p q h1 h2 (by omega) e2 e1, hgx, HMI2.out⟩
        clear ho hmv hg hs1 hs2
        by_cases hja : a < j
        · obtain ⟨k, rfl⟩ : ∃ k, j = k + 1 := ⟨j - 1, by omega⟩
          have hc1 := HO2.out.c8 (k + 1) (by omega)
          have hc2 := HO2.out.c8 k (by omega)
          have hq1 := HX.out S2 HM2.out.perm (k + 1) (by omega)
          have hq2 := HX.out S2 HM2.out.perm k (by omega)
          have HCM := Lib.hid (fun w1 hg1 => HC.out w1 hg1 _ _ hq1 hq2)
          have hI1 : (a : Int) < (k : Int) + 1 := by omega
          have hI2 : IntKind.i64.wrap ((k : Int) + 1 - 1) = k := by rw [IntKind.wrap_i64]; omega
          have hI3 : IntKind.i64.wrap (k : Int) = k := by rw [IntKind.wrap_i64]; omega
          have hI4 : (k : Int) < m := by omega
          have hI5 : (k : Int) + 1 < m := by omega
          have hI6 : (0 : Int) ≤ (k : Int) + 1 := by omega
          have HKO := Lib.hid (fun (w1 : World) (hb : Below wr.heap.size wr w1) => HO2.out.below hb)
          have HSWF := Lib.hid (fun (w1 : World) (h : SnO T w1 base gd m cap S2) => h.swap (k + 1) k (by omega) (by omega))
          have HSM := Lib.hid (swp_mov S2 a b (k + 1) k (by have := HO2.out.1; omega) (by have := HO2.out.1; omega) (by omega) (by omega))
          have HSM2 := Lib.hid (swp_mov S2 a (i + 1) (k + 1) k (by have := HO2.out.1; omega) (by have := HO2.out.1; omega) (by omega) (by omega))
          have HBW : Hid (∀ w1 : World, Below wr.heap.size wr w1 → C8 w1 gd ((k + 1) * 8) (T (at0 S2 (k + 1))) ∧ C8 w1 gd (k * 8) (T (at0 S2 k))) := fun w1 hb => ⟨(HO2.out.below hb).c8 (k + 1) (by omega), (HO2.out.below hb).c8 k (by omega)⟩
          have HLT : Hid (at0 S2 k < at0 S2 (k + 1)) := by rw [Hid, HAT.out]; exact HBF.out k (by omega) (by omega) (by omega)
          have HSA := Lib.hid (fun p => swp_at S2 (k + 1) k p (by have := HO2.out.1; omega) (by have := HO2.out.1; omega))
          generalize hx1 : at0 S2 (k + 1) = x at *
          generalize hx2 : at0 S2 k = y at *
          have HX1 := Lib.hid hx1
          have HX2 := Lib.hid hx2
          clear hx1 hx2
          simp only [Itm.cells] at HCM
          obtain ⟨p0, p1, p2, p3, p4, p5, p6, p7⟩ := hc1
          obtain ⟨q0, q1, q2, q3, q4, q5, q6, q7⟩ := hc2
          have k0 : wr.cell? ⟨gd, (k + 1) * 8, none⟩ = some (.string (T x).s) ∧ wr.cell? ⟨gd, (k + 1) * 8 + 1, none⟩ = some (.int .i64 (T x).k) ∧ wr.cell? ⟨gd, (k + 1) * 8 + 2, none⟩ = some (.int .u32 (T x).m) ∧ wr.cell? ⟨gd, (k + 1) * 8 + 3, none⟩ = some (.int .u32 (T x).u) ∧ wr.cell? ⟨gd, (k + 1) * 8 + 4, none⟩ = some (.int .u32 (T x).g) ∧ wr.cell? ⟨gd, (k + 1) * 8 + 5, none⟩ = some (.int .i64 (T x).t) ∧ wr.cell? ⟨gd, (k + 1) * 8 + 6, none⟩ = some (.int .i64 (T x).a) ∧ wr.cell? ⟨gd, (k + 1) * 8 + 7, none⟩ = some (.string (T x).d) ∧ wr.cell? ⟨gd, k * 8, none⟩ = some (.string (T y).s) ∧ wr.cell? ⟨gd, k * 8 + 1, none⟩ = some (.int .i64 (T y).k) ∧ wr.cell? ⟨gd, k * 8 + 2, none⟩ = some (.int .u32 (T y).m) ∧ wr.cell? ⟨gd, k * 8 + 3, none⟩ = some (.int .u32 (T y).u) ∧ wr.cell? ⟨gd, k * 8 + 4, none⟩ = some (.int .u32 (T y).g) ∧ wr.cell? ⟨gd, k * 8 + 5, none⟩ = some (.int .i64 (T y).t) ∧ wr.cell? ⟨gd, k * 8 + 6, none⟩ = some (.int .i64 (T y).a) ∧ wr.cell? ⟨gd, k * 8 + 7, none⟩ = some (.string (T y).d) := ⟨p0, p1, p2, p3, p4, p5, p6, p7, q0, q1, q2, q3, q4, q5, q6, q7⟩
          go_wp2
          go_region_held3 (fun w' => w'.cell? ⟨gd, (k + 1) * 8, none⟩ = some (.string (T x).s) ∧ w'.cell? ⟨gd, (k + 1) * 8 + 1, none⟩ = some (.int .i64 (T x).k) ∧ w'.cell? ⟨gd, (k + 1) * 8 + 2, none⟩ = some (.int .u32 (T x).m) ∧ w'.cell? ⟨gd, (k + 1) * 8 + 3, none⟩ = some (.int .u32 (T x).u) ∧ w'.cell? ⟨gd, (k + 1) * 8 + 4, none⟩ = some (.int .u32 (T x).g) ∧ w'.cell? ⟨gd, (k + 1) * 8 + 5, none⟩ = some (.int .i64 (T x).t) ∧ w'.cell? ⟨gd, (k + 1) * 8 + 6, none⟩ = some (.int .i64 (T x).a) ∧ w'.cell? ⟨gd, (k + 1) * 8 + 7, none⟩ = some (.string (T x).d) ∧ w'.cell? ⟨gd, k * 8, none⟩ = some (.string (T y).s) ∧ w'.cell? ⟨gd, k * 8 + 1, none⟩ = some (.int .i64 (T y).k) ∧ w'.cell? ⟨gd, k * 8 + 2, none⟩ = some (.int .u32 (T y).m) ∧ w'.cell? ⟨gd, k * 8 + 3, none⟩ = some (.int .u32 (T y).u) ∧ w'.cell? ⟨gd, k * 8 + 4, none⟩ = some (.int .u32 (T y).g) ∧ w'.cell? ⟨gd, k * 8 + 5, none⟩ = some (.int .i64 (T y).t) ∧ w'.cell? ⟨gd, k * 8 + 6, none⟩ = some (.int .i64 (T y).a) ∧ w'.cell? ⟨gd, k * 8 + 7, none⟩ = some (.string (T y).d)) (first | exact k0 | exact k1) ((go_at_call 44; (with_reducible refine (HCM.out _ ?_).mono ?_); exact ⟨HG2.out.os, HG2.out.tape, HG2.out.output, HG2.out.size, HG2.out.block⟩; rintro e w6 ⟨rfl, hb6⟩; have k1 := and16 (HBW.out w6 (by exact ⟨hb6.os, hb6.tape, hb6.output, hb6.size, hb6.block⟩))))
          have HO6 := Lib.hid (HKO.out w6 (by exact ⟨hb6.os, hb6.tape, hb6.output, hb6.size, hb6.block⟩))
          have HG6 : Hid (w.grownBy w6 (some gd)) := gbel HG2.out (by exact ⟨hb6.os, hb6.tape, hb6.output, hb6.size, hb6.block⟩)
          clear hb6 HBW HKO
          by_cases hfx : f x < f y
          · have hc := (HCI.out x y hq1 hq2 HLT.out).2 hfx
            have hcd : decide (cm x y < 0) = true := decide_eq_true hc
            go_wp2_with fail
            obtain ⟨k00, k01, k02, k03, k04, k05, k06, k07, k10, k11, k12, k13, k14, k15, k16, k17⟩ := k1
            have fr00 : w6.frozen? ⟨gd, (k + 1) * 8, none⟩ = false := (HO6.out.there (k + 1) (by omega) 0 (by omega)).2
            have fr01 : w6.frozen? ⟨gd, (k + 1) * 8 + 1, none⟩ = false := (HO6.out.there (k + 1) (by omega) 1 (by omega)).2
            have fr02 : w6.frozen? ⟨gd, (k + 1) * 8 + 2, none⟩ = false := (HO6.out.there (k + 1) (by omega) 2 (by omega)).2
            have fr03 : w6.frozen? ⟨gd, (k + 1) * 8 + 3, none⟩ = false := (HO6.out.there (k + 1) (by omega) 3 (by omega)).2
            have fr04 : w6.frozen? ⟨gd, (k + 1) * 8 + 4, none⟩ = false := (HO6.out.there (k + 1) (by omega) 4 (by omega)).2
            have fr05 : w6.frozen? ⟨gd, (k + 1) * 8 + 5, none⟩ = false := (HO6.out.there (k + 1) (by omega) 5 (by omega)).2
            have fr06 : w6.frozen? ⟨gd, (k + 1) * 8 + 6, none⟩ = false := (HO6.out.there (k + 1) (by omega) 6 (by omega)).2
            have fr07 : w6.frozen? ⟨gd, (k + 1) * 8 + 7, none⟩ = false := (HO6.out.there (k + 1) (by omega) 7 (by omega)).2
            have fr10 : w6.frozen? ⟨gd, k * 8, none⟩ = false := (HO6.out.there k (by omega) 0 (by omega)).2
            have fr11 : w6.frozen? ⟨gd, k * 8 + 1, none⟩ = false := (HO6.out.there k (by omega) 1 (by omega)).2
            have fr12 : w6.frozen? ⟨gd, k * 8 + 2, none⟩ = false := (HO6.out.there k (by omega) 2 (by omega)).2
            have fr13 : w6.frozen? ⟨gd, k * 8 + 3, none⟩ = false := (HO6.out.there k (by omega) 3 (by omega)).2
            have fr14 : w6.frozen? ⟨gd, k * 8 + 4, none⟩ = false := (HO6.out.there k (by omega) 4 (by omega)).2
            have fr15 : w6.frozen? ⟨gd, k * 8 + 5, none⟩ = false := (HO6.out.there k (by omega) 5 (by omega)).2
            have fr16 : w6.frozen? ⟨gd, k * 8 + 6, none⟩ = false := (HO6.out.there k (by omega) 6 (by omega)).2
            have fr17 : w6.frozen? ⟨gd, k * 8 + 7, none⟩ = false := (HO6.out.there k (by omega) 7 (by omega)).2
            have HSW2 : Hid (SnO T ((((((((((((((((w6.setCell ⟨gd, (k + 1) * 8, none⟩ (.string (T y).s)).setCell ⟨gd, (k + 1) * 8 + 1, none⟩ (.int .i64 (T y).k)).setCell ⟨gd, (k + 1) * 8 + 2, none⟩ (.int .u32 (T y).m)).setCell ⟨gd, (k + 1) * 8 + 3, none⟩ (.int .u32 (T y).u)).setCell ⟨gd, (k + 1) * 8 + 4, none⟩ (.int .u32 (T y).g)).setCell ⟨gd, (k + 1) * 8 + 5, none⟩ (.int .i64 (T y).t)).setCell ⟨gd, (k + 1) * 8 + 6, none⟩ (.int .i64 (T y).a)).setCell ⟨gd, (k + 1) * 8 + 7, none⟩ (.string (T y).d)).setCell ⟨gd, k * 8, none⟩ (.string (T x).s)).setCell ⟨gd, k * 8 + 1, none⟩ (.int .i64 (T x).k)).setCell ⟨gd, k * 8 + 2, none⟩ (.int .u32 (T x).m)).setCell ⟨gd, k * 8 + 3, none⟩ (.int .u32 (T x).u)).setCell ⟨gd, k * 8 + 4, none⟩ (.int .u32 (T x).g)).setCell ⟨gd, k * 8 + 5, none⟩ (.int .i64 (T x).t)).setCell ⟨gd, k * 8 + 6, none⟩ (.int .i64 (T x).a)).setCell ⟨gd, k * 8 + 7, none⟩ (.string (T x).d)).drew base gd m cap (swp S2 (k + 1) k)) := by
              have h := HSWF.out w6 HO6.out
              rw [setC8, setC8] at h
              exact h.drew
            have HGQ : Hid (w.grownBy ((((((((((((((((w6.setCell ⟨gd, (k + 1) * 8, none⟩ (.string (T y).s)).setCell ⟨gd, (k + 1) * 8 + 1, none⟩ (.int .i64 (T y).k)).setCell ⟨gd, (k + 1) * 8 + 2, none⟩ (.int .u32 (T y).m)).setCell ⟨gd, (k + 1) * 8 + 3, none⟩ (.int .u32 (T y).u)).setCell ⟨gd, (k + 1) * 8 + 4, none⟩ (.int .u32 (T y).g)).setCell ⟨gd, (k + 1) * 8 + 5, none⟩ (.int .i64 (T y).t)).setCell ⟨gd, (k + 1) * 8 + 6, none⟩ (.int .i64 (T y).a)).setCell ⟨gd, (k + 1) * 8 + 7, none⟩ (.string (T y).d)).setCell ⟨gd, k * 8, none⟩ (.string (T x).s)).setCell ⟨gd, k * 8 + 1, none⟩ (.int .i64 (T x).k)).setCell ⟨gd, k * 8 + 2, none⟩ (.int .u32 (T x).m)).setCell ⟨gd, k * 8 + 3, none⟩ (.int .u32 (T x).u)).setCell ⟨gd, k * 8 + 4, none⟩ (.int .u32 (T x).g)).setCell ⟨gd, k * 8 + 5, none⟩ (.int .i64 (T x).t)).setCell ⟨gd, k * 8 + 6, none⟩ (.int .i64 (T x).a)).setCell ⟨gd, k * 8 + 7, none⟩ (.string (T x).d)).drew (some gd)) := by
              have h := gsetC (T x).cellsL (k * 8) _ (gsetC (T y).cellsL ((k + 1) * 8) _ HG6.out)
              rw [setC8, setC8] at h
              exact gdrew1 h
            clear HSWF
            go_region
            generalize ((((((((((((((((w6.setCell ⟨gd, (k + 1) * 8, none⟩ (.string (T y).s)).setCell ⟨gd, (k + 1) * 8 + 1, none⟩ (.int .i64 (T y).k)).setCell ⟨gd, (k + 1) * 8 + 2, none⟩ (.int .u32 (T y).m)).setCell ⟨gd, (k + 1) * 8 + 3, none⟩ (.int .u32 (T y).u)).setCell ⟨gd, (k + 1) * 8 + 4, none⟩ (.int .u32 (T y).g)).setCell ⟨gd, (k + 1) * 8 + 5, none⟩ (.int .i64 (T y).t)).setCell ⟨gd, (k + 1) * 8 + 6, none⟩ (.int .i64 (T y).a)).setCell ⟨gd, (k + 1) * 8 + 7, none⟩ (.string (T y).d)).setCell ⟨gd, k * 8, none⟩ (.string (T x).s)).setCell ⟨gd, k * 8 + 1, none⟩ (.int .i64 (T x).k)).setCell ⟨gd, k * 8 + 2, none⟩ (.int .u32 (T x).m)).setCell ⟨gd, k * 8 + 3, none⟩ (.int .u32 (T x).u)).setCell ⟨gd, k * 8 + 4, none⟩ (.int .u32 (T x).g)).setCell ⟨gd, k * 8 + 5, none⟩ (.int .i64 (T x).t)).setCell ⟨gd, k * 8 + 6, none⟩ (.int .i64 (T x).a)).setCell ⟨gd, k * 8 + 7, none⟩ (.string (T x).d)).drew = w7 at *
            clear k00 k01 k02 k03 k04 k05 k06 k07 k10 k11 k12 k13 k14 k15 k16 k17 fr00 fr01 fr02 fr03 fr04 fr05 fr06 fr07 fr10 fr11 fr12 fr13 fr14 fr15 fr16 fr17
            go_wp2_with fail
            go_roundw
            case rel =>
              refine ⟨k, swp S2 (k + 1) k, by omega, by omega, by go_num, HSW2.out, HM2.out.trans HSM.out, ?_, ?_, HGQ.out, HMI2.out.trans HSM2.out, (by rw [HSA.out, if_pos rfl]; exact HAT.out), ?_⟩
              · intro p q h1 h2 h3 h4 h5
                rw [HSA.out, HSA.out, if_neg h4, if_neg h5]
                by_cases e1 : q = k + 1
                · by_cases e2 : p = k + 1
                  · rw [if_pos e1, if_pos e2]; exact Nat.le_refl _
                  · rw [if_pos e1, if_neg e2, ← HX2.out]
                    exact HS1.out p k h1 (by omega) (by omega) e2 (by omega)
                · by_cases e2 : p = k + 1
                  · rw [if_neg e1, if_pos e2, ← HX2.out]
                    exact HS1.out k q (by omega) (by omega) h3 (by omega) e1
                  · rw [if_neg e1, if_neg e2]
                    exact HS1.out p q h1 h2 h3 e2 e1
              · intro q h1 h2
                rw [HSA.out, HSA.out, if_pos rfl, if_neg (by omega)]
                by_cases e1 : q = k + 1
                · rw [if_pos e1]; omega
                · rw [if_neg e1]
                  exact HS2.out q (by omega) h2
              · intro p h1 h2 h3
                rw [HSA.out, if_neg h3]
                by_cases e1 : p = k + 1
                · rw [if_pos e1, ← HX2.out]
                  exact HBF.out k (by omega) (by omega) (by omega)
                · rw [if_neg e1]
                  exact HBF.out p h1 h2 e1
            case measure => simp [intOf]
          · have hc : ¬ cm x y < 0 := fun h => hfx ((HCI.out x y hq1 hq2 HLT.out).1 h)
            have hcd : decide (cm x y < 0) = false := decide_eq_false hc
            go_wp2_with fail
            go_roundw
            case rel => exact OUT.out (.inr (by rw [Nat.add_sub_cancel, HX2.out]; exact hfx)) w6 HO6.out HG6.out
            case measure => simp [intOf]; omega
        · have hd : decide ((a : Int) < (j : Int)) = false := decide_eq_false (by omega)
          go_wp2
          go_quiet (fail)
          go_wp2
          go_roundw
          case rel => exact OUT.out (.inl (by omega)) _ (HO2.out.drewN nq) (gdrew HG2.out nq)
          case measure => simp [intOf]; omega
    · go_wp2
      go_end0
      exact ⟨rfl, S1, ho, hmv, fun p q h1 h2 h3 => hsr p q h1 h2 (by omega), hg⟩
end Go.Proofs.YtmeapijckncoeaaGreatDoor.Is

namespace Go.Proofs.YtmeapijckncoeaaGreatDoor.Is
set_option maxRecDepth 100000
set_option linter.unusedSimpArgs false
set_option linter.unusedVariables false
open Go.RowKit Go.Joins Go.Deep
/-- What symMerge does. -/
def SymOk (T : Nat → Itm) (base gd m cap pc n : Nat) (f : Nat → Nat) : Prop := ∀ (a c b : Nat) (S : List Nat) (w : World), a < c → c < b → b ≤ m → SnO T w base gd m cap S → (∀ x ∈ S, x < n) → CmpOk T w gd pc n f → SrtOn f a c S → SrtOn f c b S → Ord a c b S →
  Calls Tryz.prog 85 #[.slice (some ⟨gd, 0, none⟩) m cap, .int .i64 (a : Nat), .int .i64 (c : Nat), .int .i64 (b : Nat), .func (.func 44) #[] #[]] w
    fun e w' => e = .returned (.tuple #[]) ∧ ∃ S', SnO T w' base gd m cap S' ∧ Mov a b S S' ∧ SrtOn f a b S' ∧ w.grownBy w' (some gd)
set_option maxRecDepth 100000 in
set_option maxHeartbeats 8000000 in
theorem stable_any (T : Nat → Itm) (base gd m cap pc n : Nat) (f : Nat → Nat) (S : List Nat) (w : World) (hO : SnO T w base gd m cap S) (hx : ∀ x ∈ S, x < n) (hC : CmpOk T w gd pc n f) (hm : m ≤ 1000000) (hinc : ∀ p q, p < q → q < m → at0 S p < at0 S q) (hsym : 20 < m → SymOk T base gd m cap pc n f) :
    Calls Tryz.prog 62 #[.slice (some ⟨gd, 0, none⟩) m cap, .int .i64 m, .func (.func 44) #[] #[]] w
      fun e w' => e = .returned (.tuple #[]) ∧ ∃ S', SnO T w' base gd m cap S' ∧ Mov 0 m S S' ∧ SrtOn f 0 m S' ∧ w.grownBy w' (some gd) := by
  have HI := Lib.hid (fun a b S1 w1 (ho : SnO T w1 base gd m cap S1) (hmv : Mov 0 m S S1) (hg : w.grownBy w1 (some gd)) (hb : b ≤ m) (ha : a ≤ m) (ht : ∀ q, a ≤ q → at0 S1 q = at0 S q) => ins_any T base gd m cap a b pc n f S1 w1 ho (hmv.all hx) (hC.grown hg) hb ha hm (fun p q h1 h2 h3 => by rw [ht p h1, ht q (by omega)]; exact hinc p q h2 (by omega)))
  have HY := Lib.hid (fun (h20 : 20 < m) a c b S1 w1 (h1 : a < c) (h2 : c < b) (h3 : b ≤ m) (ho : SnO T w1 base gd m cap S1) (hmv : Mov 0 m S S1) (hg : w.grownBy w1 (some gd)) => hsym h20 a c b S1 w1 h1 h2 h3 ho (hmv.all hx) (hC.grown hg))
  have HO := Lib.hid hO
  have HINC := Lib.hid hinc
  clear hO hx hC hsym hinc
  go_enter Tryz.func62, Tryz.ntmps62
  go_wp2_with fail
  go_loopw [7, 8] (fun va vb wr => ∃ k S1, va = .int .i64 (20 * k : Nat) ∧ vb = .int .i64 (20 * k + 20 : Nat) ∧ 20 * k ≤ m ∧ SnO T wr base gd m cap S1 ∧ Mov 0 m S S1 ∧ (∀ j, j < k → SrtOn f (20 * j) (20 * j + 20) S1) ∧ w.grownBy wr (some gd) ∧ Org m S S1 0 20 ∧ (∀ q, 20 * k ≤ q → at0 S1 q = at0 S q)) (fun va _ _ => (m + 40) - (intOf va).toNat)
  case atStart => exact ⟨0, S, rfl, rfl, Nat.zero_le _, HO.out, Mov.refl _ _ _, fun j hj => by omega, World.grownBy.refl _ _, org_refl _ _, fun _ _ => rfl⟩
  case round =>
    obtain ⟨k, S1, rfl, rfl, hk, ho, hmv, hs, hg, horg, htl⟩ := hrel
    have HORG := Lib.hid horg
    have HTL := Lib.hid htl
    clear horg htl
    have HO1 := Lib.hid ho
    have HM := Lib.hid hmv
    have HS := Lib.hid hs
    have HG := Lib.hid hg
    clear ho hmv hs hg
    by_cases hlt : 20 * k + 20 ≤ m
    · have hI : ((20 * k + 20 : Nat) : Int) ≤ m := by omega
      have HK1 : Hid (∀ S2, Mov (20 * k) (20 * k + 20) S1 S2 → Org m S S2 0 20 ∧ ∀ q, 20 * (k + 1) ≤ q → at0 S2 q = at0 S q) := fun S2 hm2 =>
        ⟨org_ins HORG.out HTL.out rfl hm2 (Nat.le_refl _) hlt, fun q hq => by rw [hm2.out q (by omega), HTL.out q (by omega)]⟩
      have hW : IntKind.i64.wrap (((20 * k + 20 : Nat) : Int) + 20) = ((20 * k + 40 : Nat) : Int) := by rw [IntKind.wrap_i64]; omega
      generalize hA : 20 * k = A at *
      generalize hB : A + 20 = B at *
      go_wp2_with fail
      refine (HI.out A B S1 wr HO1.out HM.out HG.out (by omega) (by omega) HTL.out).mono ?_
      rintro e w2 ⟨rfl, S2, ho2, hm2, hs2, hg2⟩
      go_wp2_with fail
      go_roundw
      case rel =>
        refine ⟨k + 1, S2, by congr 1; omega, ?_, by omega, ho2, HM.out.trans (hm2.wide (Nat.zero_le _) (by omega)), ?_, gtrans HG.out hg2, (HK1.out S2 hm2).1, (HK1.out S2 hm2).2⟩
        · congr 1; omega
        · intro j hj
          by_cases e : j = k
          · subst e; rw [hA, hB]; exact hs2
          · exact hm2.srt (.inl (by omega)) (HS.out j (by omega))
      case measure => simp [intOf]; omega
    · have hI : ¬ ((20 * k + 20 : Nat) : Int) ≤ m := by omega
      have HK2 : Hid (∀ S2, Mov (20 * k) m S1 S2 → Org m S S2 0 20) := fun S2 hm2 => org_ins HORG.out HTL.out rfl hm2 (by omega) (Nat.le_refl _)
      generalize hA : 20 * k = A at *
      generalize hB : A + 20 = B at *
      go_wp2_with fail
      refine (HI.out A m S1 wr HO1.out HM.out HG.out (by omega) (by omega) HTL.out).mono ?_
      rintro e w2 ⟨rfl, S2, ho2, hm2, hs2, hg2⟩
      have HORG2 := Lib.hid (HK2.out S2 hm2)
      have HO2 := Lib.hid ho2
      have HM2 := Lib.hid (HM.out.trans (hm2.wide (Nat.zero_le _) (Nat.le_refl _)))
      have HG2 := Lib.hid (gtrans HG.out hg2)
      have HS2 : Hid (∀ j, SrtOn f (20 * j) (min (20 * j + 20) m) S2) := fun j => by
        by_cases h1 : j < k
        · have := hm2.srt (.inl (by omega)) (HS.out j h1)
          intro p q e1 e2 e3
          exact this p q e1 e2 (by omega)
        · by_cases h2 : j = k
          · subst h2; rw [hA]; intro p q e1 e2 e3; exact hs2 p q e1 e2 (by omega)
          · intro p q e1 e2 e3; omega
      clear ho2 hm2 hs2 hg2 HS HM HG HO1
      go_wp2_with fail
      go_loopw [6] (fun vs wr => ∃ bs S1, vs = .int .i64 (bs : Nat) ∧ 20 ≤ bs ∧ (bs = 20 ∨ bs < 2 * m) ∧ SnO T wr base gd m cap S1 ∧ Mov 0 m S S1 ∧ (∀ j, SrtOn f (bs * j) (min (bs * j + bs) m) S1) ∧ w.grownBy wr (some gd) ∧ Org m S S1 0 bs) (fun vs _ => m - (intOf vs).toNat)
      case atStart => exact ⟨20, S2, rfl, Nat.le_refl _, .inl rfl, HO2.out, HM2.out, HS2.out, HG2.out, HORG2.out⟩
      case round =>
        obtain ⟨bs, S3, rfl, hb20, hbm, ho, hmv, hs, hg, horg⟩ := hrel
        have HORG3 := Lib.hid horg
        clear horg HK2 HORG HTL HORG2
        have HO3 := Lib.hid ho
        have HM3 := Lib.hid hmv
        have HS3 := Lib.hid hs
        have HG3 := Lib.hid hg
        clear ho hmv hs hg HO2 HM2 HS2 HG2
        by_cases hbs : bs < m
        · have hW1 : IntKind.i64.wrap (2 * (bs : Int)) = ((2 * bs : Nat) : Int) := by rw [IntKind.wrap_i64]; omega
          have hW2 : IntKind.i64.wrap ((bs : Int) * 2) = ((2 * bs : Nat) : Int) := by rw [IntKind.wrap_i64]; omega
          have hSY := HY.out (by omega)
          have HSY := Lib.hid hSY
          clear hSY
          go_wp2_with fail
          go_loopw [7, 8] (fun va vb wr => ∃ k A S1, A = 2 * bs * k ∧ va = .int .i64 (A : Nat) ∧ vb = .int .i64 (A + 2 * bs : Nat) ∧ A ≤ m ∧ SnO T wr base gd m cap S1 ∧ Mov 0 m S S1 ∧ (∀ j, j < k → SrtOn f (2 * bs * j) (2 * bs * j + 2 * bs) S1) ∧ (∀ j, 2 * k ≤ j → SrtOn f (bs * j) (min (bs * j + bs) m) S1) ∧ w.grownBy wr (some gd) ∧ Org m S S1 A bs) (fun va _ _ => (3 * m + 40) - (intOf va).toNat)
          case atStart => exact ⟨0, 0, S3, by simp, rfl, by congr 1; omega, Nat.zero_le _, HO3.out, HM3.out, fun j hj => by omega, fun j _ => HS3.out j, HG3.out, HORG3.out⟩
          case round =>
            obtain ⟨k, A, S1, hAk, rfl, rfl, hAm, ho, hmv, hs1, hs2, hg, horg⟩ := hrel
            have HOD : Hid (∀ b, b ≤ m → b ≤ A + 2 * bs → Ord A (A + bs) b S1) := fun b h1 h2 => org_ord horg hAk HINC.out h1 h2
            have HOS : Hid (A + 2 * bs ≤ m → ∀ S2, Mov A (A + 2 * bs) S1 S2 → Org m S S2 (A + 2 * bs) bs) := fun h1 S2 h2 => org_step horg hAk h2 h1
            have HOF : Hid (m < A + 2 * bs → ∀ S2, Mov A m S1 S2 → Org m S S2 0 (2 * bs)) := fun h1 S2 h2 => org_fin horg hAk h2 h1
            clear horg
            have HO1 := Lib.hid ho
            have HM1 := Lib.hid hmv
            have HS1 := Lib.hid hs1
            have HS2 := Lib.hid hs2
            have HG1 := Lib.hid hg
            clear ho hmv hs1 hs2 hg
            have e0 : bs * (2 * k) = A := by rw [hAk, Nat.mul_left_comm, Nat.mul_assoc]
            have e1 : bs * (2 * k + 1) = A + bs := by rw [Nat.mul_succ, e0]
            have e2 : 2 * bs * (k + 1) = A + 2 * bs := by rw [Nat.mul_succ, hAk]
            have e3 : ∀ j, j < k → 2 * bs * j + 2 * bs ≤ A := fun j hj => by rw [hAk, ← Nat.mul_succ]; exact Nat.mul_le_mul_left _ hj
            have e4 : ∀ j, 2 * k + 2 ≤ j → A + 2 * bs ≤ bs * j := fun j hj => by
              have := Nat.mul_le_mul_left bs hj
              rw [show 2 * k + 2 = 2 * k + 1 + 1 by omega, Nat.mul_succ, e1] at this
              omega
            have e5 : ∀ j, k < j → A + 2 * bs ≤ 2 * bs * j := fun j hj => by
              have := Nat.mul_le_mul_left (2 * bs) hj
              rw [Nat.succ_eq_add_one, e2] at this
              exact this
            have q1 := HS2.out (2 * k) (Nat.le_refl _)
            have q2 := HS2.out (2 * k + 1) (by omega)
            rw [e0] at q1
            rw [e1] at q2
            have hW3 : IntKind.i64.wrap ((A : Int) + (bs : Int)) = ((A + bs : Nat) : Int) := by rw [IntKind.wrap_i64]; omega
            have hW4 : IntKind.i64.wrap (((A + 2 * bs : Nat) : Int) + ((2 * bs : Nat) : Int)) = ((A + 2 * bs + 2 * bs : Nat) : Int) := by rw [IntKind.wrap_i64]; omega
            have HQ1 := Lib.hid q1
            have HQ2 := Lib.hid q2
            have HE := Lib.hid e3
            have HE4 := Lib.hid e4
            have HE5 := Lib.hid e5
            have HE2 := Lib.hid e2
            have HAK := Lib.hid hAk
            clear q1 q2 e0 e1 e2 e3 e4 e5 hAk
            by_cases hlt : A + 2 * bs ≤ m
            · have hI : ((A + 2 * bs : Nat) : Int) ≤ m := by omega
              have HOD1 := Lib.hid (HOD.out _ hlt (Nat.le_refl _))
              have HOS1 := Lib.hid (HOS.out hlt)
              clear HOD HOS HOF HORG3
              generalize hB2 : 2 * bs = B2 at *
              generalize hBB : A + B2 = BB at *
              generalize hMM : A + bs = MM at *
              go_wp2_with fail
              refine (HSY.out A MM BB S1 wr (by omega) (by omega) (by omega) HO1.out HM1.out HG1.out (fun p q h1 h2 h3 => HQ1.out p q h1 h2 (by omega)) (fun p q h1 h2 h3 => HQ2.out p q h1 h2 (by omega)) HOD1.out).mono ?_
              rintro e w2 ⟨rfl, S2, ho2, hm2, hs2, hg2⟩
              go_wp2_with fail
              go_roundw
              case rel =>
                refine ⟨k + 1, BB, S2, by rw [HE2.out], by congr 1, by congr 1, by omega, ho2, HM1.out.trans (hm2.wide (Nat.zero_le _) (by omega)), ?_, ?_, gtrans HG1.out hg2, HOS1.out S2 hm2⟩
                · intro j hj
                  by_cases e : j = k
                  · subst e; rw [← HAK.out, hBB]; exact hs2
                  · have := HE.out j (by omega)
                    exact hm2.srt (.inl (by omega)) (HS1.out j (by omega))
                · intro j hj
                  have := HE4.out j (by omega)
                  exact hm2.srt (.inr (by omega)) (HS2.out j (by omega))
              case measure => simp [intOf]; omega
            · have hI : ¬ ((A + 2 * bs : Nat) : Int) ≤ m := by omega
              -- what is left, merged or not
              have FIN : Hid (∀ S2 w2, SnO T w2 base gd m cap S2 → Mov A m S1 S2 → SrtOn f A m S2 → w.grownBy w2 (some gd) → ∃ bs' S', Value.int .i64 ((2 * bs : Nat) : Int) = .int .i64 (bs' : Nat) ∧ 20 ≤ bs' ∧ (bs' = 20 ∨ bs' < 2 * m) ∧ SnO T w2 base gd m cap S' ∧ Mov 0 m S S' ∧ (∀ j, SrtOn f (bs' * j) (min (bs' * j + bs') m) S') ∧ w.grownBy w2 (some gd) ∧ Org m S S' 0 bs') := fun S2 w2 ho2 hm2 hs2 hg2 =>
                ⟨2 * bs, S2, rfl, by omega, .inr (by omega), ho2, HM1.out.trans (hm2.wide (Nat.zero_le _) (Nat.le_refl _)), fun j => by
                  by_cases h1 : j < k
                  · have h2 := HE.out j h1
                    have := hm2.srt (.inl (by omega)) (HS1.out j h1)
                    intro p q e1 e2 e3
                    exact this p q e1 e2 (by omega)
                  · by_cases h2 : j = k
                    · subst h2; rw [← HAK.out]; intro p q e1 e2 e3; exact hs2 p q e1 e2 (by omega)
                    · have := HE5.out j (by omega)
                      intro p q e1 e2 e3; omega, hg2, HOF.out (by omega) S2 hm2⟩
              by_cases hmm : A + bs < m
              · have hI2 : ((A + bs : Nat) : Int) < m := by omega
                have HOD1 := Lib.hid (HOD.out m (Nat.le_refl _) (by omega))
                clear HOD HOS HOF HORG3
                generalize hMM : A + bs = MM at *
                generalize hBB : A + 2 * bs = BB at *
                generalize hB2 : 2 * bs = B2 at *
                go_wp2_with fail
                refine (HSY.out A MM m S1 wr (by omega) (by omega) (by omega) HO1.out HM1.out HG1.out (fun p q h1 h2 h3 => HQ1.out p q h1 h2 (by omega)) (fun p q h1 h2 h3 => HQ2.out p q h1 h2 (by omega)) HOD1.out).mono ?_
                rintro e w2 ⟨rfl, S2, ho2, hm2, hs2, hg2⟩
                go_wp2_with fail
                go_roundw
                case rel => exact FIN.out S2 w2 ho2 hm2 hs2 (gtrans HG1.out hg2)
                case measure => simp [intOf]; omega
              · have hI2 : ¬ ((A + bs : Nat) : Int) < m := by omega
                clear HOD HOS HOF HORG3
                generalize hMM : A + bs = MM at *
                generalize hBB : A + 2 * bs = BB at *
                generalize hB2 : 2 * bs = B2 at *
                go_wp2_with fail
                go_roundw
                case rel => exact FIN.out S1 wr HO1.out (Mov.refl _ _ _) (fun p q h1 h2 h3 => HQ1.out p q h1 h2 (by omega)) HG1.out
                case measure => simp [intOf]; omega
        · go_wp2_with fail
          go_end0
          refine ⟨rfl, S3, HO3.out, HM3.out, ?_, HG3.out⟩
          have := HS3.out 0
          intro p q e1 e2 e3
          exact this p q (by omega) e2 (by omega)
set_option maxHeartbeats 2000000 in
theorem sort_any (T : Nat → Itm) (base gd m cap pc n : Nat) (f : Nat → Nat) (S : List Nat) (w : World) (hO : SnO T w base gd m cap S) (hx : ∀ x ∈ S, x < n) (hC : CmpOk T w gd pc n f) (hm : m ≤ 1000000) (hinc : ∀ p q, p < q → q < m → at0 S p < at0 S q) (hsym : 20 < m → SymOk T base gd m cap pc n f) :
    Calls Tryz.prog 43 #[.slice (some ⟨gd, 0, none⟩) m cap, .func (.func 44) #[] #[]] w
      fun e w' => e = .returned (.tuple #[]) ∧ ∃ S', SnO T w' base gd m cap S' ∧ Mov 0 m S S' ∧ SrtOn f 0 m S' ∧ w.grownBy w' (some gd) := by
  have H := Lib.hid (stable_any T base gd m cap pc n f S w hO hx hC hm hinc hsym)
  clear hO hx hC hsym hinc
  go_enter Tryz.func43, Tryz.ntmps43
  go_wp2_with fail
  refine (H.out).mono ?_
  rintro e w2 ⟨rfl, h⟩
  go_wp2_with fail
  go_end0
  exact ⟨rfl, h⟩
end Go.Proofs.YtmeapijckncoeaaGreatDoor.Is
