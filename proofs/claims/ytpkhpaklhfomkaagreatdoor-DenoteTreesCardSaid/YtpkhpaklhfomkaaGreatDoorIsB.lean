/-
  A stable sort of items: the insertion sort.
-/
import Derived.Test.YtpkhpaklhfomkaaGreatDoorIsA
namespace Go.Proofs.YtpkhpaklhfomkaaGreatDoor.Is
set_option maxRecDepth 100000
set_option linter.unusedSimpArgs false
set_option linter.unusedVariables false
open Go.RowKit Go.Joins Go.Deep
theorem setC8 (w : World) (gd o : Nat) (X : Itm) : w.setCells gd o X.cellsL = ((((((((w.setCell ⟨gd, o, none⟩ (.string X.s)).setCell ⟨gd, o + 1, none⟩ (.int .i64 X.k)).setCell ⟨gd, o + 2, none⟩ (.int .u32 X.m)).setCell ⟨gd, o + 3, none⟩ (.int .u32 X.u)).setCell ⟨gd, o + 4, none⟩ (.int .u32 X.g)).setCell ⟨gd, o + 5, none⟩ (.int .i64 X.t)).setCell ⟨gd, o + 6, none⟩ (.int .i64 X.a)).setCell ⟨gd, o + 7, none⟩ (.string X.d)) := by
  simp only [Itm.cellsL, World.setCells, Nat.add_assoc, Nat.reduceAdd]
theorem and16 {a b c d e f g h a' b' c' d' e' f' g' h' : Prop} (k : (a ∧ b ∧ c ∧ d ∧ e ∧ f ∧ g ∧ h) ∧ (a' ∧ b' ∧ c' ∧ d' ∧ e' ∧ f' ∧ g' ∧ h')) : a ∧ b ∧ c ∧ d ∧ e ∧ f ∧ g ∧ h ∧ a' ∧ b' ∧ c' ∧ d' ∧ e' ∧ f' ∧ g' ∧ h' := by
  obtain ⟨⟨k0, k1, k2, k3, k4, k5, k6, k7⟩, l⟩ := k
  exact ⟨k0, k1, k2, k3, k4, k5, k6, k7, l⟩
set_option maxRecDepth 100000 in
set_option maxHeartbeats 8000000 in
theorem ins_any (T : Nat → Itm) (base gd m cap a b pc n : Nat) (f : Nat → Nat) (S : List Nat) (w : World) (hO : SnO T w base gd m cap S) (hx : ∀ x ∈ S, x < n) (hC : CmpOk T w gd pc n f) (hab : b ≤ m) (ha : a ≤ m) (hm : m ≤ 1000) (hinc : ∀ p q, a ≤ p → p < q → q < b → at0 S p < at0 S q) :
    Calls Tryz.prog 128 #[.slice (some ⟨gd, 0, none⟩) m cap, .int .i64 a, .int .i64 b, .func (.func 52) #[] #[]] w
      fun e w' => e = .returned (.tuple #[]) ∧ ∃ S', SnO T w' base gd m cap S' ∧ Mov a b S S' ∧ SrtOn f a b S' ∧ w.grownBy w' (some gd) := by
  obtain ⟨cm, hcm, hC⟩ := hC
  have HCI := Lib.hid hcm
  have HINC := Lib.hid hinc
  have HC := Lib.hid hC
  clear hcm hinc
  have HX : Hid (∀ S', S'.Perm S → ∀ k, k < m → at0 S' k < n) := fun S' hp k hk => by
    have hl : S'.length = m := by rw [hp.length_eq, hO.1]
    refine hx _ (hp.mem_iff.1 ?_)
    rw [at0, List.getElem?_eq_getElem (by omega)]
    exact List.getElem_mem _
  have HO := Lib.hid hO
  clear hC hx hO
  have hw1 : IntKind.i64.wrap ((a : Int) + 1) = ((a + 1 : Nat) : Int) := by rw [IntKind.wrap_i64]; omega
  go_enter Tryz.func128, Tryz.ntmps128
  go_wp2
  go_loopw [8] (fun v wr => ∃ i S1, a < i ∧ (i ≤ b ∨ i = a + 1) ∧ v = .int .i64 (i : Nat) ∧ SnO T wr base gd m cap S1 ∧ Mov a b S S1 ∧ SrtOn f a i S1 ∧ w.grownBy wr (some gd) ∧ Mov a i S S1) (fun v _ => (m + 2) - (intOf v).toNat)
  case atStart =>
    exact ⟨a + 1, S, by omega, .inr rfl, by go_num, HO.out, Mov.refl _ _ _, fun i j h1 h2 h3 => by rw [show i = j by omega]; exact Nat.le_refl _, World.grownBy.refl _ _, Mov.refl _ _ _⟩
  case round =>
    obtain ⟨i, S1, hai, hib, rfl, ho, hmv, hsr, hg, hmi⟩ := hrel
    by_cases hlt : i < b
    · have HO1 := Lib.hid ho
      have HM := Lib.hid hmv
      have HG := Lib.hid hg
      have HS := Lib.hid hsr
      have HMI := Lib.hid hmi
      clear ho hmv hg hsr hmi
      go_wp2
      go_loopw [9] (fun v wr2 => ∃ j S2, a ≤ j ∧ j ≤ i ∧ v = .int .i64 (j : Nat) ∧ SnO T wr2 base gd m cap S2 ∧ Mov a b S S2 ∧ (∀ p q, a ≤ p → p ≤ q → q ≤ i → p ≠ j → q ≠ j → f (at0 S2 p) ≤ f (at0 S2 q)) ∧ (∀ q, j < q → q ≤ i → f (at0 S2 j) ≤ f (at0 S2 q)) ∧ w.grownBy wr2 (some gd) ∧ Mov a (i + 1) S S2 ∧ at0 S2 j = at0 S i ∧ (∀ p, a ≤ p → p ≤ i → p ≠ j → at0 S2 p < at0 S i)) (fun v _ => (intOf v).toNat)
      case atStart => exact ⟨i, S1, by omega, Nat.le_refl _, rfl, HO1.out, HM.out, fun p q h1 h2 h3 h4 h5 => HS.out p q h1 h2 (by omega), fun q h1 h2 => by omega, HG.out, HMI.out.wide (Nat.le_refl _) (by omega), HMI.out.out i (.inr (Nat.le_refl _)), fun p h1 h2 h3 => by
        obtain ⟨p', e1, e2, e3⟩ := HMI.out.ins p h1 (by omega)
        rw [e3]
        exact HINC.out p' i e1 e2 hlt⟩
      case round =>
        obtain ⟨j, S2, haj, hji, rfl, ho, hmv, hs1, hs2, hg, hmi, hat, hbf⟩ := hrel
        have HMI2 := Lib.hid hmi
        have HAT := Lib.hid hat
        have HBF := Lib.hid hbf
        clear hmi hat hbf
        have HO2 := Lib.hid ho
        have HM2 := Lib.hid hmv
        have HG2 := Lib.hid hg
        have HS1 := Lib.hid hs1
        have HS2 := Lib.hid hs2
        -- the inner loop's way out
        have OUT : Hid ((j = a ∨ ¬ f (at0 S2 j) < f (at0 S2 (j - 1))) → ∀ wx : World, SnO T wx base gd m cap S2 → w.grownBy wx (some gd) → ∃ i' S', a < i' ∧ (i' ≤ b ∨ i' = a + 1) ∧ Value.int .i64 ((i : Int) + 1) = .int .i64 (i' : Nat) ∧ SnO T wx base gd m cap S' ∧ Mov a b S S' ∧ SrtOn f a i' S' ∧ w.grownBy wx (some gd) ∧ Mov a i' S S') := fun hs wx hox hgx =>
          ⟨i + 1, S2, by omega, .inl (by omega), by go_num, hox, HM2.out, fun p q h1 h2 h3 => by
            by_cases e1 : q = j
            · by_cases e2 : p = j
              · rw [e1, e2]; exact Nat.le_refl _
              · have h5 := HS1.out p (j - 1) h1 (by omega) (by omega) e2 (by omega)
                subst e1
                omega
            · by_cases e2 : p = j
              · subst e2; exact HS2.out q (by omega) (by omega)
              · exact HS1.out p q h1 h2 (by omega) e2 e1, hgx, HMI2.out⟩
        clear ho hmv hg hs1 hs2
        by_cases hja : a < j
        · obtain ⟨k, rfl⟩ : ∃ k, j = k + 1 := ⟨j - 1, by omega⟩
          have hc1 := HO2.out.c8 (k + 1) (by omega)
          have hc2 := HO2.out.c8 k (by omega)
          have hq1 := HX.out S2 HM2.out.perm (k + 1) (by omega)
          have hq2 := HX.out S2 HM2.out.perm k (by omega)
          have HCM := Lib.hid (fun w1 hg1 => HC.out w1 hg1 _ _ hq1 hq2)
          have hI1 : (a : Int) < (k : Int) + 1 := by omega
          have hI2 : IntKind.i64.wrap ((k : Int) + 1 - 1) = k := by rw [IntKind.wrap_i64]; omega
          have hI3 : IntKind.i64.wrap (k : Int) = k := by rw [IntKind.wrap_i64]; omega
          have hI4 : (k : Int) < m := by omega
          have hI5 : (k : Int) + 1 < m := by omega
          have hI6 : (0 : Int) ≤ (k : Int) + 1 := by omega
          have HKO := Lib.hid (fun (w1 : World) (hb : Below wr.heap.size wr w1) => HO2.out.below hb)
          have HSWF := Lib.hid (fun (w1 : World) (h : SnO T w1 base gd m cap S2) => h.swap (k + 1) k (by omega) (by omega))
          have HSM := Lib.hid (swp_mov S2 a b (k + 1) k (by have := HO2.out.1; omega) (by have := HO2.out.1; omega) (by omega) (by omega))
          have HSM2 := Lib.hid (swp_mov S2 a (i + 1) (k + 1) k (by have := HO2.out.1; omega) (by have := HO2.out.1; omega) (by omega) (by omega))
          have HBW : Hid (∀ w1 : World, Below wr.heap.size wr w1 → C8 w1 gd ((k + 1) * 8) (T (at0 S2 (k + 1))) ∧ C8 w1 gd (k * 8) (T (at0 S2 k))) := fun w1 hb => ⟨(HO2.out.below hb).c8 (k + 1) (by omega), (HO2.out.below hb).c8 k (by omega)⟩
          have HLT : Hid (at0 S2 k < at0 S2 (k + 1)) := by rw [Hid, HAT.out]; exact HBF.out k (by omega) (by omega) (by omega)
          have HSA := Lib.hid (fun p => swp_at S2 (k + 1) k p (by have := HO2.out.1; omega) (by have := HO2.out.1; omega))
          generalize hx1 : at0 S2 (k + 1) = x at *
          generalize hx2 : at0 S2 k = y at *
          have HX1 := Lib.hid hx1
          have HX2 := Lib.hid hx2
          clear hx1 hx2
          simp only [Itm.cells] at HCM
          obtain ⟨p0, p1, p2, p3, p4, p5, p6, p7⟩ := hc1
          obtain ⟨q0, q1, q2, q3, q4, q5, q6, q7⟩ := hc2
          have k0 : wr.cell? ⟨gd, (k + 1) * 8, none⟩ = some (.string (T x).s) ∧ wr.cell? ⟨gd, (k + 1) * 8 + 1, none⟩ = some (.int .i64 (T x).k) ∧ wr.cell? ⟨gd, (k + 1) * 8 + 2, none⟩ = some (.int .u32 (T x).m) ∧ wr.cell? ⟨gd, (k + 1) * 8 + 3, none⟩ = some (.int .u32 (T x).u) ∧ wr.cell? ⟨gd, (k + 1) * 8 + 4, none⟩ = some (.int .u32 (T x).g) ∧ wr.cell? ⟨gd, (k + 1) * 8 + 5, none⟩ = some (.int .i64 (T x).t) ∧ wr.cell? ⟨gd, (k + 1) * 8 + 6, none⟩ = some (.int .i64 (T x).a) ∧ wr.cell? ⟨gd, (k + 1) * 8 + 7, none⟩ = some (.string (T x).d) ∧ wr.cell? ⟨gd, k * 8, none⟩ = some (.string (T y).s) ∧ wr.cell? ⟨gd, k * 8 + 1, none⟩ = some (.int .i64 (T y).k) ∧ wr.cell? ⟨gd, k * 8 + 2, none⟩ = some (.int .u32 (T y).m) ∧ wr.cell? ⟨gd, k * 8 + 3, none⟩ = some (.int .u32 (T y).u) ∧ wr.cell? ⟨gd, k * 8 + 4, none⟩ = some (.int .u32 (T y).g) ∧ wr.cell? ⟨gd, k * 8 + 5, none⟩ = some (.int .i64 (T y).t) ∧ wr.cell? ⟨gd, k * 8 + 6, none⟩ = some (.int .i64 (T y).a) ∧ wr.cell? ⟨gd, k * 8 + 7, none⟩ = some (.string (T y).d) := ⟨p0, p1, p2, p3, p4, p5, p6, p7, q0, q1, q2, q3, q4, q5, q6, q7⟩
          go_wp2
          go_region_held3 (fun w' => w'.cell? ⟨gd, (k + 1) * 8, none⟩ = some (.string (T x).s) ∧ w'.cell? ⟨gd, (k + 1) * 8 + 1, none⟩ = some (.int .i64 (T x).k) ∧ w'.cell? ⟨gd, (k + 1) * 8 + 2, none⟩ = some (.int .u32 (T x).m) ∧ w'.cell? ⟨gd, (k + 1) * 8 + 3, none⟩ = some (.int .u32 (T x).u) ∧ w'.cell? ⟨gd, (k + 1) * 8 + 4, none⟩ = some (.int .u32 (T x).g) ∧ w'.cell? ⟨gd, (k + 1) * 8 + 5, none⟩ = some (.int .i64 (T x).t) ∧ w'.cell? ⟨gd, (k + 1) * 8 + 6, none⟩ = some (.int .i64 (T x).a) ∧ w'.cell? ⟨gd, (k + 1) * 8 + 7, none⟩ = some (.string (T x).d) ∧ w'.cell? ⟨gd, k * 8, none⟩ = some (.string (T y).s) ∧ w'.cell? ⟨gd, k * 8 + 1, none⟩ = some (.int .i64 (T y).k) ∧ w'.cell? ⟨gd, k * 8 + 2, none⟩ = some (.int .u32 (T y).m) ∧ w'.cell? ⟨gd, k * 8 + 3, none⟩ = some (.int .u32 (T y).u) ∧ w'.cell? ⟨gd, k * 8 + 4, none⟩ = some (.int .u32 (T y).g) ∧ w'.cell? ⟨gd, k * 8 + 5, none⟩ = some (.int .i64 (T y).t) ∧ w'.cell? ⟨gd, k * 8 + 6, none⟩ = some (.int .i64 (T y).a) ∧ w'.cell? ⟨gd, k * 8 + 7, none⟩ = some (.string (T y).d)) (first | exact k0 | exact k1) ((go_at_call 52; (with_reducible refine (HCM.out _ ?_).mono ?_); exact ⟨HG2.out.os, HG2.out.tape, HG2.out.output, HG2.out.size, HG2.out.block⟩; rintro e w6 ⟨rfl, hb6⟩; have k1 := and16 (HBW.out w6 (by exact ⟨hb6.os, hb6.tape, hb6.output, hb6.size, hb6.block⟩))))
          have HO6 := Lib.hid (HKO.out w6 (by exact ⟨hb6.os, hb6.tape, hb6.output, hb6.size, hb6.block⟩))
          have HG6 : Hid (w.grownBy w6 (some gd)) := gbel HG2.out (by exact ⟨hb6.os, hb6.tape, hb6.output, hb6.size, hb6.block⟩)
          clear hb6 HBW HKO
          by_cases hfx : f x < f y
          · have hc := (HCI.out x y hq1 hq2 HLT.out).2 hfx
            have hcd : decide (cm x y < 0) = true := decide_eq_true hc
            go_wp2_with fail
            obtain ⟨k00, k01, k02, k03, k04, k05, k06, k07, k10, k11, k12, k13, k14, k15, k16, k17⟩ := k1
            have fr00 : w6.frozen? ⟨gd, (k + 1) * 8, none⟩ = false := (HO6.out.there (k + 1) (by omega) 0 (by omega)).2
            have fr01 : w6.frozen? ⟨gd, (k + 1) * 8 + 1, none⟩ = false := (HO6.out.there (k + 1) (by omega) 1 (by omega)).2
            have fr02 : w6.frozen? ⟨gd, (k + 1) * 8 + 2, none⟩ = false := (HO6.out.there (k + 1) (by omega) 2 (by omega)).2
            have fr03 : w6.frozen? ⟨gd, (k + 1) * 8 + 3, none⟩ = false := (HO6.out.there (k + 1) (by omega) 3 (by omega)).2
            have fr04 : w6.frozen? ⟨gd, (k + 1) * 8 + 4, none⟩ = false := (HO6.out.there (k + 1) (by omega) 4 (by omega)).2
            have fr05 : w6.frozen? ⟨gd, (k + 1) * 8 + 5, none⟩ = false := (HO6.out.there (k + 1) (by omega) 5 (by omega)).2
            have fr06 : w6.frozen? ⟨gd, (k + 1) * 8 + 6, none⟩ = false := (HO6.out.there (k + 1) (by omega) 6 (by omega)).2
            have fr07 : w6.frozen? ⟨gd, (k + 1) * 8 + 7, none⟩ = false := (HO6.out.there (k + 1) (by omega) 7 (by omega)).2
            have fr10 : w6.frozen? ⟨gd, k * 8, none⟩ = false := (HO6.out.there k (by omega) 0 (by omega)).2
            have fr11 : w6.frozen? ⟨gd, k * 8 + 1, none⟩ = false := (HO6.out.there k (by omega) 1 (by omega)).2
            have fr12 : w6.frozen? ⟨gd, k * 8 + 2, none⟩ = false := (HO6.out.there k (by omega) 2 (by omega)).2
            have fr13 : w6.frozen? ⟨gd, k * 8 + 3, none⟩ = false := (HO6.out.there k (by omega) 3 (by omega)).2
            have fr14 : w6.frozen? ⟨gd, k * 8 + 4, none⟩ = false := (HO6.out.there k (by omega) 4 (by omega)).2
            have fr15 : w6.frozen? ⟨gd, k * 8 + 5, none⟩ = false := (HO6.out.there k (by omega) 5 (by omega)).2
            have fr16 : w6.frozen? ⟨gd, k * 8 + 6, none⟩ = false := (HO6.out.there k (by omega) 6 (by omega)).2
            have fr17 : w6.frozen? ⟨gd, k * 8 + 7, none⟩ = false := (HO6.out.there k (by omega) 7 (by omega)).2
            have HSW2 : Hid (SnO T ((((((((((((((((w6.setCell ⟨gd, (k + 1) * 8, none⟩ (.string (T y).s)).setCell ⟨gd, (k + 1) * 8 + 1, none⟩ (.int .i64 (T y).k)).setCell ⟨gd, (k + 1) * 8 + 2, none⟩ (.int .u32 (T y).m)).setCell ⟨gd, (k + 1) * 8 + 3, none⟩ (.int .u32 (T y).u)).setCell ⟨gd, (k + 1) * 8 + 4, none⟩ (.int .u32 (T y).g)).setCell ⟨gd, (k + 1) * 8 + 5, none⟩ (.int .i64 (T y).t)).setCell ⟨gd, (k + 1) * 8 + 6, none⟩ (.int .i64 (T y).a)).setCell ⟨gd, (k + 1) * 8 + 7, none⟩ (.string (T y).d)).setCell ⟨gd, k * 8, none⟩ (.string (T x).s)).setCell ⟨gd, k * 8 + 1, none⟩ (.int .i64 (T x).k)).setCell ⟨gd, k * 8 + 2, none⟩ (.int .u32 (T x).m)).setCell ⟨gd, k * 8 + 3, none⟩ (.int .u32 (T x).u)).setCell ⟨gd, k * 8 + 4, none⟩ (.int .u32 (T x).g)).setCell ⟨gd, k * 8 + 5, none⟩ (.int .i64 (T x).t)).setCell ⟨gd, k * 8 + 6, none⟩ (.int .i64 (T x).a)).setCell ⟨gd, k * 8 + 7, none⟩ (.string (T x).d)).drew base gd m cap (swp S2 (k + 1) k)) := by
              have h := HSWF.out w6 HO6.out
              rw [setC8, setC8] at h
              exact h.drew
            have HGQ : Hid (w.grownBy ((((((((((((((((w6.setCell ⟨gd, (k + 1) * 8, none⟩ (.string (T y).s)).setCell ⟨gd, (k + 1) * 8 + 1, none⟩ (.int .i64 (T y).k)).setCell ⟨gd, (k + 1) * 8 + 2, none⟩ (.int .u32 (T y).m)).setCell ⟨gd, (k + 1) * 8 + 3, none⟩ (.int .u32 (T y).u)).setCell ⟨gd, (k + 1) * 8 + 4, none⟩ (.int .u32 (T y).g)).setCell ⟨gd, (k + 1) * 8 + 5, none⟩ (.int .i64 (T y).t)).setCell ⟨gd, (k + 1) * 8 + 6, none⟩ (.int .i64 (T y).a)).setCell ⟨gd, (k + 1) * 8 + 7, none⟩ (.string (T y).d)).setCell ⟨gd, k * 8, none⟩ (.string (T x).s)).setCell ⟨gd, k * 8 + 1, none⟩ (.int .i64 (T x).k)).setCell ⟨gd, k * 8 + 2, none⟩ (.int .u32 (T x).m)).setCell ⟨gd, k * 8 + 3, none⟩ (.int .u32 (T x).u)).setCell ⟨gd, k * 8 + 4, none⟩ (.int .u32 (T x).g)).setCell ⟨gd, k * 8 + 5, none⟩ (.int .i64 (T x).t)).setCell ⟨gd, k * 8 + 6, none⟩ (.int .i64 (T x).a)).setCell ⟨gd, k * 8 + 7, none⟩ (.string (T x).d)).drew (some gd)) := by
              have h := gsetC (T x).cellsL (k * 8) _ (gsetC (T y).cellsL ((k + 1) * 8) _ HG6.out)
              rw [setC8, setC8] at h
              exact gdrew1 h
            clear HSWF
            go_region
            generalize ((((((((((((((((w6.setCell ⟨gd, (k + 1) * 8, none⟩ (.string (T y).s)).setCell ⟨gd, (k + 1) * 8 + 1, none⟩ (.int .i64 (T y).k)).setCell ⟨gd, (k + 1) * 8 + 2, none⟩ (.int .u32 (T y).m)).setCell ⟨gd, (k + 1) * 8 + 3, none⟩ (.int .u32 (T y).u)).setCell ⟨gd, (k + 1) * 8 + 4, none⟩ (.int .u32 (T y).g)).setCell ⟨gd, (k + 1) * 8 + 5, none⟩ (.int .i64 (T y).t)).setCell ⟨gd, (k + 1) * 8 + 6, none⟩ (.int .i64 (T y).a)).setCell ⟨gd, (k + 1) * 8 + 7, none⟩ (.string (T y).d)).setCell ⟨gd, k * 8, none⟩ (.string (T x).s)).setCell ⟨gd, k * 8 + 1, none⟩ (.int .i64 (T x).k)).setCell ⟨gd, k * 8 + 2, none⟩ (.int .u32 (T x).m)).setCell ⟨gd, k * 8 + 3, none⟩ (.int .u32 (T x).u)).setCell ⟨gd, k * 8 + 4, none⟩ (.int .u32 (T x).g)).setCell ⟨gd, k * 8 + 5, none⟩ (.int .i64 (T x).t)).setCell ⟨gd, k * 8 + 6, none⟩ (.int .i64 (T x).a)).setCell ⟨gd, k * 8 + 7, none⟩ (.string (T x).d)).drew = w7 at *
            clear k00 k01 k02 k03 k04 k05 k06 k07 k10 k11 k12 k13 k14 k15 k16 k17 fr00 fr01 fr02 fr03 fr04 fr05 fr06 fr07 fr10 fr11 fr12 fr13 fr14 fr15 fr16 fr17
            go_wp2_with fail
            go_roundw
            case rel =>
              refine ⟨k, swp S2 (k + 1) k, by omega, by omega, by go_num, HSW2.out, HM2.out.trans HSM.out, ?_, ?_, HGQ.out, HMI2.out.trans HSM2.out, (by rw [HSA.out, if_pos rfl]; exact HAT.out), ?_⟩
              · intro p q h1 h2 h3 h4 h5
                rw [HSA.out, HSA.out, if_neg h4, if_neg h5]
                by_cases e1 : q = k + 1
                · by_cases e2 : p = k + 1
                  · rw [if_pos e1, if_pos e2]; exact Nat.le_refl _
                  · rw [if_pos e1, if_neg e2, ← HX2.out]
                    exact HS1.out p k h1 (by omega) (by omega) e2 (by omega)
                · by_cases e2 : p = k + 1
                  · rw [if_neg e1, if_pos e2, ← HX2.out]
                    exact HS1.out k q (by omega) (by omega) h3 (by omega) e1
                  · rw [if_neg e1, if_neg e2]
                    exact HS1.out p q h1 h2 h3 e2 e1
              · intro q h1 h2
                rw [HSA.out, HSA.out, if_pos rfl, if_neg (by omega)]
                by_cases e1 : q = k + 1
                · rw [if_pos e1]; omega
                · rw [if_neg e1]
                  exact HS2.out q (by omega) h2
              · intro p h1 h2 h3
                rw [HSA.out, if_neg h3]
                by_cases e1 : p = k + 1
                · rw [if_pos e1, ← HX2.out]
                  exact HBF.out k (by omega) (by omega) (by omega)
                · rw [if_neg e1]
                  exact HBF.out p h1 h2 e1
            case measure => simp [intOf]
          · have hc : ¬ cm x y < 0 := fun h => hfx ((HCI.out x y hq1 hq2 HLT.out).1 h)
            have hcd : decide (cm x y < 0) = false := decide_eq_false hc
            go_wp2_with fail
            go_roundw
            case rel => exact OUT.out (.inr (by rw [Nat.add_sub_cancel, HX2.out]; exact hfx)) w6 HO6.out HG6.out
            case measure => simp [intOf]; omega
        · have hd : decide ((a : Int) < (j : Int)) = false := decide_eq_false (by omega)
          go_wp2
          go_quiet (fail)
          go_wp2
          go_roundw
          case rel => exact OUT.out (.inl (by omega)) _ (HO2.out.drewN nq) (gdrew HG2.out nq)
          case measure => simp [intOf]; omega
    · go_wp2
      go_end0
      exact ⟨rfl, S1, ho, hmv, fun p q h1 h2 h3 => hsr p q h1 h2 (by omega), hg⟩
end Go.Proofs.YtpkhpaklhfomkaaGreatDoor.Is
