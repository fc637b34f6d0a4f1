/-
  A stable sort of items: ranges exchanged, parts turned about.
-/
import Derived.Test.YtpkhpaklhfomkaaGreatDoorIsB
namespace Go.Proofs.YtpkhpaklhfomkaaGreatDoor.Is
set_option maxRecDepth 100000
set_option linter.unusedSimpArgs false
set_option linter.unusedVariables false
open Go.RowKit Go.Joins Go.Deep
set_option maxRecDepth 100000 in
set_option maxHeartbeats 8000000 in
theorem swapRange_any (T : Nat → Itm) (base gd m cap x y n : Nat) (cv : Value) (S : List Nat) (w : World) (hO : SnO T w base gd m cap S) (hxy : x + n ≤ y) (hy : y + n ≤ m) (hm : m ≤ 1000) (hcv : ∃ fn a b, cv = .func fn a b) :
    Calls Tryz.prog 201 #[.slice (some ⟨gd, 0, none⟩) m cap, .int .i64 x, .int .i64 y, .int .i64 n, cv] w
      fun e w' => e = .returned (.tuple #[]) ∧ ∃ S', SnO T w' base gd m cap S' ∧ Mov x (y + n) S S' ∧ (∀ k, at0 S' k = at0 S (swI x y n k)) ∧ w.grownBy w' (some gd) := by
  obtain ⟨fn, a, b, rfl⟩ := hcv
  have HO := Lib.hid hO
  clear hO
  go_enter Tryz.func201, Tryz.ntmps201
  go_wp2
  go_loopw [10] (fun v wr => ∃ i S1, i ≤ n ∧ v = .int .i64 (i : Nat) ∧ SnO T wr base gd m cap S1 ∧ Mov x (y + n) S S1 ∧ (∀ k, at0 S1 k = at0 S (swI x y i k)) ∧ w.grownBy wr (some gd)) (fun v _ => n - (intOf v).toNat)
  case atStart => exact ⟨0, S, Nat.zero_le _, rfl, HO.out, Mov.refl _ _ _, fun k => by rw [swI_zero], World.grownBy.refl _ _⟩
  case round =>
    obtain ⟨i, S1, hi, rfl, ho, hmv, hat, hg⟩ := hrel
    by_cases hlt : i < n
    · have hc1 := ho.c8 (x + i) (by omega)
      have hc2 := ho.c8 (y + i) (by omega)
      have fr00 : wr.frozen? ⟨gd, (x + i) * 8, none⟩ = false := (ho.there (x + i) (by omega) 0 (by omega)).2
      have fr01 : wr.frozen? ⟨gd, (x + i) * 8 + 1, none⟩ = false := (ho.there (x + i) (by omega) 1 (by omega)).2
      have fr02 : wr.frozen? ⟨gd, (x + i) * 8 + 2, none⟩ = false := (ho.there (x + i) (by omega) 2 (by omega)).2
      have fr03 : wr.frozen? ⟨gd, (x + i) * 8 + 3, none⟩ = false := (ho.there (x + i) (by omega) 3 (by omega)).2
      have fr04 : wr.frozen? ⟨gd, (x + i) * 8 + 4, none⟩ = false := (ho.there (x + i) (by omega) 4 (by omega)).2
      have fr05 : wr.frozen? ⟨gd, (x + i) * 8 + 5, none⟩ = false := (ho.there (x + i) (by omega) 5 (by omega)).2
      have fr06 : wr.frozen? ⟨gd, (x + i) * 8 + 6, none⟩ = false := (ho.there (x + i) (by omega) 6 (by omega)).2
      have fr07 : wr.frozen? ⟨gd, (x + i) * 8 + 7, none⟩ = false := (ho.there (x + i) (by omega) 7 (by omega)).2
      have fr10 : wr.frozen? ⟨gd, (y + i) * 8, none⟩ = false := (ho.there (y + i) (by omega) 0 (by omega)).2
      have fr11 : wr.frozen? ⟨gd, (y + i) * 8 + 1, none⟩ = false := (ho.there (y + i) (by omega) 1 (by omega)).2
      have fr12 : wr.frozen? ⟨gd, (y + i) * 8 + 2, none⟩ = false := (ho.there (y + i) (by omega) 2 (by omega)).2
      have fr13 : wr.frozen? ⟨gd, (y + i) * 8 + 3, none⟩ = false := (ho.there (y + i) (by omega) 3 (by omega)).2
      have fr14 : wr.frozen? ⟨gd, (y + i) * 8 + 4, none⟩ = false := (ho.there (y + i) (by omega) 4 (by omega)).2
      have fr15 : wr.frozen? ⟨gd, (y + i) * 8 + 5, none⟩ = false := (ho.there (y + i) (by omega) 5 (by omega)).2
      have fr16 : wr.frozen? ⟨gd, (y + i) * 8 + 6, none⟩ = false := (ho.there (y + i) (by omega) 6 (by omega)).2
      have fr17 : wr.frozen? ⟨gd, (y + i) * 8 + 7, none⟩ = false := (ho.there (y + i) (by omega) 7 (by omega)).2
      have hsw := ho.swap (x + i) (y + i) (by omega) (by omega)
      rw [setC8, setC8] at hsw
      have HSW := Lib.hid hsw.drew
      clear hsw
      have HSM := Lib.hid (hmv.trans (swp_mov S1 x (y + n) (x + i) (y + i) (by have := ho.1; omega) (by have := ho.1; omega) (by omega) (by omega)))
      have hsa := fun k => swp_at S1 (x + i) (y + i) k (by have := ho.1; omega) (by have := ho.1; omega)
      have HAT : Hid (∀ k, at0 (swp S1 (x + i) (y + i)) k = at0 S (swI x y (i + 1) k)) := fun k => by
        rw [hsa k, ← swI_step x y n i k hlt hxy]
        by_cases h1 : k = y + i
        · rw [if_pos h1, if_pos h1, hat]
        · rw [if_neg h1, if_neg h1]
          by_cases h2 : k = x + i
          · rw [if_pos h2, if_pos h2, hat]
          · rw [if_neg h2, if_neg h2, hat]
      have HG := Lib.hid hg
      clear ho hmv hat hg hsa
      have w1 : IntKind.i64.wrap ((x : Int) + (i : Int)) = ((x + i : Nat) : Int) := by rw [IntKind.wrap_i64]; omega
      have w2 : IntKind.i64.wrap ((y : Int) + (i : Int)) = ((y + i : Nat) : Int) := by rw [IntKind.wrap_i64]; omega
      have HGQ : Hid (w.grownBy ((((((((((((((((wr.setCell ⟨gd, (x + i) * 8, none⟩ (.string (T (at0 S1 (y + i))).s)).setCell ⟨gd, (x + i) * 8 + 1, none⟩ (.int .i64 (T (at0 S1 (y + i))).k)).setCell ⟨gd, (x + i) * 8 + 2, none⟩ (.int .u32 (T (at0 S1 (y + i))).m)).setCell ⟨gd, (x + i) * 8 + 3, none⟩ (.int .u32 (T (at0 S1 (y + i))).u)).setCell ⟨gd, (x + i) * 8 + 4, none⟩ (.int .u32 (T (at0 S1 (y + i))).g)).setCell ⟨gd, (x + i) * 8 + 5, none⟩ (.int .i64 (T (at0 S1 (y + i))).t)).setCell ⟨gd, (x + i) * 8 + 6, none⟩ (.int .i64 (T (at0 S1 (y + i))).a)).setCell ⟨gd, (x + i) * 8 + 7, none⟩ (.string (T (at0 S1 (y + i))).d)).setCell ⟨gd, (y + i) * 8, none⟩ (.string (T (at0 S1 (x + i))).s)).setCell ⟨gd, (y + i) * 8 + 1, none⟩ (.int .i64 (T (at0 S1 (x + i))).k)).setCell ⟨gd, (y + i) * 8 + 2, none⟩ (.int .u32 (T (at0 S1 (x + i))).m)).setCell ⟨gd, (y + i) * 8 + 3, none⟩ (.int .u32 (T (at0 S1 (x + i))).u)).setCell ⟨gd, (y + i) * 8 + 4, none⟩ (.int .u32 (T (at0 S1 (x + i))).g)).setCell ⟨gd, (y + i) * 8 + 5, none⟩ (.int .i64 (T (at0 S1 (x + i))).t)).setCell ⟨gd, (y + i) * 8 + 6, none⟩ (.int .i64 (T (at0 S1 (x + i))).a)).setCell ⟨gd, (y + i) * 8 + 7, none⟩ (.string (T (at0 S1 (x + i))).d)).drew (some gd)) := by
        have h := gsetC (T (at0 S1 (x + i))).cellsL ((y + i) * 8) _ (gsetC (T (at0 S1 (y + i))).cellsL ((x + i) * 8) _ HG.out)
        rw [setC8, setC8] at h
        exact gdrew1 h
      generalize at0 S1 (x + i) = xv at *
      generalize at0 S1 (y + i) = yv at *
      obtain ⟨k00, k01, k02, k03, k04, k05, k06, k07⟩ := hc1
      obtain ⟨k10, k11, k12, k13, k14, k15, k16, k17⟩ := hc2
      go_wp2
      have b1 : (x : Int) + (i : Int) < m := by omega
      have b2 : (y : Int) + (i : Int) < m := by omega
      have b3 : (0 : Int) ≤ (x : Int) + (i : Int) := by omega
      have b4 : (0 : Int) ≤ (y : Int) + (i : Int) := by omega
      have t1 : ((x : Int) + (i : Int)).toNat = x + i := by omega
      have t2 : ((y : Int) + (i : Int)).toNat = y + i := by omega
      go_region
      generalize ((((((((((((((((wr.setCell ⟨gd, (x + i) * 8, none⟩ (.string (T yv).s)).setCell ⟨gd, (x + i) * 8 + 1, none⟩ (.int .i64 (T yv).k)).setCell ⟨gd, (x + i) * 8 + 2, none⟩ (.int .u32 (T yv).m)).setCell ⟨gd, (x + i) * 8 + 3, none⟩ (.int .u32 (T yv).u)).setCell ⟨gd, (x + i) * 8 + 4, none⟩ (.int .u32 (T yv).g)).setCell ⟨gd, (x + i) * 8 + 5, none⟩ (.int .i64 (T yv).t)).setCell ⟨gd, (x + i) * 8 + 6, none⟩ (.int .i64 (T yv).a)).setCell ⟨gd, (x + i) * 8 + 7, none⟩ (.string (T yv).d)).setCell ⟨gd, (y + i) * 8, none⟩ (.string (T xv).s)).setCell ⟨gd, (y + i) * 8 + 1, none⟩ (.int .i64 (T xv).k)).setCell ⟨gd, (y + i) * 8 + 2, none⟩ (.int .u32 (T xv).m)).setCell ⟨gd, (y + i) * 8 + 3, none⟩ (.int .u32 (T xv).u)).setCell ⟨gd, (y + i) * 8 + 4, none⟩ (.int .u32 (T xv).g)).setCell ⟨gd, (y + i) * 8 + 5, none⟩ (.int .i64 (T xv).t)).setCell ⟨gd, (y + i) * 8 + 6, none⟩ (.int .i64 (T xv).a)).setCell ⟨gd, (y + i) * 8 + 7, none⟩ (.string (T xv).d)).drew = w7 at *
      clear k00 fr00 k01 fr01 k02 fr02 k03 fr03 k04 fr04 k05 fr05 k06 fr06 k07 fr07 k10 fr10 k11 fr11 k12 fr12 k13 fr13 k14 fr14 k15 fr15 k16 fr16 k17 fr17
      go_wp2_with fail
      go_roundw
      case rel => exact ⟨i + 1, _, by omega, by go_num, HSW.out, HSM.out, HAT.out, HGQ.out⟩
      case measure => simp [intOf]; omega
    · obtain rfl : i = n := by omega
      go_wp2
      go_end0
      exact ⟨rfl, S1, ho, hmv, hat, hg⟩
set_option maxRecDepth 100000 in
set_option maxHeartbeats 8000000 in
theorem rotate_any (T : Nat → Itm) (base gd m cap a c b : Nat) (cv : Value) (S : List Nat) (w : World) (hO : SnO T w base gd m cap S) (hac : a < c) (hcb : c < b) (hb : b ≤ m) (hm : m ≤ 1000) (hcv : ∃ fn a b, cv = .func fn a b) :
    Calls Tryz.prog 167 #[.slice (some ⟨gd, 0, none⟩) m cap, .int .i64 a, .int .i64 c, .int .i64 b, cv] w
      fun e w' => e = .returned (.tuple #[]) ∧ ∃ S', SnO T w' base gd m cap S' ∧ Mov a b S S' ∧ (∀ k, at0 S' k = at0 S (rotI a c b k)) ∧ w.grownBy w' (some gd) := by
  have HSR := Lib.hid (fun x y n S1 w1 (ho : SnO T w1 base gd m cap S1) (h1 : x + n ≤ y) (h2 : y + n ≤ m) => swapRange_any T base gd m cap x y n cv S1 w1 ho h1 h2 hm hcv)
  obtain ⟨fn, q1, q2, rfl⟩ := hcv
  have HO := Lib.hid hO
  clear hO
  have w1 : IntKind.i64.wrap ((c : Int) - (a : Int)) = ((c - a : Nat) : Int) := by rw [IntKind.wrap_i64]; omega
  have w2 : IntKind.i64.wrap ((b : Int) - (c : Int)) = ((b - c : Nat) : Int) := by rw [IntKind.wrap_i64]; omega
  go_enter Tryz.func167, Tryz.ntmps167
  go_wp2_with fail
  go_loopw [10, 11] (fun vi vj wr => ∃ i j S1, 1 ≤ i ∧ 1 ≤ j ∧ i ≤ c - a ∧ j ≤ b - c ∧ vi = .int .i64 (i : Nat) ∧ vj = .int .i64 (j : Nat) ∧ SnO T wr base gd m cap S1 ∧ Mov a b S S1 ∧ (∀ k, at0 S1 (rotI (c - i) c (c + j) k) = at0 S (rotI a c b k)) ∧ w.grownBy wr (some gd)) (fun vi vj _ => (intOf vi).toNat + (intOf vj).toNat)
  case atStart => exact ⟨c - a, b - c, S, by omega, by omega, Nat.le_refl _, Nat.le_refl _, rfl, rfl, HO.out, Mov.refl _ _ _, fun k => by rw [show c - (c - a) = a by omega, show c + (b - c) = b by omega], World.grownBy.refl _ _⟩
  case round =>
    obtain ⟨i, j, S1, hi1, hj1, hi, hj, rfl, rfl, ho, hmv, hat, hg⟩ := hrel
    have HO1 := Lib.hid ho
    have HM := Lib.hid hmv
    have HAT := Lib.hid hat
    have HG := Lib.hid hg
    clear ho hmv hat hg
    have v1 : IntKind.i64.wrap ((c : Int) - (i : Int)) = ((c - i : Nat) : Int) := by rw [IntKind.wrap_i64]; omega
    rcases Nat.lt_trichotomy i j with hij | hij | hij
    · have hne : ¬ (i : Int) = (j : Int) := by omega
      have hlt : ¬ (j : Int) < (i : Int) := by omega
      have hltN : ¬ j < i := by omega
      have v2 : IntKind.i64.wrap ((c : Int) + (j : Int)) = ((c + j : Nat) : Int) := by rw [IntKind.wrap_i64]; omega
      have v3 : IntKind.i64.wrap (((c + j : Nat) : Int) - (i : Int)) = ((c + j - i : Nat) : Int) := by rw [IntKind.wrap_i64]; omega
      have v3' : IntKind.i64.wrap ((c : Int) + (j : Int) - (i : Int)) = ((c + j - i : Nat) : Int) := by rw [IntKind.wrap_i64]; omega
      have v4 : IntKind.i64.wrap ((j : Int) - (i : Int)) = ((j - i : Nat) : Int) := by rw [IntKind.wrap_i64]; omega
      have HC := Lib.hid (HSR.out (c - i) (c + j - i) i S1 wr HO1.out (by omega) (by omega))
      go_wp2_with fail
      refine (HC.out).mono ?_
      rintro e w3 ⟨rfl, S2, ho2, hm2, hat2, hg2⟩
      go_wp2_with fail
      go_roundw
      case rel => exact ⟨i, j - i, S2, hi1, by omega, hi, by omega, rfl, rfl, ho2, HM.out.trans (hm2.wide (by omega) (by omega)), fun k => by rw [hat2, rot_b c i j k (by omega) hi1 hij, HAT.out], gtrans HG.out hg2⟩
      case measure => simp [intOf]; omega
    · subst hij
      have HC := Lib.hid (HSR.out (c - i) c i S1 wr HO1.out (by omega) (by omega))
      go_wp2_with fail
      refine (HC.out).mono ?_
      rintro e w3 ⟨rfl, S2, ho2, hm2, hat2, hg2⟩
      go_wp2_with fail
      go_end0
      exact ⟨rfl, S2, ho2, HM.out.trans (hm2.wide (by omega) (by omega)), fun k => by rw [hat2, rot_c c i k (by omega), HAT.out], gtrans HG.out hg2⟩
    · have hne : ¬ (i : Int) = (j : Int) := by omega
      have hlt : (j : Int) < (i : Int) := by omega
      have v4 : IntKind.i64.wrap ((i : Int) - (j : Int)) = ((i - j : Nat) : Int) := by rw [IntKind.wrap_i64]; omega
      have HC := Lib.hid (HSR.out (c - i) c j S1 wr HO1.out (by omega) (by omega))
      go_wp2_with fail
      refine (HC.out).mono ?_
      rintro e w3 ⟨rfl, S2, ho2, hm2, hat2, hg2⟩
      go_wp2_with fail
      go_roundw
      case rel => exact ⟨i - j, j, S2, by omega, hj1, by omega, hj, rfl, rfl, ho2, HM.out.trans (hm2.wide (by omega) (by omega)), fun k => by rw [hat2, rot_a c i j k (by omega) hj1 hij, HAT.out], gtrans HG.out hg2⟩
      case measure => simp [intOf]; omega
end Go.Proofs.YtpkhpaklhfomkaaGreatDoor.Is
