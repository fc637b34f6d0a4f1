/-
  A stable sort of items: ranges exchanged, parts turned about.
  A stable sort of items: symMerge where the first part is one place.
-/
import Derived.Test.YtmeapijckncoeaaGreatDoorPkBB

namespace Go.Proofs.YtmeapijckncoeaaGreatDoor.Is
set_option maxRecDepth 100000
set_option linter.unusedSimpArgs false
set_option linter.unusedVariables false
open Go.RowKit Go.Joins Go.Deep
set_option maxRecDepth 100000 in
set_option maxHeartbeats 8000000 in
theorem swapRange_any (T : Nat → Itm) (base gd m cap x y n : Nat) (cv : Value) (S : List Nat) (w : World) (hO : SnO T w base gd m cap S) (hxy : x + n ≤ y) (hy : y + n ≤ m) (hm : m ≤ 1000000) (hcv : ∃ fn a b, cv = .func fn a b) :
    Calls Tryz.prog 110 #[.slice (some ⟨gd, 0, none⟩) m cap, .int .i64 x, .int .i64 y, .int .i64 n, cv] w
      fun e w' => e = .returned (.tuple #[]) ∧ ∃ S', SnO T w' base gd m cap S' ∧ Mov x (y + n) S S' ∧ (∀ k, at0 S' k = at0 S (swI x y n k)) ∧ w.grownBy w' (some gd) := by
  obtain ⟨fn, a, b, rfl⟩ := hcv
  have HO := Lib.hid hO
  clear hO
  go_enter Tryz.func110, Tryz.ntmps110
  go_wp2
  go_loopw [10] (fun v wr => ∃ i S1, i ≤ n ∧ v = .int .i64 (i : Nat) ∧ SnO T wr base gd m cap S1 ∧ Mov x (y + n) S S1 ∧ (∀ k, at0 S1 k = at0 S (swI x y i k)) ∧ w.grownBy wr (some gd)) (fun v _ => n - (intOf v).toNat)
  case atStart => exact ⟨0, S, Nat.zero_le _, rfl, HO.out, Mov.refl _ _ _, fun k => by rw [swI_zero], World.grownBy.refl _ _⟩
  case round =>
    obtain ⟨i, S1, hi, rfl, ho, hmv, hat, hg⟩ := hrel
    by_cases hlt : i < n
    · have hc1 := ho.c8 (x + i) (by omega)
      have hc2 := ho.c8 (y + i) (by omega)
      have fr00 : wr.frozen? ⟨gd, (x + i) * 8, none⟩ = false := (ho.there (x + i) (by omega) 0 (by omega)).2
      have fr01 : wr.frozen? ⟨gd, (x + i) * 8 + 1, none⟩ = false := (ho.there (x + i) (by omega) 1 (by omega)).2
      have fr02 : wr.frozen? ⟨gd, (x + i) * 8 + 2, none⟩ = false := (ho.there (x + i) (by omega) 2 (by omega)).2
      have fr03 : wr.frozen? ⟨gd, (x + i) * 8 + 3, none⟩ = false := (ho.there (x + i) (by omega) 3 (by omega)).2
      have fr04 : wr.frozen? ⟨gd, (x + i) * 8 + 4, none⟩ = false := (ho.there (x + i) (by omega) 4 (by omega)).2
      have fr05 : wr.frozen? ⟨gd, (x + i) * 8 + 5, none⟩ = false := (ho.there (x + i) (by omega) 5 (by omega)).2
      have fr06 : wr.frozen? ⟨gd, (x + i) * 8 + 6, none⟩ = false := (ho.there (x + i) (by omega) 6 (by omega)).2
      have fr07 : wr.frozen? ⟨gd, (x + i) * 8 + 7, none⟩ = false := (ho.there (x + i) (by omega) 7 (by omega)).2
      have fr10 : wr.frozen? ⟨gd, (y + i) * 8, none⟩ = false := (ho.there (y + i) (by omega) 0 (by omega)).2
      have fr11 : wr.frozen? ⟨gd, (y + i) * 8 + 1, none⟩ = false := (ho.there (y + i) (by omega) 1 (by omega)).2
      have fr12 : wr.frozen? ⟨gd, (y + i) * 8 + 2, none⟩ = false := (ho.there (y + i) (by omega) 2 (by omega)).2
      have fr13 : wr.frozen? ⟨gd, (y + i) * 8 + 3, none⟩ = false := (ho.there (y + i) (by omega) 3 (by omega)).2
      have fr14 : wr.frozen? ⟨gd, (y + i) * 8 + 4, none⟩ = false := (ho.there (y + i) (by omega) 4 (by omega)).2
      have fr15 : wr.frozen? ⟨gd, (y + i) * 8 + 5, none⟩ = false := (ho.there (y + i) (by omega) 5 (by omega)).2
      have fr16 : wr.frozen? ⟨gd, (y + i) * 8 + 6, none⟩ = false := (ho.there (y + i) (by omega) 6 (by omega)).2
      have fr17 : wr.frozen? ⟨gd, (y + i) * 8 + 7, none⟩ = false := (ho.there (y + i) (by omega) 7 (by omega)).2
      have hsw := ho.swap (x + i) (y + i) (by omega) (by omega)
      rw [setC8, setC8] at hsw
      have HSW := Lib.hid hsw.drew
      clear hsw
      have HSM := Lib.hid (hmv.trans (swp_mov S1 x (y + n) (x + i) (y + i) (by have := ho.1; omega) (by have := ho.1; omega) (by omega) (by omega)))
      have hsa := fun k => swp_at S1 (x + i) (y + i) k (by have := ho.1; omega) (by have := ho.1; omega)
      have HAT : Hid (∀ k, at0 (swp S1 (x + i) (y + i)) k = at0 S (swI x y (i + 1) k)) := fun k => by
        rw [hsa k, ← swI_step x y n i k hlt hxy]
        by_cases h1 : k = y + i
        · rw [if_pos h1, if_pos h1, hat]
        · rw [if_neg h1, if_neg h1]
          by_cases h2 : k = x + i
          · rw [if_pos h2, if_pos h2, hat]
          · rw [if_neg h2, if_neg h2, hat]
      have HG := Lib.hid hg
      clear ho hmv hat hg hsa
      have w1 : IntKind.i64.wrap ((x : Int) + (i : Int)) = ((x + i : Nat) : Int) := by rw [IntKind.wrap_i64]; omega
      have w2 : IntKind.i64.wrap ((y : Int) + (i : Int)) = ((y + i : Nat) : Int) := by rw [IntKind.wrap_i64]; omega
      have HGQ : Hid (w.grownBy ((((((((((((((((wr.setCell ⟨gd, (x + i) * 8, none⟩ (.string (T (at0 S1 (y + i))).s)).setCell ⟨gd, (x + i) * 8 + 1, none⟩ (.int .i64 (T (at0 S1 (y + i))).k)).setCell ⟨gd, (x + i) * 8 + 2, none⟩ (.int .u32 (T (at0 S1 (y + i))).m)).setCell ⟨gd, (x + i) * 8 + 3, none⟩ (.int .u32 (T (at0 S1 (y + i))).u)).setCell ⟨gd, (x + i) * 8 + 4, none⟩ (.int .u32 (T (at0 S1 (y + i))).g)).setCell ⟨gd, (x + i) * 8 + 5, none⟩ (.int .i64 (T (at0 S1 (y + i))).t)).setCell ⟨gd, (x + i) * 8 + 6, none⟩ (.int .i64 (T (at0 S1 (y + i))).a)).setCell ⟨gd, (x + i) * 8 + 7, none⟩ (.string (T (at0 S1 (y + i))).d)).setCell ⟨gd, (y + i) * 8, none⟩ (.string (T (at0 S1 (x + i))).s)).setCell ⟨gd, (y + i) * 8 + 1, none⟩ (.int .i64 (T (at0 S1 (x + i))).k)).setCell ⟨gd, (y + i) * 8 + 2, none⟩ (.int .u32 (T (at0 S1 (x + i))).m)).setCell ⟨gd, (y + i) * 8 + 3, none⟩ (.int .u32 (T (at0 S1 (x + i))).u)).setCell ⟨gd, (y + i) * 8 + 4, none⟩ (.int .u32 (T (at0 S1 (x + i))).g)).setCell ⟨gd, (y + i) * 8 + 5, none⟩ (.int .i64 (T (at0 S1 (x + i))).t)).setCell ⟨gd, (y + i) * 8 + 6, none⟩ (.int .i64 (T (at0 S1 (x + i))).a)).setCell ⟨gd, (y + i) * 8 + 7, none⟩ (.string (T (at0 S1 (x + i))).d)).drew (some gd)) := by
        have h := gsetC (T (at0 S1 (x + i))).cellsL ((y + i) * 8) _ (gsetC (T (at0 S1 (y + i))).cellsL ((x + i) * 8) _ HG.out)
        rw [setC8, setC8] at h
        exact gdrew1 h
      generalize at0 S1 (x + i) = xv at *
      generalize at0 S1 (y + i) = yv at *
      obtain ⟨k00, k01, k02, k03, k04, k05, k06, k07⟩ := hc1
      obtain ⟨k10, k11, k12, k13, k14, k15, k16, k17⟩ := hc2
      go_wp2
      have b1 : (x : Int) + (i : Int) < m := by omega
      have b2 : (y : Int) + (i : Int) < m := by omega
      have b3 : (0 : Int) ≤ (x : Int) + (i : Int) := by omega
      have b4 : (0 : Int) ≤ (y : Int) + (i : Int) := by omega
      have t1 : ((x : Int) + (i : Int)).toNat = x + i := by omega
      have t2 : ((y : Int) + (i : Int)).toNat = y + i := by omega
      go_region
      generalize ((((((((((((((((wr.setCell ⟨gd, (x + i) * 8, none⟩ (.string (T yv).s)).setCell ⟨gd, (x + i) * 8 + 1, none⟩ (.int .i64 (T yv).k)).setCell ⟨gd, (x + i) * 8 + 2, none⟩ (.int .u32 (T yv).m)).setCell ⟨gd, (x + i) * 8 + 3, none⟩ (.int .u32 (T yv).u)).setCell ⟨gd, (x + i) * 8 + 4, none⟩ (.int .u32 (T yv).g)).setCell ⟨gd, (x + i) * 8 + 5, none⟩ (.int .i64 (T yv).t)).setCell ⟨gd, (x + i) * 8 + 6, none⟩ (.int .i64 (T yv).a)).setCell ⟨gd, (x + i) * 8 + 7, none⟩ (.string (T yv).d)).setCell ⟨gd, (y + i) * 8, none⟩ (.string (T xv).s)).setCell ⟨gd, (y + i) * 8 + 1, none⟩ (.int .i64 (T xv).k)).setCell ⟨gd, (y + i) * 8 + 2, none⟩ (.int .u32 (T xv).m)).setCell ⟨gd, (y + i) * 8 + 3, none⟩ (.int .u32 (T xv).u)).setCell ⟨gd, (y + i) * 8 + 4, none⟩ (.int .u32 (T xv).g)).setCell ⟨gd, (y + i) * 8 + 5, none⟩ (.int .i64 (T xv).t)).setCell ⟨gd, (y + i) * 8 + 6, none⟩ (.int .i64 (T xv).a)).setCell ⟨gd, (y + i) * 8 + 7, none⟩ (.string (T xv).d)).drew = w7 at *
      clear k00 fr00 k01 fr01 k02 fr02 k03 fr03 k04 fr04 k05 fr05 k06 fr06 k07 fr07 k10 fr10 k11 fr11 k12 fr12 k13 fr13 k14 fr14 k15 fr15 k16 fr16 k17 fr17
      go_wp2_with fail
      go_roundw
      case rel => exact ⟨i + 1, _, by omega, by go_num, HSW.out, HSM.out, HAT.out, HGQ.out⟩
      case measure => simp [intOf]; omega
    · obtain rfl : i = n := by omega
      go_wp2
      go_end0
      exact ⟨rfl, S1, ho, hmv, hat, hg⟩
set_option maxRecDepth 100000 in
set_option maxHeartbeats 8000000 in
theorem rotate_any (T : Nat → Itm) (base gd m cap a c b : Nat) (cv : Value) (S : List Nat) (w : World) (hO : SnO T w base gd m cap S) (hac : a < c) (hcb : c < b) (hb : b ≤ m) (hm : m ≤ 1000000) (hcv : ∃ fn a b, cv = .func fn a b) :
    Calls Tryz.prog 102 #[.slice (some ⟨gd, 0, none⟩) m cap, .int .i64 a, .int .i64 c, .int .i64 b, cv] w
      fun e w' => e = .returned (.tuple #[]) ∧ ∃ S', SnO T w' base gd m cap S' ∧ Mov a b S S' ∧ (∀ k, at0 S' k = at0 S (rotI a c b k)) ∧ w.grownBy w' (some gd) := by
  have HSR := Lib.hid (fun x y n S1 w1 (ho : SnO T w1 base gd m cap S1) (h1 : x + n ≤ y) (h2 : y + n ≤ m) => swapRange_any T base gd m cap x y n cv S1 w1 ho h1 h2 hm hcv)
  obtain ⟨fn, q1, q2, rfl⟩ := hcv
  have HO := Lib.hid hO
  clear hO
  have w1 : IntKind.i64.wrap ((c : Int) - (a : Int)) = ((c - a : Nat) : Int) := by rw [IntKind.wrap_i64]; omega
  have w2 : IntKind.i64.wrap ((b : Int) - (c : Int)) = ((b - c : Nat) : Int) := by rw [IntKind.wrap_i64]; omega
  go_enter Tryz.func102, Tryz.ntmps102
  go_wp2_with fail
  go_loopw [10, 11] (fun vi vj wr => ∃ i j S1, 1 ≤ i ∧ 1 ≤ j ∧ i ≤ c - a ∧ j ≤ b - c ∧ vi = .int .i64 (i : Nat) ∧ vj = .int .i64 (j : Nat) ∧ SnO T wr base gd m cap S1 ∧ Mov a b S S1 ∧ (∀ k, at0 S1 (rotI (c - i) c (c + j) k) = at0 S (rotI a c b k)) ∧ w.grownBy wr (some gd)) (fun vi vj _ => (intOf vi).toNat + (intOf vj).toNat)
  case atStart => exact ⟨c - a, b - c, S, by omega, by omega, Nat.le_refl _, Nat.le_refl _, rfl, rfl, HO.out, Mov.refl _ _ _, fun k => by rw [show c - (c - a) = a by omega, show c + (b - c) = b by omega], World.grownBy.refl _ _⟩
  case round =>
    obtain ⟨i, j, S1, hi1, hj1, hi, hj, rfl, rfl, ho, hmv, hat, hg⟩ := hrel
    have HO1 := Lib.hid ho
    have HM := Lib.hid hmv
    have HAT := Lib.hid hat
    have HG := Lib.hid hg
    clear ho hmv hat hg
    have v1 : IntKind.i64.wrap ((c : Int) - (i : Int)) = ((c - i : Nat) : Int) := by rw [IntKind.wrap_i64]; omega
    rcases Nat.lt_trichotomy i j with hij | hij | hij
    · have hne : ¬ (i : Int) = (j : Int) := by omega
      have hlt : ¬ (j : Int) < (i : Int) := by omega
      have hltN : ¬ j < i := by omega
      have v2 : IntKind.i64.wrap ((c : Int) + (j : Int)) = ((c + j : Nat) : Int) := by rw [IntKind.wrap_i64]; omega
      have v3 : IntKind.i64.wrap (((c + j : Nat) : Int) - (i : Int)) = ((c + j - i : Nat) : Int) := by rw [IntKind.wrap_i64]; omega
      have v3' : IntKind.i64.wrap ((c : Int) + (j : Int) - (i : Int)) = ((c + j - i : Nat) : Int) := by rw [IntKind.wrap_i64]; omega
      have v4 : IntKind.i64.wrap ((j : Int) - (i : Int)) = ((j - i : Nat) : Int) := by rw [IntKind.wrap_i64]; omega
      have HC := Lib.hid (HSR.out (c - i) (c + j - i) i S1 wr HO1.out (by omega) (by omega))
      go_wp2_with fail
      refine (HC.out).mono ?_
      rintro e w3 ⟨rfl, S2, ho2, hm2, hat2, hg2⟩
      go_wp2_with fail
      go_roundw
      case rel => exact ⟨i, j - i, S2, hi1, by omega, hi, by omega, rfl, rfl, ho2, HM.out.trans (hm2.wide (by omega) (by omega)), fun k => by rw [hat2, rot_b c i j k (by omega) hi1 hij, HAT.out], gtrans HG.out hg2⟩
      case measure => simp [intOf]; omega
    · subst hij
      have HC := Lib.hid (HSR.out (c - i) c i S1 wr HO1.out (by omega) (by omega))
      go_wp2_with fail
      refine (HC.out).mono ?_
      rintro e w3 ⟨rfl, S2, ho2, hm2, hat2, hg2⟩
      go_wp2_with fail
      go_end0
      exact ⟨rfl, S2, ho2, HM.out.trans (hm2.wide (by omega) (by omega)), fun k => by rw [hat2, rot_c c i k (by omega), HAT.out], gtrans HG.out hg2⟩
    · have hne : ¬ (i : Int) = (j : Int) := by omega
      have hlt : (j : Int) < (i : Int) := by omega
      have v4 : IntKind.i64.wrap ((i : Int) - (j : Int)) = ((i - j : Nat) : Int) := by rw [IntKind.wrap_i64]; omega
      have HC := Lib.hid (HSR.out (c - i) c j S1 wr HO1.out (by omega) (by omega))
      go_wp2_with fail
      refine (HC.out).mono ?_
      rintro e w3 ⟨rfl, S2, ho2, hm2, hat2, hg2⟩
      go_wp2_with fail
      go_roundw
      case rel => exact ⟨i - j, j, S2, by omega, hj1, by omega, hj, rfl, rfl, ho2, HM.out.trans (hm2.wide (by omega) (by omega)), fun k => by rw [hat2, rot_a c i j k (by omega) hj1 hij, HAT.out], gtrans HG.out hg2⟩
      case measure => simp [intOf]; omega
end Go.Proofs.YtmeapijckncoeaaGreatDoor.Is

namespace Go.Proofs.YtmeapijckncoeaaGreatDoor.Is
set_option maxRecDepth 100000
set_option linter.unusedSimpArgs false
set_option linter.unusedVariables false
open Go.RowKit Go.Joins Go.Deep
set_option maxRecDepth 100000 in
set_option maxHeartbeats 8000000 in
theorem sym_one (T : Nat → Itm) (base gd m cap a c b pc n : Nat) (f : Nat → Nat) (S : List Nat) (w : World) (hO : SnO T w base gd m cap S) (hx : ∀ x ∈ S, x < n) (hC : CmpOk T w gd pc n f) (hac : c = a + 1) (hcb : c < b) (hb : b ≤ m) (hm : m ≤ 1000000) (hs : SrtOn f c b S) (hord : Ord a c b S) :
    Calls Tryz.prog 85 #[.slice (some ⟨gd, 0, none⟩) m cap, .int .i64 (a : Nat), .int .i64 (c : Nat), .int .i64 (b : Nat), .func (.func 44) #[] #[]] w
      fun e w' => e = .returned (.tuple #[]) ∧ ∃ S', SnO T w' base gd m cap S' ∧ Mov a b S S' ∧ SrtOn f a b S' ∧ w.grownBy w' (some gd) := by
  have HX : Hid (∀ k, k < m → at0 S k < n) := fun k hk => by
    have hl : S.length = m := hO.1
    refine hx _ ?_
    rw [at0, List.getElem?_eq_getElem (by omega)]
    exact List.getElem_mem _
  obtain ⟨cm, hcm, hC⟩ := hC
  have HCI := Lib.hid hcm
  have HORD := Lib.hid hord
  clear hcm hord
  have HC := Lib.hid hC
  have HO := Lib.hid hO
  have HS := Lib.hid hs
  have HAC := Lib.hid hac
  have hbnd : a < c := by omega
  have hca : c ≤ a + 1 := by omega
  clear hC hx hO hs
  have v0 : IntKind.i64.wrap ((c : Int) - (a : Int)) = 1 := by rw [IntKind.wrap_i64]; omega
  clear hac
  go_enter Tryz.func85, Tryz.ntmps85
  go_wp2_with fail
  go_loopw [10, 11] (fun vi vj wr => ∃ i j, c ≤ i ∧ i ≤ j ∧ j ≤ b ∧ vi = .int .i64 (i : Nat) ∧ vj = .int .i64 (j : Nat) ∧ SnO T wr base gd m cap S ∧ w.grownBy wr (some gd) ∧ (∀ q, c ≤ q → q < i → f (at0 S q) < f (at0 S a)) ∧ (∀ q, j ≤ q → q < b → f (at0 S a) ≤ f (at0 S q))) (fun vi vj _ => (intOf vj - intOf vi).toNat)
  case atStart => exact ⟨c, b, Nat.le_refl _, by omega, Nat.le_refl _, rfl, rfl, HO.out, World.grownBy.refl _ _, fun q h1 h2 => by omega, fun q h1 h2 => by omega⟩
  case round =>
    obtain ⟨i, j, hci, hij, hjb, rfl, rfl, ho2', hg2', hlo, hhi⟩ := hrel
    have HLO := Lib.hid hlo
    have HO2 := Lib.hid ho2'
    have HG2 := Lib.hid hg2'
    clear ho2' hg2'
    have HHI := Lib.hid hhi
    clear hlo hhi
    by_cases hlt : i < j
    · obtain ⟨h, hh⟩ : ∃ h, h = (i + j) / 2 := ⟨_, rfl⟩
      have hih : i ≤ h := by omega
      have hhj : h < j := by omega
      have hc1 := HO2.out.c8 h (by omega)
      have hc2 := HO2.out.c8 a (by omega)
      have hq1 := HX.out h (by omega)
      have hq2 := HX.out a (by omega)
      have HCM := Lib.hid (fun w1 hg1 => HC.out w1 hg1 _ _ hq1 hq2)
      have HKO := Lib.hid (fun (w1 : World) (hb : Below wr.heap.size wr w1) => HO2.out.below hb)
      have HBW : Hid (∀ w1 : World, Below wr.heap.size wr w1 → C8 w1 gd (h * 8) (T (at0 S h)) ∧ C8 w1 gd (a * 8) (T (at0 S a))) := fun w1 hb => ⟨(HO2.out.below hb).c8 h (by omega), (HO2.out.below hb).c8 a (by omega)⟩
      have HCC := Lib.hid (HCI.out _ _ hq1 hq2 (HORD.out a h (Nat.le_refl _) (by omega) (by omega) (by omega)))
      have HUP : Hid (f (at0 S h) < f (at0 S a) → ∀ q, c ≤ q → q < h + 1 → f (at0 S q) < f (at0 S a)) := fun hlt2 q h1 h2 => Nat.lt_of_le_of_lt (HS.out q h h1 (by omega) (by omega)) hlt2
      have HDN : Hid (¬ f (at0 S h) < f (at0 S a) → ∀ q, h ≤ q → q < b → f (at0 S a) ≤ f (at0 S q)) := fun hlt2 q h1 h2 => Nat.le_trans (by omega) (HS.out h q (by omega) h1 h2)
      go_wp2_with fail
      rw [show ((i : Int) + (j : Int)) / 2 = ((h : Nat) : Int) by omega]
      clear hh
      generalize hx1 : at0 S h = x at *
      generalize hx2 : at0 S a = y at *
      have HX2 := Lib.hid hx2
      clear hx1 hx2
      simp only [Itm.cells] at HCM
      obtain ⟨p0, p1, p2, p3, p4, p5, p6, p7⟩ := hc1
      obtain ⟨q0, q1, q2, q3, q4, q5, q6, q7⟩ := hc2
      have k0 : wr.cell? ⟨gd, h * 8, none⟩ = some (.string (T x).s) ∧ wr.cell? ⟨gd, h * 8 + 1, none⟩ = some (.int .i64 (T x).k) ∧ wr.cell? ⟨gd, h * 8 + 2, none⟩ = some (.int .u32 (T x).m) ∧ wr.cell? ⟨gd, h * 8 + 3, none⟩ = some (.int .u32 (T x).u) ∧ wr.cell? ⟨gd, h * 8 + 4, none⟩ = some (.int .u32 (T x).g) ∧ wr.cell? ⟨gd, h * 8 + 5, none⟩ = some (.int .i64 (T x).t) ∧ wr.cell? ⟨gd, h * 8 + 6, none⟩ = some (.int .i64 (T x).a) ∧ wr.cell? ⟨gd, h * 8 + 7, none⟩ = some (.string (T x).d) ∧ wr.cell? ⟨gd, a * 8, none⟩ = some (.string (T y).s) ∧ wr.cell? ⟨gd, a * 8 + 1, none⟩ = some (.int .i64 (T y).k) ∧ wr.cell? ⟨gd, a * 8 + 2, none⟩ = some (.int .u32 (T y).m) ∧ wr.cell? ⟨gd, a * 8 + 3, none⟩ = some (.int .u32 (T y).u) ∧ wr.cell? ⟨gd, a * 8 + 4, none⟩ = some (.int .u32 (T y).g) ∧ wr.cell? ⟨gd, a * 8 + 5, none⟩ = some (.int .i64 (T y).t) ∧ wr.cell? ⟨gd, a * 8 + 6, none⟩ = some (.int .i64 (T y).a) ∧ wr.cell? ⟨gd, a * 8 + 7, none⟩ = some (.string (T y).d) := ⟨p0, p1, p2, p3, p4, p5, p6, p7, q0, q1, q2, q3, q4, q5, q6, q7⟩
      have hbp : (h : Int) < (m : Int) := by omega
      have hbq : (a : Int) < (m : Int) := by omega
      go_region_held3 (fun w' => w'.cell? ⟨gd, h * 8, none⟩ = some (.string (T x).s) ∧ w'.cell? ⟨gd, h * 8 + 1, none⟩ = some (.int .i64 (T x).k) ∧ w'.cell? ⟨gd, h * 8 + 2, none⟩ = some (.int .u32 (T x).m) ∧ w'.cell? ⟨gd, h * 8 + 3, none⟩ = some (.int .u32 (T x).u) ∧ w'.cell? ⟨gd, h * 8 + 4, none⟩ = some (.int .u32 (T x).g) ∧ w'.cell? ⟨gd, h * 8 + 5, none⟩ = some (.int .i64 (T x).t) ∧ w'.cell? ⟨gd, h * 8 + 6, none⟩ = some (.int .i64 (T x).a) ∧ w'.cell? ⟨gd, h * 8 + 7, none⟩ = some (.string (T x).d) ∧ w'.cell? ⟨gd, a * 8, none⟩ = some (.string (T y).s) ∧ w'.cell? ⟨gd, a * 8 + 1, none⟩ = some (.int .i64 (T y).k) ∧ w'.cell? ⟨gd, a * 8 + 2, none⟩ = some (.int .u32 (T y).m) ∧ w'.cell? ⟨gd, a * 8 + 3, none⟩ = some (.int .u32 (T y).u) ∧ w'.cell? ⟨gd, a * 8 + 4, none⟩ = some (.int .u32 (T y).g) ∧ w'.cell? ⟨gd, a * 8 + 5, none⟩ = some (.int .i64 (T y).t) ∧ w'.cell? ⟨gd, a * 8 + 6, none⟩ = some (.int .i64 (T y).a) ∧ w'.cell? ⟨gd, a * 8 + 7, none⟩ = some (.string (T y).d)) (first | exact k0 | exact k1) ((go_at_call 44; (with_reducible refine (HCM.out _ ?_).mono ?_); exact ⟨HG2.out.os, HG2.out.tape, HG2.out.output, HG2.out.size, HG2.out.block⟩; rintro e w6 ⟨rfl, hb6⟩; have k1 := and16 (HBW.out w6 (by exact ⟨hb6.os, hb6.tape, hb6.output, hb6.size, hb6.block⟩))))
      have HO6 := Lib.hid (HKO.out w6 (by exact ⟨hb6.os, hb6.tape, hb6.output, hb6.size, hb6.block⟩))
      have HG6 : Hid (w.grownBy w6 (some gd)) := gbel HG2.out (by exact ⟨hb6.os, hb6.tape, hb6.output, hb6.size, hb6.block⟩)
      clear hb6 HBW HKO k0 k1 p0 p1 p2 p3 p4 p5 p6 p7 q0 q1 q2 q3 q4 q5 q6 q7
      by_cases hfx : f x < f y
      · have hc := HCC.out.2 hfx
        have hcd : decide (cm x y < 0) = true := decide_eq_true hc
        have hcn : (!decide (cm x y < 0)) = false := by rw [hcd]; rfl
        go_wp2_with fail
        go_roundw
        case rel => exact ⟨h + 1, j, by omega, by omega, hjb, by go_num, rfl, HO6.out, HG6.out, by rw [HX2.out]; exact HUP.out hfx, by rw [HX2.out]; exact HHI.out⟩
        case measure => simp [intOf]; omega
      · have hc : ¬ cm x y < 0 := fun h => hfx (HCC.out.1 h)
        have hcd : decide (cm x y < 0) = false := decide_eq_false hc
        have hcn : (!decide (cm x y < 0)) = true := by rw [hcd]; rfl
        go_wp2_with fail
        go_roundw
        case rel => exact ⟨i, h, by omega, by omega, by omega, rfl, rfl, HO6.out, HG6.out, by rw [HX2.out]; exact HLO.out, by rw [HX2.out]; exact HDN.out hfx⟩
        case measure => simp [intOf]; omega
    · obtain rfl : i = j := by omega
      have v1 : IntKind.i64.wrap ((i : Int) - 1) = ((i - 1 : Nat) : Int) := by rw [IntKind.wrap_i64]; omega
      go_wp2_with fail
      go_loopw [13] (fun vk wr => ∃ k S1, a ≤ k ∧ k ≤ i - 1 ∧ vk = .int .i64 (k : Nat) ∧ SnO T wr base gd m cap S1 ∧ Mov a b S S1 ∧ (∀ p, at0 S1 p = if a ≤ p ∧ p < k then at0 S (p + 1) else if p = k then at0 S a else at0 S p) ∧ w.grownBy wr (some gd)) (fun vk _ => i - (intOf vk).toNat)
      case atStart => exact ⟨a, S, Nat.le_refl _, by omega, rfl, HO2.out, Mov.refl _ _ _, fun p => by rw [if_neg (by omega)]; split <;> simp_all, HG2.out⟩
      case round =>
        obtain ⟨k, S1, hak, hki, rfl, ho, hmv, hat, hg⟩ := hrel
        by_cases hlt2 : k < i - 1
        · have hc1 := ho.c8 k (by omega)
          have hc2 := ho.c8 (k + 1) (by omega)
          have fr00 : wr.frozen? ⟨gd, k * 8, none⟩ = false := (ho.there k (by omega) 0 (by omega)).2
          have fr01 : wr.frozen? ⟨gd, k * 8 + 1, none⟩ = false := (ho.there k (by omega) 1 (by omega)).2
          have fr02 : wr.frozen? ⟨gd, k * 8 + 2, none⟩ = false := (ho.there k (by omega) 2 (by omega)).2
          have fr03 : wr.frozen? ⟨gd, k * 8 + 3, none⟩ = false := (ho.there k (by omega) 3 (by omega)).2
          have fr04 : wr.frozen? ⟨gd, k * 8 + 4, none⟩ = false := (ho.there k (by omega) 4 (by omega)).2
          have fr05 : wr.frozen? ⟨gd, k * 8 + 5, none⟩ = false := (ho.there k (by omega) 5 (by omega)).2
          have fr06 : wr.frozen? ⟨gd, k * 8 + 6, none⟩ = false := (ho.there k (by omega) 6 (by omega)).2
          have fr07 : wr.frozen? ⟨gd, k * 8 + 7, none⟩ = false := (ho.there k (by omega) 7 (by omega)).2
          have fr10 : wr.frozen? ⟨gd, (k + 1) * 8, none⟩ = false := (ho.there (k + 1) (by omega) 0 (by omega)).2
          have fr11 : wr.frozen? ⟨gd, (k + 1) * 8 + 1, none⟩ = false := (ho.there (k + 1) (by omega) 1 (by omega)).2
          have fr12 : wr.frozen? ⟨gd, (k + 1) * 8 + 2, none⟩ = false := (ho.there (k + 1) (by omega) 2 (by omega)).2
          have fr13 : wr.frozen? ⟨gd, (k + 1) * 8 + 3, none⟩ = false := (ho.there (k + 1) (by omega) 3 (by omega)).2
          have fr14 : wr.frozen? ⟨gd, (k + 1) * 8 + 4, none⟩ = false := (ho.there (k + 1) (by omega) 4 (by omega)).2
          have fr15 : wr.frozen? ⟨gd, (k + 1) * 8 + 5, none⟩ = false := (ho.there (k + 1) (by omega) 5 (by omega)).2
          have fr16 : wr.frozen? ⟨gd, (k + 1) * 8 + 6, none⟩ = false := (ho.there (k + 1) (by omega) 6 (by omega)).2
          have fr17 : wr.frozen? ⟨gd, (k + 1) * 8 + 7, none⟩ = false := (ho.there (k + 1) (by omega) 7 (by omega)).2
          have hsw := ho.swap (k) (k + 1) (by omega) (by omega)
          rw [setC8, setC8] at hsw
          have HSW := Lib.hid hsw.drew
          clear hsw
          have HSM := Lib.hid (hmv.trans (swp_mov S1 a b k (k + 1) (by have := ho.1; omega) (by have := ho.1; omega) (by omega) (by omega)))
          have hsa := fun p => swp_at S1 k (k + 1) p (by have := ho.1; omega) (by have := ho.1; omega)
          have HAT : Hid (∀ p, at0 (swp S1 k (k + 1)) p = if a ≤ p ∧ p < k + 1 then at0 S (p + 1) else if p = k + 1 then at0 S a else at0 S p) := fun p => by
            rw [hsa p]
            by_cases h1 : p = k + 1
            · rw [if_pos h1, if_neg (by omega), if_pos h1, hat, if_neg (by omega), if_pos rfl]
            · rw [if_neg h1]
              by_cases h2 : p = k
              · subst h2
                rw [if_pos rfl, if_pos (by omega), hat, if_neg (by omega), if_neg (by omega)]
              · rw [if_neg h2, hat, if_neg h1]
                by_cases h3 : a ≤ p ∧ p < k
                · rw [if_pos h3, if_pos (by omega)]
                · rw [if_neg h3, if_neg h2, if_neg (by omega)]
          have HG3 := Lib.hid hg
          clear ho hmv hat hg hsa
          have x1 : (k : Int) < ((i - 1 : Nat) : Int) := by omega
          have x2 : IntKind.i64.wrap ((k : Int) + 1) = ((k + 1 : Nat) : Int) := by rw [IntKind.wrap_i64]; omega
          have x3 : (k : Int) + 1 < m := by omega
          have x4 : (0 : Int) ≤ (k : Int) + 1 := by omega
          have HGQ : Hid (w.grownBy ((((((((((((((((wr.setCell ⟨gd, k * 8, none⟩ (.string (T (at0 S1 (k + 1))).s)).setCell ⟨gd, k * 8 + 1, none⟩ (.int .i64 (T (at0 S1 (k + 1))).k)).setCell ⟨gd, k * 8 + 2, none⟩ (.int .u32 (T (at0 S1 (k + 1))).m)).setCell ⟨gd, k * 8 + 3, none⟩ (.int .u32 (T (at0 S1 (k + 1))).u)).setCell ⟨gd, k * 8 + 4, none⟩ (.int .u32 (T (at0 S1 (k + 1))).g)).setCell ⟨gd, k * 8 + 5, none⟩ (.int .i64 (T (at0 S1 (k + 1))).t)).setCell ⟨gd, k * 8 + 6, none⟩ (.int .i64 (T (at0 S1 (k + 1))).a)).setCell ⟨gd, k * 8 + 7, none⟩ (.string (T (at0 S1 (k + 1))).d)).setCell ⟨gd, (k + 1) * 8, none⟩ (.string (T (at0 S1 (k))).s)).setCell ⟨gd, (k + 1) * 8 + 1, none⟩ (.int .i64 (T (at0 S1 (k))).k)).setCell ⟨gd, (k + 1) * 8 + 2, none⟩ (.int .u32 (T (at0 S1 (k))).m)).setCell ⟨gd, (k + 1) * 8 + 3, none⟩ (.int .u32 (T (at0 S1 (k))).u)).setCell ⟨gd, (k + 1) * 8 + 4, none⟩ (.int .u32 (T (at0 S1 (k))).g)).setCell ⟨gd, (k + 1) * 8 + 5, none⟩ (.int .i64 (T (at0 S1 (k))).t)).setCell ⟨gd, (k + 1) * 8 + 6, none⟩ (.int .i64 (T (at0 S1 (k))).a)).setCell ⟨gd, (k + 1) * 8 + 7, none⟩ (.string (T (at0 S1 (k))).d)).drew (some gd)) := by
            have h := gsetC (T (at0 S1 (k))).cellsL ((k + 1) * 8) _ (gsetC (T (at0 S1 (k + 1))).cellsL (k * 8) _ HG3.out)
            rw [setC8, setC8] at h
            exact gdrew1 h
          generalize at0 S1 k = xv at *
          generalize at0 S1 (k + 1) = yv at *
          obtain ⟨k00, k01, k02, k03, k04, k05, k06, k07⟩ := hc1
          obtain ⟨k10, k11, k12, k13, k14, k15, k16, k17⟩ := hc2
          go_wp2_with fail
          go_region
          generalize ((((((((((((((((wr.setCell ⟨gd, k * 8, none⟩ (.string (T yv).s)).setCell ⟨gd, k * 8 + 1, none⟩ (.int .i64 (T yv).k)).setCell ⟨gd, k * 8 + 2, none⟩ (.int .u32 (T yv).m)).setCell ⟨gd, k * 8 + 3, none⟩ (.int .u32 (T yv).u)).setCell ⟨gd, k * 8 + 4, none⟩ (.int .u32 (T yv).g)).setCell ⟨gd, k * 8 + 5, none⟩ (.int .i64 (T yv).t)).setCell ⟨gd, k * 8 + 6, none⟩ (.int .i64 (T yv).a)).setCell ⟨gd, k * 8 + 7, none⟩ (.string (T yv).d)).setCell ⟨gd, (k + 1) * 8, none⟩ (.string (T xv).s)).setCell ⟨gd, (k + 1) * 8 + 1, none⟩ (.int .i64 (T xv).k)).setCell ⟨gd, (k + 1) * 8 + 2, none⟩ (.int .u32 (T xv).m)).setCell ⟨gd, (k + 1) * 8 + 3, none⟩ (.int .u32 (T xv).u)).setCell ⟨gd, (k + 1) * 8 + 4, none⟩ (.int .u32 (T xv).g)).setCell ⟨gd, (k + 1) * 8 + 5, none⟩ (.int .i64 (T xv).t)).setCell ⟨gd, (k + 1) * 8 + 6, none⟩ (.int .i64 (T xv).a)).setCell ⟨gd, (k + 1) * 8 + 7, none⟩ (.string (T xv).d)).drew = w7 at *
          clear k00 fr00 k01 fr01 k02 fr02 k03 fr03 k04 fr04 k05 fr05 k06 fr06 k07 fr07 k10 fr10 k11 fr11 k12 fr12 k13 fr13 k14 fr14 k15 fr15 k16 fr16 k17 fr17
          go_wp2_with fail
          go_roundw
          case rel => exact ⟨k + 1, _, by omega, by omega, by go_num, HSW.out, HSM.out, HAT.out, HGQ.out⟩
          case measure => simp [intOf]; omega
        · obtain rfl : k = i - 1 := by omega
          have x1 : ¬ ((i - 1 : Nat) : Int) < ((i - 1 : Nat) : Int) := by omega
          have HF : Hid (SrtOn f a b S1) := by
            intro p q h1 h2 h3
            rw [hat p, hat q]
            by_cases e1 : q < i - 1
            · rw [if_pos (by omega), if_pos (by omega)]
              exact HS.out _ _ (by omega) (by omega) (by omega)
            · rw [if_neg (show ¬ (a ≤ q ∧ q < i - 1) by omega)]
              by_cases e2 : q = i - 1
              · rw [if_pos e2]
                by_cases e3 : p < i - 1
                · rw [if_pos (by omega)]; exact Nat.le_of_lt (HLO.out _ (by omega) (by omega))
                · rw [if_neg (by omega), if_pos (by omega)]; exact Nat.le_refl _
              · rw [if_neg e2]
                by_cases e3 : p < i - 1
                · rw [if_pos (by omega)]; exact HS.out _ _ (by omega) (by omega) (by omega)
                · rw [if_neg (by omega)]
                  by_cases e4 : p = i - 1
                  · rw [if_pos e4]; exact HHI.out _ (by omega) (by omega)
                  · rw [if_neg e4]; exact HS.out _ _ (by omega) (by omega) (by omega)
          have HO3 := Lib.hid ho
          have HM3 := Lib.hid hmv
          have HG3 := Lib.hid hg
          clear ho hmv hg hat
          go_wp2_with fail
          refine bodyPost_ret (results_none rfl _ _ _) rfl ?_
          exact ⟨rfl, S1, HO3.out, HM3.out, HF.out, HG3.out⟩
end Go.Proofs.YtmeapijckncoeaaGreatDoor.Is
