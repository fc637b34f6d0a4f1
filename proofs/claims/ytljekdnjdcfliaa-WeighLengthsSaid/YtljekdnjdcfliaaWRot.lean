/-
  The library's swapRange and rotate, over signs.
-/
import Derived.Test.YtljekdnjdcfliaaWeT
import Derived.BigRegion
namespace Go.Proofs.Ytljekdnjdcfliaa
open Go.RowKit

/-- Where what stands at k comes from: two ranges exchanged. -/
def swI (x y n k : Nat) : Nat := if x ≤ k ∧ k < x + n then y + (k - x) else if y ≤ k ∧ k < y + n then x + (k - y) else k
/-- .. two neighbours exchanged: [x, y) and [y, z). -/
def rotI (x y z k : Nat) : Nat := if x ≤ k ∧ k < x + (z - y) then y + (k - x) else if x + (z - y) ≤ k ∧ k < z then k - (z - y) else k
theorem swI_zero (x y k : Nat) : swI x y 0 k = k := by unfold swI; (repeat' split) <;> omega
theorem swI_step (x y n i k : Nat) (hi : i < n) (hxy : x + n ≤ y) : (if k = y + i then swI x y i (x + i) else if k = x + i then swI x y i (y + i) else swI x y i k) = swI x y (i + 1) k := by
  unfold swI
  (repeat' split) <;> omega
/-- The first range the longer one. -/
theorem rot_a (c i j k : Nat) (hic : i ≤ c) (hj : 1 ≤ j) (h : j < i) : swI (c - i) c j (rotI (c - (i - j)) c (c + j) k) = rotI (c - i) c (c + j) k := by
  unfold swI rotI
  (repeat' split) <;> omega
/-- The second one. -/
theorem rot_b (c i j k : Nat) (hic : i ≤ c) (hi : 1 ≤ i) (h : i < j) : swI (c - i) (c + j - i) i (rotI (c - i) c (c + (j - i)) k) = rotI (c - i) c (c + j) k := by
  unfold swI rotI
  (repeat' split) <;> omega
theorem rot_c (c i k : Nat) (hic : i ≤ c) : swI (c - i) c i k = rotI (c - i) c (c + i) k := by
  unfold swI rotI
  (repeat' split) <;> omega

set_option maxRecDepth 100000 in
set_option maxHeartbeats 8000000 in
theorem swapRange_any (base gd m cap x y n : Nat) (cv : Value) (S : List Nat) (w : World) (hO : SnO w base gd m cap S) (hxy : x + n ≤ y) (hy : y + n ≤ m) (hm : m ≤ 1000) (hcv : ∃ fn a b, cv = .func fn a b) :
    Calls Try.prog 78 #[.slice (some ⟨gd, 0, none⟩) m cap, .int .i64 x, .int .i64 y, .int .i64 n, cv] w
      fun e w' => e = .returned (.tuple #[]) ∧ ∃ S', SnO w' base gd m cap S' ∧ Mov x (y + n) S S' ∧ (∀ k, at0 S' k = at0 S (swI x y n k)) ∧ w.grownBy w' (some gd) := by
  obtain ⟨fn, a, b, rfl⟩ := hcv
  have HO := Lib.hid hO
  clear hO
  go_enter Try.func78, Try.ntmps78
  go_wp2
  go_loopw [10] (fun v wr => ∃ i S1, i ≤ n ∧ v = .int .i64 (i : Nat) ∧ SnO wr base gd m cap S1 ∧ Mov x (y + n) S S1 ∧ (∀ k, at0 S1 k = at0 S (swI x y i k)) ∧ w.grownBy wr (some gd)) (fun v _ => n - (intOf v).toNat)
  case atStart => exact ⟨0, S, Nat.zero_le _, rfl, HO.out, Mov.refl _ _ _, fun k => by rw [swI_zero], World.grownBy.refl _ _⟩
  case round =>
    obtain ⟨i, S1, hi, rfl, ho, hmv, hat, hg⟩ := hrel
    by_cases hlt : i < n
    · have c1 := ho.cell (x + i) (by omega)
      have c2 := ho.cell (y + i) (by omega)
      have f1 := ho.frozen (x + i)
      have f2 := ho.frozen (y + i)
      have HSW := Lib.hid (fun d => (ho.drewN d).swap (x + i) (y + i))
      have HSM := Lib.hid (hmv.trans (swp_mov S1 x (y + n) (x + i) (y + i) (by have := ho.1; omega) (by have := ho.1; omega) (by omega) (by omega)))
      have hsa := fun k => swp_at S1 (x + i) (y + i) k (by have := ho.1; omega) (by have := ho.1; omega)
      have HAT : Hid (∀ k, at0 (swp S1 (x + i) (y + i)) k = at0 S (swI x y (i + 1) k)) := fun k => by
        rw [hsa k, ← swI_step x y n i k hlt hxy]
        by_cases h1 : k = y + i
        · rw [if_pos h1, if_pos h1, hat]
        · rw [if_neg h1, if_neg h1]
          by_cases h2 : k = x + i
          · rw [if_pos h2, if_pos h2, hat]
          · rw [if_neg h2, if_neg h2, hat]
      have HG := Lib.hid hg
      clear ho hmv hat hg hsa
      have w1 : IntKind.i64.wrap ((x : Int) + (i : Int)) = ((x + i : Nat) : Int) := by rw [IntKind.wrap_i64]; omega
      have w2 : IntKind.i64.wrap ((y : Int) + (i : Int)) = ((y + i : Nat) : Int) := by rw [IntKind.wrap_i64]; omega
      generalize at0 S1 (x + i) = xv at *
      generalize at0 S1 (y + i) = yv at *
      go_wp2
      have HGQ := Lib.hid (gdrew1 HG.out)
      have HSW2 := Lib.hid (show SnO (((wr.drew).setCell ⟨gd, x + i, none⟩ (.int .i64 (yv : Nat))).setCell ⟨gd, y + i, none⟩ (.int .i64 (xv : Nat))) base gd m cap (swp S1 (x + i) (y + i)) from HSW.out 1)
      have b1 : (x : Int) + (i : Int) < m := by omega
      have b2 : (y : Int) + (i : Int) < m := by omega
      have b3 : (0 : Int) ≤ (x : Int) + (i : Int) := by omega
      have b4 : (0 : Int) ≤ (y : Int) + (i : Int) := by omega
      have t1 : ((x : Int) + (i : Int)).toNat = x + i := by omega
      have t2 : ((y : Int) + (i : Int)).toNat = y + i := by omega
      go_region
      all_goals go_wp2
      go_roundw
      case rel => exact ⟨i + 1, _, by omega, by go_num, HSW2.out, HSM.out, HAT.out, gset2 (gset2 HGQ.out _ _) _ _⟩
      case measure => simp [intOf]; omega
    · obtain rfl : i = n := by omega
      go_wp2
      go_end0
      exact ⟨rfl, S1, ho, hmv, hat, hg⟩

set_option maxRecDepth 100000 in
set_option maxHeartbeats 8000000 in
theorem rotate_any (base gd m cap a c b : Nat) (cv : Value) (S : List Nat) (w : World) (hO : SnO w base gd m cap S) (hac : a < c) (hcb : c < b) (hb : b ≤ m) (hm : m ≤ 1000) (hcv : ∃ fn a b, cv = .func fn a b) :
    Calls Try.prog 77 #[.slice (some ⟨gd, 0, none⟩) m cap, .int .i64 a, .int .i64 c, .int .i64 b, cv] w
      fun e w' => e = .returned (.tuple #[]) ∧ ∃ S', SnO w' base gd m cap S' ∧ Mov a b S S' ∧ (∀ k, at0 S' k = at0 S (rotI a c b k)) ∧ w.grownBy w' (some gd) := by
  have HSR := Lib.hid (fun x y n S1 w1 (ho : SnO w1 base gd m cap S1) (h1 : x + n ≤ y) (h2 : y + n ≤ m) => swapRange_any base gd m cap x y n cv S1 w1 ho h1 h2 hm hcv)
  obtain ⟨fn, q1, q2, rfl⟩ := hcv
  have HO := Lib.hid hO
  clear hO
  have w1 : IntKind.i64.wrap ((c : Int) - (a : Int)) = ((c - a : Nat) : Int) := by rw [IntKind.wrap_i64]; omega
  have w2 : IntKind.i64.wrap ((b : Int) - (c : Int)) = ((b - c : Nat) : Int) := by rw [IntKind.wrap_i64]; omega
  go_enter Try.func77, Try.ntmps77
  go_wp2_with fail
  go_loopw [10, 11] (fun vi vj wr => ∃ i j S1, 1 ≤ i ∧ 1 ≤ j ∧ i ≤ c - a ∧ j ≤ b - c ∧ vi = .int .i64 (i : Nat) ∧ vj = .int .i64 (j : Nat) ∧ SnO wr base gd m cap S1 ∧ Mov a b S S1 ∧ (∀ k, at0 S1 (rotI (c - i) c (c + j) k) = at0 S (rotI a c b k)) ∧ w.grownBy wr (some gd)) (fun vi vj _ => (intOf vi).toNat + (intOf vj).toNat)
  case atStart => exact ⟨c - a, b - c, S, by omega, by omega, Nat.le_refl _, Nat.le_refl _, rfl, rfl, HO.out, Mov.refl _ _ _, fun k => by rw [show c - (c - a) = a by omega, show c + (b - c) = b by omega], World.grownBy.refl _ _⟩
  case round =>
    obtain ⟨i, j, S1, hi1, hj1, hi, hj, rfl, rfl, ho, hmv, hat, hg⟩ := hrel
    have HO1 := Lib.hid ho
    have HM := Lib.hid hmv
    have HAT := Lib.hid hat
    have HG := Lib.hid hg
    clear ho hmv hat hg
    have v1 : IntKind.i64.wrap ((c : Int) - (i : Int)) = ((c - i : Nat) : Int) := by rw [IntKind.wrap_i64]; omega
    rcases Nat.lt_trichotomy i j with hij | hij | hij
    · have hne : ¬ (i : Int) = (j : Int) := by omega
      have hlt : ¬ (j : Int) < (i : Int) := by omega
      have hltN : ¬ j < i := by omega
      have v2 : IntKind.i64.wrap ((c : Int) + (j : Int)) = ((c + j : Nat) : Int) := by rw [IntKind.wrap_i64]; omega
      have v3 : IntKind.i64.wrap (((c + j : Nat) : Int) - (i : Int)) = ((c + j - i : Nat) : Int) := by rw [IntKind.wrap_i64]; omega
      have v3' : IntKind.i64.wrap ((c : Int) + (j : Int) - (i : Int)) = ((c + j - i : Nat) : Int) := by rw [IntKind.wrap_i64]; omega
      have v4 : IntKind.i64.wrap ((j : Int) - (i : Int)) = ((j - i : Nat) : Int) := by rw [IntKind.wrap_i64]; omega
      have HC := Lib.hid (HSR.out (c - i) (c + j - i) i S1 wr HO1.out (by omega) (by omega))
      go_wp2_with fail
      refine (HC.out).mono ?_
      rintro e w3 ⟨rfl, S2, ho2, hm2, hat2, hg2⟩
      go_wp2_with fail
      go_roundw
      case rel => exact ⟨i, j - i, S2, hi1, by omega, hi, by omega, rfl, rfl, ho2, HM.out.trans (hm2.wide (by omega) (by omega)), fun k => by rw [hat2, rot_b c i j k (by omega) hi1 hij, HAT.out], gtrans HG.out hg2⟩
      case measure => simp [intOf]; omega
    · subst hij
      have HC := Lib.hid (HSR.out (c - i) c i S1 wr HO1.out (by omega) (by omega))
      go_wp2_with fail
      refine (HC.out).mono ?_
      rintro e w3 ⟨rfl, S2, ho2, hm2, hat2, hg2⟩
      go_wp2_with fail
      go_end0
      exact ⟨rfl, S2, ho2, HM.out.trans (hm2.wide (by omega) (by omega)), fun k => by rw [hat2, rot_c c i k (by omega), HAT.out], gtrans HG.out hg2⟩
    · have hne : ¬ (i : Int) = (j : Int) := by omega
      have hlt : (j : Int) < (i : Int) := by omega
      have v4 : IntKind.i64.wrap ((i : Int) - (j : Int)) = ((i - j : Nat) : Int) := by rw [IntKind.wrap_i64]; omega
      have HC := Lib.hid (HSR.out (c - i) c j S1 wr HO1.out (by omega) (by omega))
      go_wp2_with fail
      refine (HC.out).mono ?_
      rintro e w3 ⟨rfl, S2, ho2, hm2, hat2, hg2⟩
      go_wp2_with fail
      go_roundw
      case rel => exact ⟨i - j, j, S2, by omega, hj1, by omega, hj, rfl, rfl, ho2, HM.out.trans (hm2.wide (by omega) (by omega)), fun k => by rw [hat2, rot_a c i j k (by omega) hj1 hij, HAT.out], gtrans HG.out hg2⟩
      case measure => simp [intOf]; omega
end Go.Proofs.Ytljekdnjdcfliaa
