/-
  Places sorted by byPath's closure: symMerge with one on a side.
-/
import Derived.Test.YtijfcmlgohbndaaGreatDoorPkCB
namespace Go.Proofs.YtijfcmlgohbndaaGreatDoor.Bp
set_option maxRecDepth 100000
set_option linter.unusedSimpArgs false
set_option linter.unusedVariables false
open Go.RowKit
/-- Where what stands at k comes from: two ranges exchanged. -/
def swI (x y n k : Nat) : Nat := if x ≤ k ∧ k < x + n then y + (k - x) else if y ≤ k ∧ k < y + n then x + (k - y) else k
/-- .. two neighbours exchanged: [x, y) and [y, z). -/
def rotI (x y z k : Nat) : Nat := if x ≤ k ∧ k < x + (z - y) then y + (k - x) else if x + (z - y) ≤ k ∧ k < z then k - (z - y) else k
theorem swI_zero (x y k : Nat) : swI x y 0 k = k := by unfold swI; (repeat' split) <;> omega
theorem swI_step (x y n i k : Nat) (hi : i < n) (hxy : x + n ≤ y) : (if k = y + i then swI x y i (x + i) else if k = x + i then swI x y i (y + i) else swI x y i k) = swI x y (i + 1) k := by
  unfold swI
  (repeat' split) <;> omega
/-- The first range the longer one. -/
theorem rot_a (c i j k : Nat) (hic : i ≤ c) (hj : 1 ≤ j) (h : j < i) : swI (c - i) c j (rotI (c - (i - j)) c (c + j) k) = rotI (c - i) c (c + j) k := by
  unfold swI rotI
  (repeat' split) <;> omega
/-- The second one. -/
theorem rot_b (c i j k : Nat) (hic : i ≤ c) (hi : 1 ≤ i) (h : i < j) : swI (c - i) (c + j - i) i (rotI (c - i) c (c + (j - i)) k) = rotI (c - i) c (c + j) k := by
  unfold swI rotI
  (repeat' split) <;> omega
theorem rot_c (c i k : Nat) (hic : i ≤ c) : swI (c - i) c i k = rotI (c - i) c (c + i) k := by
  unfold swI rotI
  (repeat' split) <;> omega

set_option maxRecDepth 100000 in
set_option maxHeartbeats 8000000 in
theorem swapRange_anyB (base gd m cap x y n : Nat) (cv : Value) (S : List Nat) (w : World) (hO : SnO w base gd m cap S) (hxy : x + n ≤ y) (hy : y + n ≤ m) (hm : m ≤ 1000) (hcv : ∃ fn a b, cv = .func fn a b) :
    Calls Tryz.prog 130 #[.slice (some ⟨gd, 0, none⟩) m cap, .int .i64 x, .int .i64 y, .int .i64 n, cv] w
      fun e w' => e = .returned (.tuple #[]) ∧ ∃ S', SnO w' base gd m cap S' ∧ Mov x (y + n) S S' ∧ (∀ k, at0 S' k = at0 S (swI x y n k)) ∧ w.grownBy w' (some gd) := by
  obtain ⟨fn, a, b, rfl⟩ := hcv
  have HO := Lib.hid hO
  clear hO
  go_enter Tryz.func130, Tryz.ntmps130
  go_wp2
  go_loopw [10] (fun v wr => ∃ i S1, i ≤ n ∧ v = .int .i64 (i : Nat) ∧ SnO wr base gd m cap S1 ∧ Mov x (y + n) S S1 ∧ (∀ k, at0 S1 k = at0 S (swI x y i k)) ∧ w.grownBy wr (some gd)) (fun v _ => n - (intOf v).toNat)
  case atStart => exact ⟨0, S, Nat.zero_le _, rfl, HO.out, Mov.refl _ _ _, fun k => by rw [swI_zero], World.grownBy.refl _ _⟩
  case round =>
    obtain ⟨i, S1, hi, rfl, ho, hmv, hat, hg⟩ := hrel
    by_cases hlt : i < n
    · have c1 := ho.cell (x + i) (by omega)
      have c2 := ho.cell (y + i) (by omega)
      have f1 := ho.frozen (x + i)
      have f2 := ho.frozen (y + i)
      have HSW := Lib.hid (fun d => (ho.drewN d).swap (x + i) (y + i))
      have HSM := Lib.hid (hmv.trans (swp_mov S1 x (y + n) (x + i) (y + i) (by have := ho.1; omega) (by have := ho.1; omega) (by omega) (by omega)))
      have hsa := fun k => swp_at S1 (x + i) (y + i) k (by have := ho.1; omega) (by have := ho.1; omega)
      have HAT : Hid (∀ k, at0 (swp S1 (x + i) (y + i)) k = at0 S (swI x y (i + 1) k)) := fun k => by
        rw [hsa k, ← swI_step x y n i k hlt hxy]
        by_cases h1 : k = y + i
        · rw [if_pos h1, if_pos h1, hat]
        · rw [if_neg h1, if_neg h1]
          by_cases h2 : k = x + i
          · rw [if_pos h2, if_pos h2, hat]
          · rw [if_neg h2, if_neg h2, hat]
      have HG := Lib.hid hg
      clear ho hmv hat hg hsa
      have w1 : IntKind.i64.wrap ((x : Int) + (i : Int)) = ((x + i : Nat) : Int) := by rw [IntKind.wrap_i64]; omega
      have w2 : IntKind.i64.wrap ((y : Int) + (i : Int)) = ((y + i : Nat) : Int) := by rw [IntKind.wrap_i64]; omega
      generalize at0 S1 (x + i) = xv at *
      generalize at0 S1 (y + i) = yv at *
      go_wp2
      have HGQ := Lib.hid (gdrew1 HG.out)
      have HSW2 := Lib.hid (show SnO (((wr.drew).setCell ⟨gd, x + i, none⟩ (.int .i64 (yv : Nat))).setCell ⟨gd, y + i, none⟩ (.int .i64 (xv : Nat))) base gd m cap (swp S1 (x + i) (y + i)) from HSW.out 1)
      have b1 : (x : Int) + (i : Int) < m := by omega
      have b2 : (y : Int) + (i : Int) < m := by omega
      have b3 : (0 : Int) ≤ (x : Int) + (i : Int) := by omega
      have b4 : (0 : Int) ≤ (y : Int) + (i : Int) := by omega
      have t1 : ((x : Int) + (i : Int)).toNat = x + i := by omega
      have t2 : ((y : Int) + (i : Int)).toNat = y + i := by omega
      go_region
      all_goals go_wp2
      go_roundw
      case rel => exact ⟨i + 1, _, by omega, by go_num, HSW2.out, HSM.out, HAT.out, gset2 (gset2 HGQ.out _ _) _ _⟩
      case measure => simp [intOf]; omega
    · obtain rfl : i = n := by omega
      go_wp2
      go_end0
      exact ⟨rfl, S1, ho, hmv, hat, hg⟩

set_option maxRecDepth 100000 in
set_option maxHeartbeats 8000000 in
theorem rotate_anyB (base gd m cap a c b : Nat) (cv : Value) (S : List Nat) (w : World) (hO : SnO w base gd m cap S) (hac : a < c) (hcb : c < b) (hb : b ≤ m) (hm : m ≤ 1000) (hcv : ∃ fn a b, cv = .func fn a b) :
    Calls Tryz.prog 117 #[.slice (some ⟨gd, 0, none⟩) m cap, .int .i64 a, .int .i64 c, .int .i64 b, cv] w
      fun e w' => e = .returned (.tuple #[]) ∧ ∃ S', SnO w' base gd m cap S' ∧ Mov a b S S' ∧ (∀ k, at0 S' k = at0 S (rotI a c b k)) ∧ w.grownBy w' (some gd) := by
  have HSR := Lib.hid (fun x y n S1 w1 (ho : SnO w1 base gd m cap S1) (h1 : x + n ≤ y) (h2 : y + n ≤ m) => swapRange_anyB base gd m cap x y n cv S1 w1 ho h1 h2 hm hcv)
  obtain ⟨fn, q1, q2, rfl⟩ := hcv
  have HO := Lib.hid hO
  clear hO
  have w1 : IntKind.i64.wrap ((c : Int) - (a : Int)) = ((c - a : Nat) : Int) := by rw [IntKind.wrap_i64]; omega
  have w2 : IntKind.i64.wrap ((b : Int) - (c : Int)) = ((b - c : Nat) : Int) := by rw [IntKind.wrap_i64]; omega
  go_enter Tryz.func117, Tryz.ntmps117
  go_wp2_with fail
  go_loopw [10, 11] (fun vi vj wr => ∃ i j S1, 1 ≤ i ∧ 1 ≤ j ∧ i ≤ c - a ∧ j ≤ b - c ∧ vi = .int .i64 (i : Nat) ∧ vj = .int .i64 (j : Nat) ∧ SnO wr base gd m cap S1 ∧ Mov a b S S1 ∧ (∀ k, at0 S1 (rotI (c - i) c (c + j) k) = at0 S (rotI a c b k)) ∧ w.grownBy wr (some gd)) (fun vi vj _ => (intOf vi).toNat + (intOf vj).toNat)
  case atStart => exact ⟨c - a, b - c, S, by omega, by omega, Nat.le_refl _, Nat.le_refl _, rfl, rfl, HO.out, Mov.refl _ _ _, fun k => by rw [show c - (c - a) = a by omega, show c + (b - c) = b by omega], World.grownBy.refl _ _⟩
  case round =>
    obtain ⟨i, j, S1, hi1, hj1, hi, hj, rfl, rfl, ho, hmv, hat, hg⟩ := hrel
    have HO1 := Lib.hid ho
    have HM := Lib.hid hmv
    have HAT := Lib.hid hat
    have HG := Lib.hid hg
    clear ho hmv hat hg
    have v1 : IntKind.i64.wrap ((c : Int) - (i : Int)) = ((c - i : Nat) : Int) := by rw [IntKind.wrap_i64]; omega
    rcases Nat.lt_trichotomy i j with hij | hij | hij
    · have hne : ¬ (i : Int) = (j : Int) := by omega
      have hlt : ¬ (j : Int) < (i : Int) := by omega
      have hltN : ¬ j < i := by omega
      have v2 : IntKind.i64.wrap ((c : Int) + (j : Int)) = ((c + j : Nat) : Int) := by rw [IntKind.wrap_i64]; omega
      have v3 : IntKind.i64.wrap (((c + j : Nat) : Int) - (i : Int)) = ((c + j - i : Nat) : Int) := by rw [IntKind.wrap_i64]; omega
      have v3' : IntKind.i64.wrap ((c : Int) + (j : Int) - (i : Int)) = ((c + j - i : Nat) : Int) := by rw [IntKind.wrap_i64]; omega
      have v4 : IntKind.i64.wrap ((j : Int) - (i : Int)) = ((j - i : Nat) : Int) := by rw [IntKind.wrap_i64]; omega
      have HC := Lib.hid (HSR.out (c - i) (c + j - i) i S1 wr HO1.out (by omega) (by omega))
      go_wp2_with fail
      refine (HC.out).mono ?_
      rintro e w3 ⟨rfl, S2, ho2, hm2, hat2, hg2⟩
      go_wp2_with fail
      go_roundw
      case rel => exact ⟨i, j - i, S2, hi1, by omega, hi, by omega, rfl, rfl, ho2, HM.out.trans (hm2.wide (by omega) (by omega)), fun k => by rw [hat2, rot_b c i j k (by omega) hi1 hij, HAT.out], gtrans HG.out hg2⟩
      case measure => simp [intOf]; omega
    · subst hij
      have HC := Lib.hid (HSR.out (c - i) c i S1 wr HO1.out (by omega) (by omega))
      go_wp2_with fail
      refine (HC.out).mono ?_
      rintro e w3 ⟨rfl, S2, ho2, hm2, hat2, hg2⟩
      go_wp2_with fail
      go_end0
      exact ⟨rfl, S2, ho2, HM.out.trans (hm2.wide (by omega) (by omega)), fun k => by rw [hat2, rot_c c i k (by omega), HAT.out], gtrans HG.out hg2⟩
    · have hne : ¬ (i : Int) = (j : Int) := by omega
      have hlt : (j : Int) < (i : Int) := by omega
      have v4 : IntKind.i64.wrap ((i : Int) - (j : Int)) = ((i - j : Nat) : Int) := by rw [IntKind.wrap_i64]; omega
      have HC := Lib.hid (HSR.out (c - i) c j S1 wr HO1.out (by omega) (by omega))
      go_wp2_with fail
      refine (HC.out).mono ?_
      rintro e w3 ⟨rfl, S2, ho2, hm2, hat2, hg2⟩
      go_wp2_with fail
      go_roundw
      case rel => exact ⟨i - j, j, S2, by omega, hj1, by omega, hj, rfl, rfl, ho2, HM.out.trans (hm2.wide (by omega) (by omega)), fun k => by rw [hat2, rot_a c i j k (by omega) hj1 hij, HAT.out], gtrans HG.out hg2⟩
      case measure => simp [intOf]; omega

theorem half_lt {i j : Nat} (h : i < j) : i ≤ (i + j) / 2 ∧ (i + j) / 2 < j := by omega

set_option maxRecDepth 100000 in
set_option maxHeartbeats 8000000 in
theorem sym_oneB (base gd m cap a c b pc n : Nat) (f : Nat → Nat) (S : List Nat) (w : World) (hO : SnO w base gd m cap S) (hx : ∀ x ∈ S, x < n) (hC : CmpOkB w gd pc n f) (hac : c = a + 1) (hcb : c < b) (hb : b ≤ m) (hm : m ≤ 1000) (hs : SrtOn f c b S) (hord : Ord a c b S) :
    Calls Tryz.prog 100 #[.slice (some ⟨gd, 0, none⟩) m cap, .int .i64 (a : Nat), .int .i64 (c : Nat), .int .i64 (b : Nat), .func (.func 45) #[] #[.pointer (some ⟨pc, 0, none⟩)]] w
      fun e w' => e = .returned (.tuple #[]) ∧ ∃ S', SnO w' base gd m cap S' ∧ Mov a b S S' ∧ SrtOn f a b S' ∧ w.grownBy w' (some gd) := by
  have HX : Hid (∀ k, k < m → at0 S k < n) := fun k hk => by
    have hl : S.length = m := hO.1
    refine hx _ ?_
    rw [at0, List.getElem?_eq_getElem (by omega)]
    exact List.getElem_mem _
  obtain ⟨cm, hcm, hC⟩ := hC
  have HCI := Lib.hid hcm
  have HORD := Lib.hid hord
  clear hcm hord
  have HC := Lib.hid hC
  have HO := Lib.hid hO
  have HS := Lib.hid hs
  have HAC := Lib.hid hac
  have hbnd : a < c := by omega
  have hca : c ≤ a + 1 := by omega
  clear hC hx hO hs
  have v0 : IntKind.i64.wrap ((c : Int) - (a : Int)) = 1 := by rw [IntKind.wrap_i64]; omega
  clear hac
  go_enter Tryz.func100, Tryz.ntmps100
  go_wp2_with fail
  go_loopw [10, 11] (fun vi vj wr => ∃ i j d, c ≤ i ∧ i ≤ j ∧ j ≤ b ∧ vi = .int .i64 (i : Nat) ∧ vj = .int .i64 (j : Nat) ∧ wr = w.drewN d ∧ (∀ q, c ≤ q → q < i → f (at0 S q) < f (at0 S a)) ∧ (∀ q, j ≤ q → q < b → f (at0 S a) ≤ f (at0 S q))) (fun vi vj _ => (intOf vj - intOf vi).toNat)
  case atStart => exact ⟨c, b, 0, Nat.le_refl _, by omega, Nat.le_refl _, rfl, rfl, rfl, fun q h1 h2 => by omega, fun q h1 h2 => by omega⟩
  case round =>
    obtain ⟨i, j, d, hci, hij, hjb, rfl, rfl, rfl, hlo, hhi⟩ := hrel
    have HLO := Lib.hid hlo
    have HHI := Lib.hid hhi
    clear hlo hhi
    by_cases hlt : i < j
    · obtain ⟨h, hh⟩ : ∃ h, h = (i + j) / 2 := ⟨_, rfl⟩
      have hih : i ≤ h := by omega
      have hhj : h < j := by omega
      have HO2 := Lib.hid (HO.out.drewN d)
      have HG2 := Lib.hid (gdrewN w d (some gd))
      obtain ⟨w2, hw2⟩ : ∃ w2, w2 = w.drewN d := ⟨_, rfl⟩
      rw [← hw2] at HO2 HG2 ⊢
      have HW2 := Lib.hid hw2
      clear hw2
      have c1 := HO2.out.cell h (by omega)
      have c2 := HO2.out.cell a (by omega)
      have hq1 := HX.out h (by omega)
      have hq2 := HX.out a (by omega)
      have HCM := Lib.hid (fun d2 => HC.out (w2.drewN d2) (gdrew HG2.out d2) _ _ hq1 hq2)
      have HCC := Lib.hid (HCI.out _ _ hq1 hq2 (HORD.out a h (Nat.le_refl _) (by omega) (by omega) (by omega)))
      have HUP : Hid (f (at0 S h) < f (at0 S a) → ∀ q, c ≤ q → q < h + 1 → f (at0 S q) < f (at0 S a)) := fun hlt2 q h1 h2 => Nat.lt_of_le_of_lt (HS.out q h h1 (by omega) (by omega)) hlt2
      have HDN : Hid (¬ f (at0 S h) < f (at0 S a) → ∀ q, h ≤ q → q < b → f (at0 S a) ≤ f (at0 S q)) := fun hlt2 q h1 h2 => Nat.le_trans (by omega) (HS.out h q (by omega) h1 h2)
      go_wp2_with fail
      rw [show ((i : Int) + (j : Int)) / 2 = ((h : Nat) : Int) by omega]
      clear hh
      generalize hx1 : at0 S h = x at *
      generalize hx2 : at0 S a = y at *
      have HX2 := Lib.hid hx2
      clear hx1 hx2
      by_cases hfx : f x < f y
      · have hc := HCC.out.2 hfx
        go_quiet (first | (go_at_call 45; exact Calls.quiet_of (HCM.out _)))
        go_wp2_with fail
        go_roundw
        case rel => exact ⟨h + 1, j, _, by omega, by omega, hjb, by go_num, rfl, (by rw [HW2.out]; exact World.drewN_drewN w d nq), by rw [HX2.out]; exact HUP.out hfx, by rw [HX2.out]; exact HHI.out⟩
        case measure => simp [intOf]; omega
      · have hc : ¬ cm x y < 0 := fun h => hfx (HCC.out.1 h)
        go_quiet (first | (go_at_call 45; exact Calls.quiet_of (HCM.out _)))
        go_wp2_with fail
        go_roundw
        case rel => exact ⟨i, h, _, by omega, by omega, by omega, rfl, rfl, (by rw [HW2.out]; exact World.drewN_drewN w d nq), by rw [HX2.out]; exact HLO.out, by rw [HX2.out]; exact HDN.out hfx⟩
        case measure => simp [intOf]; omega
    · obtain rfl : i = j := by omega
      have HO2 := Lib.hid (HO.out.drewN d)
      have HG2 := Lib.hid (gdrewN w d (some gd))
      generalize w.drewN d = w2 at *
      have v1 : IntKind.i64.wrap ((i : Int) - 1) = ((i - 1 : Nat) : Int) := by rw [IntKind.wrap_i64]; omega
      go_wp2_with fail
      go_loopw [13] (fun vk wr => ∃ k S1, a ≤ k ∧ k ≤ i - 1 ∧ vk = .int .i64 (k : Nat) ∧ SnO wr base gd m cap S1 ∧ Mov a b S S1 ∧ (∀ p, at0 S1 p = if a ≤ p ∧ p < k then at0 S (p + 1) else if p = k then at0 S a else at0 S p) ∧ w.grownBy wr (some gd)) (fun vk _ => i - (intOf vk).toNat)
      case atStart => exact ⟨a, S, Nat.le_refl _, by omega, rfl, HO2.out, Mov.refl _ _ _, fun p => by rw [if_neg (by omega)]; split <;> simp_all, HG2.out⟩
      case round =>
        obtain ⟨k, S1, hak, hki, rfl, ho, hmv, hat, hg⟩ := hrel
        by_cases hlt2 : k < i - 1
        · have c1 := ho.cell k (by omega)
          have c2 := ho.cell (k + 1) (by omega)
          have f1 := ho.frozen k
          have f2 := ho.frozen (k + 1)
          have HSW := Lib.hid (fun d => (ho.drewN d).swap k (k + 1))
          have HSM := Lib.hid (hmv.trans (swp_mov S1 a b k (k + 1) (by have := ho.1; omega) (by have := ho.1; omega) (by omega) (by omega)))
          have hsa := fun p => swp_at S1 k (k + 1) p (by have := ho.1; omega) (by have := ho.1; omega)
          have HAT : Hid (∀ p, at0 (swp S1 k (k + 1)) p = if a ≤ p ∧ p < k + 1 then at0 S (p + 1) else if p = k + 1 then at0 S a else at0 S p) := fun p => by
            rw [hsa p]
            by_cases h1 : p = k + 1
            · rw [if_pos h1, if_neg (by omega), if_pos h1, hat, if_neg (by omega), if_pos rfl]
            · rw [if_neg h1]
              by_cases h2 : p = k
              · subst h2
                rw [if_pos rfl, if_pos (by omega), hat, if_neg (by omega), if_neg (by omega)]
              · rw [if_neg h2, hat, if_neg h1]
                by_cases h3 : a ≤ p ∧ p < k
                · rw [if_pos h3, if_pos (by omega)]
                · rw [if_neg h3, if_neg h2, if_neg (by omega)]
          have HG3 := Lib.hid hg
          clear ho hmv hat hg hsa
          have x1 : (k : Int) < ((i - 1 : Nat) : Int) := by omega
          have x2 : IntKind.i64.wrap ((k : Int) + 1) = ((k + 1 : Nat) : Int) := by rw [IntKind.wrap_i64]; omega
          have x3 : (k : Int) + 1 < m := by omega
          have x4 : (0 : Int) ≤ (k : Int) + 1 := by omega
          generalize at0 S1 k = xv at *
          generalize at0 S1 (k + 1) = yv at *
          go_wp2_with fail
          have HGQ := Lib.hid (gdrew1 HG3.out)
          have HSW2 := Lib.hid (show SnO (((wr.drew).setCell ⟨gd, k, none⟩ (.int .i64 (yv : Nat))).setCell ⟨gd, k + 1, none⟩ (.int .i64 (xv : Nat))) base gd m cap (swp S1 k (k + 1)) from HSW.out 1)
          go_region
          all_goals go_wp2_with fail
          go_roundw
          case rel => exact ⟨k + 1, _, by omega, by omega, by go_num, HSW2.out, HSM.out, HAT.out, gset2 (gset2 HGQ.out _ _) _ _⟩
          case measure => simp [intOf]; omega
        · obtain rfl : k = i - 1 := by omega
          have x1 : ¬ ((i - 1 : Nat) : Int) < ((i - 1 : Nat) : Int) := by omega
          have HF : Hid (SrtOn f a b S1) := by
            intro p q h1 h2 h3
            rw [hat p, hat q]
            by_cases e1 : q < i - 1
            · rw [if_pos (by omega), if_pos (by omega)]
              exact HS.out _ _ (by omega) (by omega) (by omega)
            · rw [if_neg (show ¬ (a ≤ q ∧ q < i - 1) by omega)]
              by_cases e2 : q = i - 1
              · rw [if_pos e2]
                by_cases e3 : p < i - 1
                · rw [if_pos (by omega)]; exact Nat.le_of_lt (HLO.out _ (by omega) (by omega))
                · rw [if_neg (by omega), if_pos (by omega)]; exact Nat.le_refl _
              · rw [if_neg e2]
                by_cases e3 : p < i - 1
                · rw [if_pos (by omega)]; exact HS.out _ _ (by omega) (by omega) (by omega)
                · rw [if_neg (by omega)]
                  by_cases e4 : p = i - 1
                  · rw [if_pos e4]; exact HHI.out _ (by omega) (by omega)
                  · rw [if_neg e4]; exact HS.out _ _ (by omega) (by omega) (by omega)
          have HO3 := Lib.hid ho
          have HM3 := Lib.hid hmv
          have HG3 := Lib.hid hg
          clear ho hmv hg hat
          go_wp2_with fail
          refine bodyPost_ret (results_none rfl _ _ _) rfl ?_
          exact ⟨rfl, S1, HO3.out, HM3.out, HF.out, HG3.out⟩

set_option maxRecDepth 100000 in
set_option maxHeartbeats 8000000 in
theorem sym_twoB (base gd m cap a c b pc n : Nat) (f : Nat → Nat) (S : List Nat) (w : World) (hO : SnO w base gd m cap S) (hx : ∀ x ∈ S, x < n) (hC : CmpOkB w gd pc n f) (hac : a + 2 ≤ c) (hcb : b = c + 1) (hb : b ≤ m) (hm : m ≤ 1000) (hs : SrtOn f a c S) (hord : Ord a c b S) :
    Calls Tryz.prog 100 #[.slice (some ⟨gd, 0, none⟩) m cap, .int .i64 (a : Nat), .int .i64 (c : Nat), .int .i64 (b : Nat), .func (.func 45) #[] #[.pointer (some ⟨pc, 0, none⟩)]] w
      fun e w' => e = .returned (.tuple #[]) ∧ ∃ S', SnO w' base gd m cap S' ∧ Mov a b S S' ∧ SrtOn f a b S' ∧ w.grownBy w' (some gd) := by
  have HX : Hid (∀ k, k < m → at0 S k < n) := fun k hk => by
    have hl : S.length = m := hO.1
    refine hx _ ?_
    rw [at0, List.getElem?_eq_getElem (by omega)]
    exact List.getElem_mem _
  obtain ⟨cm, hcm, hC⟩ := hC
  have HCI := Lib.hid hcm
  have HORD := Lib.hid hord
  clear hcm hord
  have HC := Lib.hid hC
  have HO := Lib.hid hO
  have HS := Lib.hid hs
  have HCB := Lib.hid hcb
  have hbnd : c < b := by omega
  have hbc : b ≤ c + 1 := by omega
  clear hC hx hO hs
  have v0 : IntKind.i64.wrap ((c : Int) - (a : Int)) = ((c - a : Nat) : Int) := by rw [IntKind.wrap_i64]; omega
  have v1 : IntKind.i64.wrap ((b : Int) - (c : Int)) = 1 := by rw [IntKind.wrap_i64]; omega
  have v2 : (((c - a : Nat) : Int) == 1) = false := by rw [beq_eq_false_iff_ne]; omega
  have v3 : ¬ ((c - a : Nat) : Int) = 1 := by omega
  have v4 : ¬ (c - a) = 1 := by omega
  clear hcb
  go_enter Tryz.func100, Tryz.ntmps100
  go_wp2_with fail
  go_loopw [14, 15] (fun vi vj wr => ∃ i j d, a ≤ i ∧ i ≤ j ∧ j ≤ c ∧ vi = .int .i64 (i : Nat) ∧ vj = .int .i64 (j : Nat) ∧ wr = w.drewN d ∧ (∀ q, a ≤ q → q < i → f (at0 S q) ≤ f (at0 S c)) ∧ (∀ q, j ≤ q → q < c → f (at0 S c) < f (at0 S q))) (fun vi vj _ => (intOf vj - intOf vi).toNat)
  case atStart => exact ⟨a, c, 0, Nat.le_refl _, by omega, Nat.le_refl _, rfl, rfl, rfl, fun q h1 h2 => by omega, fun q h1 h2 => by omega⟩
  case round =>
    obtain ⟨i, j, d, hci, hij, hjb, rfl, rfl, rfl, hlo, hhi⟩ := hrel
    have HLO := Lib.hid hlo
    have HHI := Lib.hid hhi
    clear hlo hhi
    by_cases hlt : i < j
    · obtain ⟨h, hh⟩ : ∃ h, h = (i + j) / 2 := ⟨_, rfl⟩
      have hih : i ≤ h := by omega
      have hhj : h < j := by omega
      have HO2 := Lib.hid (HO.out.drewN d)
      have HG2 := Lib.hid (gdrewN w d (some gd))
      obtain ⟨w2, hw2⟩ : ∃ w2, w2 = w.drewN d := ⟨_, rfl⟩
      rw [← hw2] at HO2 HG2 ⊢
      have HW2 := Lib.hid hw2
      clear hw2
      have c1 := HO2.out.cell h (by omega)
      have c2 := HO2.out.cell c (by omega)
      have hq1 := HX.out h (by omega)
      have hq2 := HX.out c (by omega)
      have HCM := Lib.hid (fun d2 => HC.out (w2.drewN d2) (gdrew HG2.out d2) _ _ hq2 hq1)
      have HCC := Lib.hid (HCI.out _ _ hq2 hq1 (HORD.out h c (by omega) (by omega) (Nat.le_refl _) (by omega)))
      have HUP : Hid (¬ f (at0 S c) < f (at0 S h) → ∀ q, a ≤ q → q < h + 1 → f (at0 S q) ≤ f (at0 S c)) := fun hlt2 q h1 h2 => Nat.le_trans (HS.out q h h1 (by omega) (by omega)) (by omega)
      have HDN : Hid (f (at0 S c) < f (at0 S h) → ∀ q, h ≤ q → q < c → f (at0 S c) < f (at0 S q)) := fun hlt2 q h1 h2 => Nat.lt_of_lt_of_le hlt2 (HS.out h q (by omega) h1 h2)
      go_wp2_with fail
      rw [show ((i : Int) + (j : Int)) / 2 = ((h : Nat) : Int) by omega]
      clear hh
      generalize hx1 : at0 S h = x at *
      generalize hx2 : at0 S c = y at *
      have HX2 := Lib.hid hx2
      clear hx1 hx2
      by_cases hfx : f y < f x
      · have hc := HCC.out.2 hfx
        go_quiet (first | (go_at_call 45; exact Calls.quiet_of (HCM.out _)))
        go_wp2_with fail
        go_roundw
        case rel => exact ⟨i, h, _, by omega, by omega, by omega, rfl, rfl, (by rw [HW2.out]; exact World.drewN_drewN w d nq), by rw [HX2.out]; exact HLO.out, by rw [HX2.out]; exact HDN.out hfx⟩
        case measure => simp [intOf]; omega
      · have hc : ¬ cm y x < 0 := fun h => hfx (HCC.out.1 h)
        go_quiet (first | (go_at_call 45; exact Calls.quiet_of (HCM.out _)))
        go_wp2_with fail
        go_roundw
        case rel => exact ⟨h + 1, j, _, by omega, by omega, hjb, by go_num, rfl, (by rw [HW2.out]; exact World.drewN_drewN w d nq), by rw [HX2.out]; exact HUP.out hfx, by rw [HX2.out]; exact HHI.out⟩
        case measure => simp [intOf]; omega
    · obtain rfl : i = j := by omega
      have HO2 := Lib.hid (HO.out.drewN d)
      have HG2 := Lib.hid (gdrewN w d (some gd))
      generalize w.drewN d = w2 at *
      go_wp2_with fail
      go_loopw [17] (fun vk wr => ∃ k S1, i ≤ k ∧ k ≤ c ∧ vk = .int .i64 (k : Nat) ∧ SnO wr base gd m cap S1 ∧ Mov a b S S1 ∧ (∀ p, at0 S1 p = if k < p ∧ p ≤ c then at0 S (p - 1) else if p = k then at0 S c else at0 S p) ∧ w.grownBy wr (some gd)) (fun vk _ => (intOf vk).toNat)
      case atStart => exact ⟨c, S, by omega, Nat.le_refl _, rfl, HO2.out, Mov.refl _ _ _, fun p => by rw [if_neg (by omega)]; split <;> simp_all, HG2.out⟩
      case round =>
        obtain ⟨k0, S1, hak, hki, rfl, ho, hmv, hat, hg⟩ := hrel
        by_cases hlt2 : i < k0
        · obtain ⟨k, rfl⟩ : ∃ k, k0 = k + 1 := ⟨k0 - 1, by omega⟩
          have c1 := ho.cell k (by omega)
          have c2 := ho.cell (k + 1) (by omega)
          have f1 := ho.frozen k
          have f2 := ho.frozen (k + 1)
          have HSW := Lib.hid (fun d => (ho.drewN d).swap (k + 1) k)
          have HSM := Lib.hid (hmv.trans (swp_mov S1 a b (k + 1) k (by have := ho.1; omega) (by have := ho.1; omega) (by omega) (by omega)))
          have hsa := fun p => swp_at S1 (k + 1) k p (by have := ho.1; omega) (by have := ho.1; omega)
          have HAT : Hid (∀ p, at0 (swp S1 (k + 1) k) p = if k < p ∧ p ≤ c then at0 S (p - 1) else if p = k then at0 S c else at0 S p) := fun p => by
            rw [hsa p]
            by_cases h1 : p = k
            · rw [if_pos h1, if_neg (by omega), if_pos h1, hat, if_neg (by omega), if_pos rfl]
            · rw [if_neg h1]
              by_cases h2 : p = k + 1
              · subst h2
                rw [if_pos rfl, if_pos (by omega), hat, if_neg (by omega), if_neg (by omega), Nat.add_sub_cancel]
              · rw [if_neg h2, hat, if_neg h1]
                by_cases h3 : k + 1 < p ∧ p ≤ c
                · rw [if_pos h3, if_pos (by omega)]
                · rw [if_neg h3, if_neg h2, if_neg (by omega)]
          have HG3 := Lib.hid hg
          clear ho hmv hat hg hsa
          have x1 : (i : Int) < (k : Int) + 1 := by omega
          have hI2 : IntKind.i64.wrap ((k : Int) + 1 - 1) = k := by rw [IntKind.wrap_i64]; omega
          have hI3 : IntKind.i64.wrap (k : Int) = k := by rw [IntKind.wrap_i64]; omega
          have x3 : (k : Int) + 1 < m := by omega
          have x4 : (0 : Int) ≤ (k : Int) + 1 := by omega
          have x5 : (k : Int) < m := by omega
          generalize at0 S1 k = xv at *
          generalize at0 S1 (k + 1) = yv at *
          go_wp2_with fail
          have HGQ := Lib.hid (gdrew1 HG3.out)
          have HSW2 := Lib.hid (show SnO (((wr.drew).setCell ⟨gd, k + 1, none⟩ (.int .i64 (xv : Nat))).setCell ⟨gd, k, none⟩ (.int .i64 (yv : Nat))) base gd m cap (swp S1 (k + 1) k) from HSW.out 1)
          go_region
          all_goals go_wp2_with fail
          go_roundw
          case rel => exact ⟨k, _, by omega, by omega, by go_num, HSW2.out, HSM.out, HAT.out, gset2 (gset2 HGQ.out _ _) _ _⟩
          case measure => simp [intOf]
        · obtain rfl : k0 = i := by omega
          have x1 : ¬ (k0 : Int) < (k0 : Int) := by omega
          have HF : Hid (SrtOn f a b S1) := by
            intro p q h1 h2 h3
            rw [hat p, hat q]
            by_cases e1 : k0 < q
            · rw [if_pos (show k0 < q ∧ q ≤ c by omega)]
              by_cases e2 : k0 < p
              · rw [if_pos (by omega)]
                exact HS.out _ _ (by omega) (by omega) (by omega)
              · rw [if_neg (by omega)]
                by_cases e3 : p = k0
                · rw [if_pos e3]; exact Nat.le_of_lt (HHI.out _ (by omega) (by omega))
                · rw [if_neg e3]; exact HS.out _ _ (by omega) (by omega) (by omega)
            · rw [if_neg (show ¬ (k0 < q ∧ q ≤ c) by omega), if_neg (show ¬ (k0 < p ∧ p ≤ c) by omega)]
              by_cases e2 : q = k0
              · rw [if_pos e2]
                by_cases e3 : p = k0
                · rw [if_pos e3]; exact Nat.le_refl _
                · rw [if_neg e3]; exact HLO.out _ (by omega) (by omega)
              · rw [if_neg e2, if_neg (by omega)]
                exact HS.out _ _ (by omega) (by omega) (by omega)
          have HO3 := Lib.hid ho
          have HM3 := Lib.hid hmv
          have HG3 := Lib.hid hg
          clear ho hmv hg hat
          go_wp2_with fail
          refine bodyPost_ret (results_none rfl _ _ _) rfl ?_
          exact ⟨rfl, S1, HO3.out, HM3.out, HF.out, HG3.out⟩
end Go.Proofs.YtijfcmlgohbndaaGreatDoor.Bp
