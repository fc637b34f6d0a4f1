/-
  The library's symMerge, over signs: where one of the two parts is one sign.
-/
import Derived.Test.YtljekdnjdcfliaaWRot
namespace Go.Proofs.Ytljekdnjdcfliaa
open Go.RowKit

theorem half_lt {i j : Nat} (h : i < j) : i ≤ (i + j) / 2 ∧ (i + j) / 2 < j := by omega

set_option maxRecDepth 100000 in
set_option maxHeartbeats 8000000 in
theorem sym_one (base gd m cap a c b pc n : Nat) (f : Nat → Nat) (S : List Nat) (w : World) (hO : SnO w base gd m cap S) (hx : ∀ x ∈ S, x < n) (hC : CmpOk w gd pc n f) (hac : c = a + 1) (hcb : c < b) (hb : b ≤ m) (hm : m ≤ 1000) (hs : SrtOn f c b S) :
    Calls Try.prog 76 #[.slice (some ⟨gd, 0, none⟩) m cap, .int .i64 (a : Nat), .int .i64 (c : Nat), .int .i64 (b : Nat), .func (.func 63) #[] #[.pointer (some ⟨pc, 0, none⟩)]] w
      fun e w' => e = .returned (.tuple #[]) ∧ ∃ S', SnO w' base gd m cap S' ∧ Mov a b S S' ∧ SrtOn f a b S' ∧ w.grownBy w' (some gd) := by
  have HX : Hid (∀ k, k < m → at0 S k < n) := fun k hk => by
    have hl : S.length = m := hO.1
    refine hx _ ?_
    rw [at0, List.getElem?_eq_getElem (by omega)]
    exact List.getElem_mem _
  have HC := Lib.hid hC
  have HO := Lib.hid hO
  have HS := Lib.hid hs
  have HAC := Lib.hid hac
  have hbnd : a < c := by omega
  have hca : c ≤ a + 1 := by omega
  clear hC hx hO hs
  have v0 : IntKind.i64.wrap ((c : Int) - (a : Int)) = 1 := by rw [IntKind.wrap_i64]; omega
  clear hac
  go_enter Try.func76, Try.ntmps76
  go_wp2_with fail
  go_loopw [10, 11] (fun vi vj wr => ∃ i j d, c ≤ i ∧ i ≤ j ∧ j ≤ b ∧ vi = .int .i64 (i : Nat) ∧ vj = .int .i64 (j : Nat) ∧ wr = w.drewN d ∧ (∀ q, c ≤ q → q < i → f (at0 S q) < f (at0 S a)) ∧ (∀ q, j ≤ q → q < b → f (at0 S a) ≤ f (at0 S q))) (fun vi vj _ => (intOf vj - intOf vi).toNat)
  case atStart => exact ⟨c, b, 0, Nat.le_refl _, by omega, Nat.le_refl _, rfl, rfl, rfl, fun q h1 h2 => by omega, fun q h1 h2 => by omega⟩
  case round =>
    obtain ⟨i, j, d, hci, hij, hjb, rfl, rfl, rfl, hlo, hhi⟩ := hrel
    have HLO := Lib.hid hlo
    have HHI := Lib.hid hhi
    clear hlo hhi
    by_cases hlt : i < j
    · obtain ⟨h, hh⟩ : ∃ h, h = (i + j) / 2 := ⟨_, rfl⟩
      have hih : i ≤ h := by omega
      have hhj : h < j := by omega
      have HO2 := Lib.hid (HO.out.drewN d)
      have HG2 := Lib.hid (gdrewN w d (some gd))
      obtain ⟨w2, hw2⟩ : ∃ w2, w2 = w.drewN d := ⟨_, rfl⟩
      rw [← hw2] at HO2 HG2 ⊢
      have HW2 := Lib.hid hw2
      clear hw2
      have c1 := HO2.out.cell h (by omega)
      have c2 := HO2.out.cell a (by omega)
      have hq1 := HX.out h (by omega)
      have hq2 := HX.out a (by omega)
      have HCM := Lib.hid (fun d2 => HC.out (w2.drewN d2) (gdrew HG2.out d2) _ _ hq1 hq2)
      have HUP : Hid (f (at0 S h) < f (at0 S a) → ∀ q, c ≤ q → q < h + 1 → f (at0 S q) < f (at0 S a)) := fun hlt2 q h1 h2 => Nat.lt_of_le_of_lt (HS.out q h h1 (by omega) (by omega)) hlt2
      have HDN : Hid (¬ f (at0 S h) < f (at0 S a) → ∀ q, h ≤ q → q < b → f (at0 S a) ≤ f (at0 S q)) := fun hlt2 q h1 h2 => Nat.le_trans (by omega) (HS.out h q (by omega) h1 h2)
      go_wp2_with fail
      rw [show ((i : Int) + (j : Int)) / 2 = ((h : Nat) : Int) by omega]
      clear hh
      generalize hx1 : at0 S h = x at *
      generalize hx2 : at0 S a = y at *
      have HX2 := Lib.hid hx2
      clear hx1 hx2
      by_cases hfx : f x < f y
      · have hc := cmp_lt _ _ hfx
        go_quiet (first | (go_at_call 63; exact Calls.quiet_of (HCM.out _)))
        go_wp2_with fail
        go_roundw
        case rel => exact ⟨h + 1, j, _, by omega, by omega, hjb, by go_num, rfl, (by rw [HW2.out]; exact World.drewN_drewN w d nq), by rw [HX2.out]; exact HUP.out hfx, by rw [HX2.out]; exact HHI.out⟩
        case measure => simp [intOf]; omega
      · have hc := cmp_ge _ _ hfx
        go_quiet (first | (go_at_call 63; exact Calls.quiet_of (HCM.out _)))
        go_wp2_with fail
        go_roundw
        case rel => exact ⟨i, h, _, by omega, by omega, by omega, rfl, rfl, (by rw [HW2.out]; exact World.drewN_drewN w d nq), by rw [HX2.out]; exact HLO.out, by rw [HX2.out]; exact HDN.out hfx⟩
        case measure => simp [intOf]; omega
    · obtain rfl : i = j := by omega
      have HO2 := Lib.hid (HO.out.drewN d)
      have HG2 := Lib.hid (gdrewN w d (some gd))
      generalize w.drewN d = w2 at *
      have v1 : IntKind.i64.wrap ((i : Int) - 1) = ((i - 1 : Nat) : Int) := by rw [IntKind.wrap_i64]; omega
      go_wp2_with fail
      go_loopw [13] (fun vk wr => ∃ k S1, a ≤ k ∧ k ≤ i - 1 ∧ vk = .int .i64 (k : Nat) ∧ SnO wr base gd m cap S1 ∧ Mov a b S S1 ∧ (∀ p, at0 S1 p = if a ≤ p ∧ p < k then at0 S (p + 1) else if p = k then at0 S a else at0 S p) ∧ w.grownBy wr (some gd)) (fun vk _ => i - (intOf vk).toNat)
      case atStart => exact ⟨a, S, Nat.le_refl _, by omega, rfl, HO2.out, Mov.refl _ _ _, fun p => by rw [if_neg (by omega)]; split <;> simp_all, HG2.out⟩
      case round =>
        obtain ⟨k, S1, hak, hki, rfl, ho, hmv, hat, hg⟩ := hrel
        by_cases hlt2 : k < i - 1
        · have c1 := ho.cell k (by omega)
          have c2 := ho.cell (k + 1) (by omega)
          have f1 := ho.frozen k
          have f2 := ho.frozen (k + 1)
          have HSW := Lib.hid (fun d => (ho.drewN d).swap k (k + 1))
          have HSM := Lib.hid (hmv.trans (swp_mov S1 a b k (k + 1) (by have := ho.1; omega) (by have := ho.1; omega) (by omega) (by omega)))
          have hsa := fun p => swp_at S1 k (k + 1) p (by have := ho.1; omega) (by have := ho.1; omega)
          have HAT : Hid (∀ p, at0 (swp S1 k (k + 1)) p = if a ≤ p ∧ p < k + 1 then at0 S (p + 1) else if p = k + 1 then at0 S a else at0 S p) := fun p => by
            rw [hsa p]
            by_cases h1 : p = k + 1
            · rw [if_pos h1, if_neg (by omega), if_pos h1, hat, if_neg (by omega), if_pos rfl]
            · rw [if_neg h1]
              by_cases h2 : p = k
              · subst h2
                rw [if_pos rfl, if_pos (by omega), hat, if_neg (by omega), if_neg (by omega)]
              · rw [if_neg h2, hat, if_neg h1]
                by_cases h3 : a ≤ p ∧ p < k
                · rw [if_pos h3, if_pos (by omega)]
                · rw [if_neg h3, if_neg h2, if_neg (by omega)]
          have HG3 := Lib.hid hg
          clear ho hmv hat hg hsa
          have x1 : (k : Int) < ((i - 1 : Nat) : Int) := by omega
          have x2 : IntKind.i64.wrap ((k : Int) + 1) = ((k + 1 : Nat) : Int) := by rw [IntKind.wrap_i64]; omega
          have x3 : (k : Int) + 1 < m := by omega
          have x4 : (0 : Int) ≤ (k : Int) + 1 := by omega
          generalize at0 S1 k = xv at *
          generalize at0 S1 (k + 1) = yv at *
          go_wp2_with fail
          have HGQ := Lib.hid (gdrew1 HG3.out)
          have HSW2 := Lib.hid (show SnO (((wr.drew).setCell ⟨gd, k, none⟩ (.int .i64 (yv : Nat))).setCell ⟨gd, k + 1, none⟩ (.int .i64 (xv : Nat))) base gd m cap (swp S1 k (k + 1)) from HSW.out 1)
          go_region
          all_goals go_wp2_with fail
          go_roundw
          case rel => exact ⟨k + 1, _, by omega, by omega, by go_num, HSW2.out, HSM.out, HAT.out, gset2 (gset2 HGQ.out _ _) _ _⟩
          case measure => simp [intOf]; omega
        · obtain rfl : k = i - 1 := by omega
          have x1 : ¬ ((i - 1 : Nat) : Int) < ((i - 1 : Nat) : Int) := by omega
          have HF : Hid (SrtOn f a b S1) := by
            intro p q h1 h2 h3
            rw [hat p, hat q]
            by_cases e1 : q < i - 1
            · rw [if_pos (by omega), if_pos (by omega)]
              exact HS.out _ _ (by omega) (by omega) (by omega)
            · rw [if_neg (show ¬ (a ≤ q ∧ q < i - 1) by omega)]
              by_cases e2 : q = i - 1
              · rw [if_pos e2]
                by_cases e3 : p < i - 1
                · rw [if_pos (by omega)]; exact Nat.le_of_lt (HLO.out _ (by omega) (by omega))
                · rw [if_neg (by omega), if_pos (by omega)]; exact Nat.le_refl _
              · rw [if_neg e2]
                by_cases e3 : p < i - 1
                · rw [if_pos (by omega)]; exact HS.out _ _ (by omega) (by omega) (by omega)
                · rw [if_neg (by omega)]
                  by_cases e4 : p = i - 1
                  · rw [if_pos e4]; exact HHI.out _ (by omega) (by omega)
                  · rw [if_neg e4]; exact HS.out _ _ (by omega) (by omega) (by omega)
          have HO3 := Lib.hid ho
          have HM3 := Lib.hid hmv
          have HG3 := Lib.hid hg
          clear ho hmv hg hat
          go_wp2_with fail
          refine bodyPost_ret (results_none rfl _ _ _) rfl ?_
          exact ⟨rfl, S1, HO3.out, HM3.out, HF.out, HG3.out⟩
end Go.Proofs.Ytljekdnjdcfliaa
