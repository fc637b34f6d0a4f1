/-
  A stable sort of items: the blocks of twenty, the merging.
-/
import Derived.Test.YtpkhpaklhfomkaaGreatDoorIsB
namespace Go.Proofs.YtpkhpaklhfomkaaGreatDoor.Is
set_option maxRecDepth 100000
set_option linter.unusedSimpArgs false
set_option linter.unusedVariables false
open Go.RowKit Go.Joins Go.Deep
/-- What symMerge does. -/
def SymOk (T : Nat → Itm) (base gd m cap pc n : Nat) (f : Nat → Nat) : Prop := ∀ (a c b : Nat) (S : List Nat) (w : World), a < c → c < b → b ≤ m → SnO T w base gd m cap S → (∀ x ∈ S, x < n) → CmpOk T w gd pc n f → SrtOn f a c S → SrtOn f c b S → Ord a c b S →
  Calls Tryz.prog 129 #[.slice (some ⟨gd, 0, none⟩) m cap, .int .i64 (a : Nat), .int .i64 (c : Nat), .int .i64 (b : Nat), .func (.func 52) #[] #[]] w
    fun e w' => e = .returned (.tuple #[]) ∧ ∃ S', SnO T w' base gd m cap S' ∧ Mov a b S S' ∧ SrtOn f a b S' ∧ w.grownBy w' (some gd)
set_option maxRecDepth 100000 in
set_option maxHeartbeats 8000000 in
theorem stable_any (T : Nat → Itm) (base gd m cap pc n : Nat) (f : Nat → Nat) (S : List Nat) (w : World) (hO : SnO T w base gd m cap S) (hx : ∀ x ∈ S, x < n) (hC : CmpOk T w gd pc n f) (hm : m ≤ 1000) (hinc : ∀ p q, p < q → q < m → at0 S p < at0 S q) (hsym : 20 < m → SymOk T base gd m cap pc n f) :
    Calls Tryz.prog 86 #[.slice (some ⟨gd, 0, none⟩) m cap, .int .i64 m, .func (.func 52) #[] #[]] w
      fun e w' => e = .returned (.tuple #[]) ∧ ∃ S', SnO T w' base gd m cap S' ∧ Mov 0 m S S' ∧ SrtOn f 0 m S' ∧ w.grownBy w' (some gd) := by
  have HI := Lib.hid (fun a b S1 w1 (ho : SnO T w1 base gd m cap S1) (hmv : Mov 0 m S S1) (hg : w.grownBy w1 (some gd)) (hb : b ≤ m) (ha : a ≤ m) (ht : ∀ q, a ≤ q → at0 S1 q = at0 S q) => ins_any T base gd m cap a b pc n f S1 w1 ho (hmv.all hx) (hC.grown hg) hb ha hm (fun p q h1 h2 h3 => by rw [ht p h1, ht q (by omega)]; exact hinc p q h2 (by omega)))
  have HY := Lib.hid (fun (h20 : 20 < m) a c b S1 w1 (h1 : a < c) (h2 : c < b) (h3 : b ≤ m) (ho : SnO T w1 base gd m cap S1) (hmv : Mov 0 m S S1) (hg : w.grownBy w1 (some gd)) => hsym h20 a c b S1 w1 h1 h2 h3 ho (hmv.all hx) (hC.grown hg))
  have HO := Lib.hid hO
  have HINC := Lib.hid hinc
  clear hO hx hC hsym hinc
  go_enter Tryz.func86, Tryz.ntmps86
  go_wp2_with fail
  go_loopw [7, 8] (fun va vb wr => ∃ k S1, va = .int .i64 (20 * k : Nat) ∧ vb = .int .i64 (20 * k + 20 : Nat) ∧ 20 * k ≤ m ∧ SnO T wr base gd m cap S1 ∧ Mov 0 m S S1 ∧ (∀ j, j < k → SrtOn f (20 * j) (20 * j + 20) S1) ∧ w.grownBy wr (some gd) ∧ Org m S S1 0 20 ∧ (∀ q, 20 * k ≤ q → at0 S1 q = at0 S q)) (fun va _ _ => (m + 40) - (intOf va).toNat)
  case atStart => exact ⟨0, S, rfl, rfl, Nat.zero_le _, HO.out, Mov.refl _ _ _, fun j hj => by omega, World.grownBy.refl _ _, org_refl _ _, fun _ _ => rfl⟩
  case round =>
    obtain ⟨k, S1, rfl, rfl, hk, ho, hmv, hs, hg, horg, htl⟩ := hrel
    have HORG := Lib.hid horg
    have HTL := Lib.hid htl
    clear horg htl
    have HO1 := Lib.hid ho
    have HM := Lib.hid hmv
    have HS := Lib.hid hs
    have HG := Lib.hid hg
    clear ho hmv hs hg
    by_cases hlt : 20 * k + 20 ≤ m
    · have hI : ((20 * k + 20 : Nat) : Int) ≤ m := by omega
      have HK1 : Hid (∀ S2, Mov (20 * k) (20 * k + 20) S1 S2 → Org m S S2 0 20 ∧ ∀ q, 20 * (k + 1) ≤ q → at0 S2 q = at0 S q) := fun S2 hm2 =>
        ⟨org_ins HORG.out HTL.out rfl hm2 (Nat.le_refl _) hlt, fun q hq => by rw [hm2.out q (by omega), HTL.out q (by omega)]⟩
      have hW : IntKind.i64.wrap (((20 * k + 20 : Nat) : Int) + 20) = ((20 * k + 40 : Nat) : Int) := by rw [IntKind.wrap_i64]; omega
      generalize hA : 20 * k = A at *
      generalize hB : A + 20 = B at *
      go_wp2_with fail
      refine (HI.out A B S1 wr HO1.out HM.out HG.out (by omega) (by omega) HTL.out).mono ?_
      rintro e w2 ⟨rfl, S2, ho2, hm2, hs2, hg2⟩
      go_wp2_with fail
      go_roundw
      case rel =>
        refine ⟨k + 1, S2, by congr 1; omega, ?_, by omega, ho2, HM.out.trans (hm2.wide (Nat.zero_le _) (by omega)), ?_, gtrans HG.out hg2, (HK1.out S2 hm2).1, (HK1.out S2 hm2).2⟩
        · congr 1; omega
        · intro j hj
          by_cases e : j = k
          · subst e; rw [hA, hB]; exact hs2
          · exact hm2.srt (.inl (by omega)) (HS.out j (by omega))
      case measure => simp [intOf]; omega
    · have hI : ¬ ((20 * k + 20 : Nat) : Int) ≤ m := by omega
      have HK2 : Hid (∀ S2, Mov (20 * k) m S1 S2 → Org m S S2 0 20) := fun S2 hm2 => org_ins HORG.out HTL.out rfl hm2 (by omega) (Nat.le_refl _)
      generalize hA : 20 * k = A at *
      generalize hB : A + 20 = B at *
      go_wp2_with fail
      refine (HI.out A m S1 wr HO1.out HM.out HG.out (by omega) (by omega) HTL.out).mono ?_
      rintro e w2 ⟨rfl, S2, ho2, hm2, hs2, hg2⟩
      have HORG2 := Lib.hid (HK2.out S2 hm2)
      have HO2 := Lib.hid ho2
      have HM2 := Lib.hid (HM.out.trans (hm2.wide (Nat.zero_le _) (Nat.le_refl _)))
      have HG2 := Lib.hid (gtrans HG.out hg2)
      have HS2 : Hid (∀ j, SrtOn f (20 * j) (min (20 * j + 20) m) S2) := fun j => by
        by_cases h1 : j < k
        · have := hm2.srt (.inl (by omega)) (HS.out j h1)
          intro p q e1 e2 e3
          exact this p q e1 e2 (by omega)
        · by_cases h2 : j = k
          · subst h2; rw [hA]; intro p q e1 e2 e3; exact hs2 p q e1 e2 (by omega)
          · intro p q e1 e2 e3; omega
      clear ho2 hm2 hs2 hg2 HS HM HG HO1
      go_wp2_with fail
      go_loopw [6] (fun vs wr => ∃ bs S1, vs = .int .i64 (bs : Nat) ∧ 20 ≤ bs ∧ (bs = 20 ∨ bs < 2 * m) ∧ SnO T wr base gd m cap S1 ∧ Mov 0 m S S1 ∧ (∀ j, SrtOn f (bs * j) (min (bs * j + bs) m) S1) ∧ w.grownBy wr (some gd) ∧ Org m S S1 0 bs) (fun vs _ => m - (intOf vs).toNat)
      case atStart => exact ⟨20, S2, rfl, Nat.le_refl _, .inl rfl, HO2.out, HM2.out, HS2.out, HG2.out, HORG2.out⟩
      case round =>
        obtain ⟨bs, S3, rfl, hb20, hbm, ho, hmv, hs, hg, horg⟩ := hrel
        have HORG3 := Lib.hid horg
        clear horg HK2 HORG HTL HORG2
        have HO3 := Lib.hid ho
        have HM3 := Lib.hid hmv
        have HS3 := Lib.hid hs
        have HG3 := Lib.hid hg
        clear ho hmv hs hg HO2 HM2 HS2 HG2
        by_cases hbs : bs < m
        · have hW1 : IntKind.i64.wrap (2 * (bs : Int)) = ((2 * bs : Nat) : Int) := by rw [IntKind.wrap_i64]; omega
          have hW2 : IntKind.i64.wrap ((bs : Int) * 2) = ((2 * bs : Nat) : Int) := by rw [IntKind.wrap_i64]; omega
          have hSY := HY.out (by omega)
          have HSY := Lib.hid hSY
          clear hSY
          go_wp2_with fail
          go_loopw [7, 8] (fun va vb wr => ∃ k A S1, A = 2 * bs * k ∧ va = .int .i64 (A : Nat) ∧ vb = .int .i64 (A + 2 * bs : Nat) ∧ A ≤ m ∧ SnO T wr base gd m cap S1 ∧ Mov 0 m S S1 ∧ (∀ j, j < k → SrtOn f (2 * bs * j) (2 * bs * j + 2 * bs) S1) ∧ (∀ j, 2 * k ≤ j → SrtOn f (bs * j) (min (bs * j + bs) m) S1) ∧ w.grownBy wr (some gd) ∧ Org m S S1 A bs) (fun va _ _ => (3 * m + 40) - (intOf va).toNat)
          case atStart => exact ⟨0, 0, S3, by simp, rfl, by congr 1; omega, Nat.zero_le _, HO3.out, HM3.out, fun j hj => by omega, fun j _ => HS3.out j, HG3.out, HORG3.out⟩
          case round =>
            obtain ⟨k, A, S1, hAk, rfl, rfl, hAm, ho, hmv, hs1, hs2, hg, horg⟩ := hrel
            have HOD : Hid (∀ b, b ≤ m → b ≤ A + 2 * bs → Ord A (A + bs) b S1) := fun b h1 h2 => org_ord horg hAk HINC.out h1 h2
            have HOS : Hid (A + 2 * bs ≤ m → ∀ S2, Mov A (A + 2 * bs) S1 S2 → Org m S S2 (A + 2 * bs) bs) := fun h1 S2 h2 => org_step horg hAk h2 h1
            have HOF : Hid (m < A + 2 * bs → ∀ S2, Mov A m S1 S2 → Org m S S2 0 (2 * bs)) := fun h1 S2 h2 => org_fin horg hAk h2 h1
            clear horg
            have HO1 := Lib.hid ho
            have HM1 := Lib.hid hmv
            have HS1 := Lib.hid hs1
            have HS2 := Lib.hid hs2
            have HG1 := Lib.hid hg
            clear ho hmv hs1 hs2 hg
            have e0 : bs * (2 * k) = A := by rw [hAk, Nat.mul_left_comm, Nat.mul_assoc]
            have e1 : bs * (2 * k + 1) = A + bs := by rw [Nat.mul_succ, e0]
            have e2 : 2 * bs * (k + 1) = A + 2 * bs := by rw [Nat.mul_succ, hAk]
            have e3 : ∀ j, j < k → 2 * bs * j + 2 * bs ≤ A := fun j hj => by rw [hAk, ← Nat.mul_succ]; exact Nat.mul_le_mul_left _ hj
            have e4 : ∀ j, 2 * k + 2 ≤ j → A + 2 * bs ≤ bs * j := fun j hj => by
              have := Nat.mul_le_mul_left bs hj
              rw [show 2 * k + 2 = 2 * k + 1 + 1 by omega, Nat.mul_succ, e1] at this
              omega
            have e5 : ∀ j, k < j → A + 2 * bs ≤ 2 * bs * j := fun j hj => by
              have := Nat.mul_le_mul_left (2 * bs) hj
              rw [Nat.succ_eq_add_one, e2] at this
              exact this
            have q1 := HS2.out (2 * k) (Nat.le_refl _)
            have q2 := HS2.out (2 * k + 1) (by omega)
            rw [e0] at q1
            rw [e1] at q2
            have hW3 : IntKind.i64.wrap ((A : Int) + (bs : Int)) = ((A + bs : Nat) : Int) := by rw [IntKind.wrap_i64]; omega
            have hW4 : IntKind.i64.wrap (((A + 2 * bs : Nat) : Int) + ((2 * bs : Nat) : Int)) = ((A + 2 * bs + 2 * bs : Nat) : Int) := by rw [IntKind.wrap_i64]; omega
            have HQ1 := Lib.hid q1
            have HQ2 := Lib.hid q2
            have HE := Lib.hid e3
            have HE4 := Lib.hid e4
            have HE5 := Lib.hid e5
            have HE2 := Lib.hid e2
            have HAK := Lib.hid hAk
            clear q1 q2 e0 e1 e2 e3 e4 e5 hAk
            by_cases hlt : A + 2 * bs ≤ m
            · have hI : ((A + 2 * bs : Nat) : Int) ≤ m := by omega
              have HOD1 := Lib.hid (HOD.out _ hlt (Nat.le_refl _))
              have HOS1 := Lib.hid (HOS.out hlt)
              clear HOD HOS HOF HORG3
              generalize hB2 : 2 * bs = B2 at *
              generalize hBB : A + B2 = BB at *
              generalize hMM : A + bs = MM at *
              go_wp2_with fail
              refine (HSY.out A MM BB S1 wr (by omega) (by omega) (by omega) HO1.out HM1.out HG1.out (fun p q h1 h2 h3 => HQ1.out p q h1 h2 (by omega)) (fun p q h1 h2 h3 => HQ2.out p q h1 h2 (by omega)) HOD1.out).mono ?_
              rintro e w2 ⟨rfl, S2, ho2, hm2, hs2, hg2⟩
              go_wp2_with fail
              go_roundw
              case rel =>
                refine ⟨k + 1, BB, S2, by rw [HE2.out], by congr 1, by congr 1, by omega, ho2, HM1.out.trans (hm2.wide (Nat.zero_le _) (by omega)), ?_, ?_, gtrans HG1.out hg2, HOS1.out S2 hm2⟩
                · intro j hj
                  by_cases e : j = k
                  · subst e; rw [← HAK.out, hBB]; exact hs2
                  · have := HE.out j (by omega)
                    exact hm2.srt (.inl (by omega)) (HS1.out j (by omega))
                · intro j hj
                  have := HE4.out j (by omega)
                  exact hm2.srt (.inr (by omega)) (HS2.out j (by omega))
              case measure => simp [intOf]; omega
            · have hI : ¬ ((A + 2 * bs : Nat) : Int) ≤ m := by omega
              -- what is left, merged or not
              have FIN : Hid (∀ S2 w2, SnO T w2 base gd m cap S2 → Mov A m S1 S2 → SrtOn f A m S2 → w.grownBy w2 (some gd) → ∃ bs' S', Value.int .i64 ((2 * bs : Nat) : Int) = .int .i64 (bs' : Nat) ∧ 20 ≤ bs' ∧ (bs' = 20 ∨ bs' < 2 * m) ∧ SnO T w2 base gd m cap S' ∧ Mov 0 m S S' ∧ (∀ j, SrtOn f (bs' * j) (min (bs' * j + bs') m) S') ∧ w.grownBy w2 (some gd) ∧ Org m S S' 0 bs') := fun S2 w2 ho2 hm2 hs2 hg2 =>
                ⟨2 * bs, S2, rfl, by omega, .inr (by omega), ho2, HM1.out.trans (hm2.wide (Nat.zero_le _) (Nat.le_refl _)), fun j => by
                  by_cases h1 : j < k
                  · have h2 := HE.out j h1
                    have := hm2.srt (.inl (by omega)) (HS1.out j h1)
                    intro p q e1 e2 e3
                    exact this p q e1 e2 (by omega)
                  · by_cases h2 : j = k
                    · subst h2; rw [← HAK.out]; intro p q e1 e2 e3; exact hs2 p q e1 e2 (by omega)
                    · have := HE5.out j (by omega)
                      intro p q e1 e2 e3; omega, hg2, HOF.out (by omega) S2 hm2⟩
              by_cases hmm : A + bs < m
              · have hI2 : ((A + bs : Nat) : Int) < m := by omega
                have HOD1 := Lib.hid (HOD.out m (Nat.le_refl _) (by omega))
                clear HOD HOS HOF HORG3
                generalize hMM : A + bs = MM at *
                generalize hBB : A + 2 * bs = BB at *
                generalize hB2 : 2 * bs = B2 at *
                go_wp2_with fail
                refine (HSY.out A MM m S1 wr (by omega) (by omega) (by omega) HO1.out HM1.out HG1.out (fun p q h1 h2 h3 => HQ1.out p q h1 h2 (by omega)) (fun p q h1 h2 h3 => HQ2.out p q h1 h2 (by omega)) HOD1.out).mono ?_
                rintro e w2 ⟨rfl, S2, ho2, hm2, hs2, hg2⟩
                go_wp2_with fail
                go_roundw
                case rel => exact FIN.out S2 w2 ho2 hm2 hs2 (gtrans HG1.out hg2)
                case measure => simp [intOf]; omega
              · have hI2 : ¬ ((A + bs : Nat) : Int) < m := by omega
                clear HOD HOS HOF HORG3
                generalize hMM : A + bs = MM at *
                generalize hBB : A + 2 * bs = BB at *
                generalize hB2 : 2 * bs = B2 at *
                go_wp2_with fail
                go_roundw
                case rel => exact FIN.out S1 wr HO1.out (Mov.refl _ _ _) (fun p q h1 h2 h3 => HQ1.out p q h1 h2 (by omega)) HG1.out
                case measure => simp [intOf]; omega
        · go_wp2_with fail
          go_end0
          refine ⟨rfl, S3, HO3.out, HM3.out, ?_, HG3.out⟩
          have := HS3.out 0
          intro p q e1 e2 e3
          exact this p q (by omega) e2 (by omega)
set_option maxHeartbeats 2000000 in
theorem sort_any (T : Nat → Itm) (base gd m cap pc n : Nat) (f : Nat → Nat) (S : List Nat) (w : World) (hO : SnO T w base gd m cap S) (hx : ∀ x ∈ S, x < n) (hC : CmpOk T w gd pc n f) (hm : m ≤ 1000) (hinc : ∀ p q, p < q → q < m → at0 S p < at0 S q) (hsym : 20 < m → SymOk T base gd m cap pc n f) :
    Calls Tryz.prog 51 #[.slice (some ⟨gd, 0, none⟩) m cap, .func (.func 52) #[] #[]] w
      fun e w' => e = .returned (.tuple #[]) ∧ ∃ S', SnO T w' base gd m cap S' ∧ Mov 0 m S S' ∧ SrtOn f 0 m S' ∧ w.grownBy w' (some gd) := by
  have H := Lib.hid (stable_any T base gd m cap pc n f S w hO hx hC hm hinc hsym)
  clear hO hx hC hsym hinc
  go_enter Tryz.func51, Tryz.ntmps51
  go_wp2_with fail
  refine (H.out).mono ?_
  rintro e w2 ⟨rfl, h⟩
  go_wp2_with fail
  go_end0
  exact ⟨rfl, h⟩
end Go.Proofs.YtpkhpaklhfomkaaGreatDoor.Is
