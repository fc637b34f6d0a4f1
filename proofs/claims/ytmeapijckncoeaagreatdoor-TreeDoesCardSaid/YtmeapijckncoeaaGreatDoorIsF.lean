/-
  A stable sort of items: symMerge, whole.
-/
import Derived.Test.YtmeapijckncoeaaGreatDoorPkBB
import Derived.Test.YtmeapijckncoeaaGreatDoorPkBC
import Derived.Test.YtmeapijckncoeaaGreatDoorIsG
namespace Go.Proofs.YtmeapijckncoeaaGreatDoor.Is
set_option maxRecDepth 100000
set_option linter.unusedSimpArgs false
set_option linter.unusedVariables false
open Go.RowKit Go.Joins Go.Deep
set_option maxRecDepth 100000 in
set_option maxHeartbeats 16000000 in
theorem sym_gen (T : Nat → Itm) (base gd m cap a c b pc n : Nat) (f : Nat → Nat) (S : List Nat) (w : World) (hO : SnO T w base gd m cap S) (hx : ∀ x ∈ S, x < n) (hC : CmpOk T w gd pc n f) (hac : a + 2 ≤ c) (hcb : c + 2 ≤ b) (hb : b ≤ m) (hm : m ≤ 1000000) (hL : SrtOn f a c S) (hR : SrtOn f c b S) (hord : Ord a c b S)
    (IH : ∀ (a' c' b' : Nat) (S' : List Nat) (w' : World), b' - a' < b - a → a' < c' → c' < b' → b' ≤ m → SnO T w' base gd m cap S' → (∀ x ∈ S', x < n) → CmpOk T w' gd pc n f → SrtOn f a' c' S' → SrtOn f c' b' S' → Ord a' c' b' S' →
      Calls Tryz.prog 85 #[.slice (some ⟨gd, 0, none⟩) m cap, .int .i64 (a' : Nat), .int .i64 (c' : Nat), .int .i64 (b' : Nat), .func (.func 44) #[] #[]] w'
        fun e w'' => e = .returned (.tuple #[]) ∧ ∃ S'', SnO T w'' base gd m cap S'' ∧ Mov a' b' S' S'' ∧ SrtOn f a' b' S'' ∧ w'.grownBy w'' (some gd)) :
    Calls Tryz.prog 85 #[.slice (some ⟨gd, 0, none⟩) m cap, .int .i64 (a : Nat), .int .i64 (c : Nat), .int .i64 (b : Nat), .func (.func 44) #[] #[]] w
      fun e w' => e = .returned (.tuple #[]) ∧ ∃ S', SnO T w' base gd m cap S' ∧ Mov a b S S' ∧ SrtOn f a b S' ∧ w.grownBy w' (some gd) := by
  have HX : Hid (∀ k, k < m → at0 S k < n) := fun k hk => by
    have hl : S.length = m := hO.1
    refine hx _ ?_
    rw [at0, List.getElem?_eq_getElem (by omega)]
    exact List.getElem_mem _
  obtain ⟨mid, hmid⟩ : ∃ mid, mid = (a + b) / 2 := ⟨_, rfl⟩
  obtain ⟨N, hN⟩ : ∃ N, N = mid + c := ⟨_, rfl⟩
  have ham : a < mid := by omega
  have hmb : mid < b := by omega
  have hm2 : 2 * mid ≤ a + b := by omega
  have hm3 : a + b ≤ 2 * mid + 1 := by omega
  -- what both recursive calls, and the rotation, do
  have HIH : Hid (∀ (a' c' b' : Nat) (S' : List Nat) (w' : World), b' - a' < b - a → a' < c' → c' < b' → b' ≤ m → SnO T w' base gd m cap S' → Mov a b S S' → w.grownBy w' (some gd) → SrtOn f a' c' S' → SrtOn f c' b' S' → Ord a' c' b' S' →
      Calls Tryz.prog 85 #[.slice (some ⟨gd, 0, none⟩) m cap, .int .i64 (a' : Nat), .int .i64 (c' : Nat), .int .i64 (b' : Nat), .func (.func 44) #[] #[]] w'
        fun e w'' => e = .returned (.tuple #[]) ∧ ∃ S'', SnO T w'' base gd m cap S'' ∧ Mov a' b' S' S'' ∧ SrtOn f a' b' S'' ∧ w'.grownBy w'' (some gd)) :=
    fun a' c' b' S' w' h1 h2 h3 h4 h5 h6 h7 h8 h9 h10 => IH a' c' b' S' w' h1 h2 h3 h4 h5 (h6.all hx) (hC.grown h7) h8 h9 h10
  have HROT : Hid (∀ s e w1, SnO T w1 base gd m cap S → s < c → c < e → e ≤ b → Calls Tryz.prog 102 #[.slice (some ⟨gd, 0, none⟩) m cap, .int .i64 (s : Nat), .int .i64 (c : Nat), .int .i64 (e : Nat), .func (.func 44) #[] #[]] w1
      fun e' w' => e' = .returned (.tuple #[]) ∧ ∃ S', SnO T w' base gd m cap S' ∧ Mov s e S S' ∧ (∀ k, at0 S' k = at0 S (rotI s c e k)) ∧ w1.grownBy w' (some gd)) :=
    fun s e w1 ho h1 h2 h3 => rotate_any T base gd m cap s c e _ S w1 ho h1 h2 (by omega) hm ⟨_, _, _, rfl⟩
  obtain ⟨cm, hcm, hC⟩ := hC
  have HCI := Lib.hid hcm
  have HORD := Lib.hid hord
  clear hcm hord
  have HC := Lib.hid hC
  have HO := Lib.hid hO
  have HL := Lib.hid hL
  have HR := Lib.hid hR
  have HN := Lib.hid hN
  have hN1 : N ≤ mid + c := by omega
  have hN2 : mid + c ≤ N := by omega
  clear hC hx hO hL hR IH hN HN
  have v0 : IntKind.i64.wrap ((c : Int) - (a : Int)) = ((c - a : Nat) : Int) := by rw [IntKind.wrap_i64]; omega
  have v1 : IntKind.i64.wrap ((b : Int) - (c : Int)) = ((b - c : Nat) : Int) := by rw [IntKind.wrap_i64]; omega
  have v2 : (((c - a : Nat) : Int) == 1) = false := by rw [beq_eq_false_iff_ne]; omega
  have v3 : ¬ ((c - a : Nat) : Int) = 1 := by omega
  have v4 : ¬ (c - a) = 1 := by omega
  have v5 : (((b - c : Nat) : Int) == 1) = false := by rw [beq_eq_false_iff_ne]; omega
  have v6 : ¬ ((b - c : Nat) : Int) = 1 := by omega
  have v7 : ¬ (b - c) = 1 := by omega
  have hNb : N ≤ 2000000 := by omega
  have hmidI : ((a : Int) + (b : Int)) / 2 = (mid : Int) := by omega
  have w3 : IntKind.i64.wrap ((mid : Int) + (c : Int)) = (N : Int) := by rw [IntKind.wrap_i64]; omega
  have w5 : IntKind.i64.wrap ((N : Int) - 1) = ((N - 1 : Nat) : Int) := by rw [IntKind.wrap_i64]; omega
  clear hmid
  go_enter Tryz.func85, Tryz.ntmps85
  go_upto_if 140 with fail
  go_cut [20, 21] from 25 (fun vs vr wx => ∃ s0 r0, vs = .int .i64 (s0 : Nat) ∧ vr = .int .i64 (r0 : Nat) ∧ wx = w ∧ a ≤ s0 ∧ s0 ≤ r0 ∧ r0 ≤ c ∧ r0 ≤ mid ∧ (∀ q, s0 ≤ q → q < r0 → c ≤ N - 1 - q ∧ N - 1 - q < b) ∧ (s0 = a ∨ N - s0 = b) ∧ (r0 = c ∨ r0 = mid) ∧ N - s0 ≤ b)
  case first => as_aux_lemma =>
    rcases Nat.lt_or_ge mid c with hcm | hcm
    · have w4 : IntKind.i64.wrap ((N : Int) - (b : Int)) = ((N - b : Nat) : Int) := by rw [IntKind.wrap_i64]; omega
      go_wp2_with fail
      go_meet
      exact ⟨N - b, mid, rfl, rfl, rfl, by omega, by omega, by omega, Nat.le_refl _, fun q h1 h2 => by omega, .inr (by omega), .inr rfl, by omega⟩
    · have hcmI : ¬ (mid : Int) < (c : Int) := by omega
      go_wp2_with fail
      go_meet
      exact ⟨a, c, rfl, rfl, rfl, Nat.le_refl _, by omega, Nat.le_refl _, by omega, fun q h1 h2 => by omega, .inl rfl, .inl rfl, by omega⟩
  case rest =>
    obtain ⟨s0, r0, hv1, hv2, hwc, k1, k2, k3, k4, k5, k6, k7, k8⟩ := hcut
    rw [hv1, hv2, hwc]
    clear hv1 hv2 hwc
    have K5 := Lib.hid k5
    have K6 := Lib.hid k6
    have K7 := Lib.hid k7
    clear k5 k6 k7
    go_upto_region 32 with fail
    go_wp2_with fail
    go_loopw [20, 21] (fun vi vj wr => ∃ i j, s0 ≤ i ∧ i ≤ j ∧ j ≤ r0 ∧ vi = .int .i64 (i : Nat) ∧ vj = .int .i64 (j : Nat) ∧ SnO T wr base gd m cap S ∧ w.grownBy wr (some gd) ∧ (∀ q, s0 ≤ q → q < i → f (at0 S q) ≤ f (at0 S (N - 1 - q))) ∧ (∀ q, j ≤ q → q < r0 → f (at0 S (N - 1 - q)) < f (at0 S q))) (fun vi vj _ => (intOf vj - intOf vi).toNat)
    case atStart => exact ⟨s0, r0, Nat.le_refl _, k2, Nat.le_refl _, rfl, rfl, HO.out, World.grownBy.refl _ _, fun q h1 h2 => by omega, fun q h1 h2 => by omega⟩
    case round =>
      obtain ⟨i, j, hsi, hij, hjr, rfl, rfl, ho2', hg2', hlo, hhi⟩ := hrel
      have HO2 := Lib.hid ho2'
      have HG2 := Lib.hid hg2'
      clear ho2' hg2'
      have HLO := Lib.hid hlo
      have HHI := Lib.hid hhi
      clear hlo hhi
      by_cases hlt : i < j
      · as_aux_lemma =>
        obtain ⟨h, hh⟩ : ∃ h, h = (i + j) / 2 := ⟨_, rfl⟩
        have hih : i ≤ h := by omega
        have hhj : h < j := by omega
        have hk5 := K5.out h (by omega) (by omega)
        have hc1 := HO2.out.c8 (N - 1 - h) (by omega)
        have hc2 := HO2.out.c8 h (by omega)
        have hq1 := HX.out (N - 1 - h) (by omega)
        have hq2 := HX.out h (by omega)
        have HCM := Lib.hid (fun w1 hg1 => HC.out w1 hg1 _ _ hq1 hq2)
        have HKO := Lib.hid (fun (w1 : World) (hb : Below wr.heap.size wr w1) => HO2.out.below hb)
        have HBW : Hid (∀ w1 : World, Below wr.heap.size wr w1 → C8 w1 gd ((N - 1 - h) * 8) (T (at0 S (N - 1 - h))) ∧ C8 w1 gd (h * 8) (T (at0 S h))) := fun w1 hb => ⟨(HO2.out.below hb).c8 (N - 1 - h) (by omega), (HO2.out.below hb).c8 h (by omega)⟩
        have hk5a : c ≤ N - 1 - h := by omega
        have hk5b : N - 1 - h < b := by omega
        have HCC := Lib.hid (HCI.out _ _ hq1 hq2 (HORD.out h (N - 1 - h) (by omega) (by omega) hk5a hk5b))
        clear hk5a hk5b
        have HUP : Hid (¬ f (at0 S (N - 1 - h)) < f (at0 S h) → ∀ q, s0 ≤ q → q < h + 1 → f (at0 S q) ≤ f (at0 S (N - 1 - q))) := fun hlt2 q h1 h2 =>
          Nat.le_trans (HL.out q h (by omega) (by omega) (by omega)) (Nat.le_trans (by omega) (HR.out (N - 1 - h) (N - 1 - q) (by omega) (by omega) (by have := K5.out q (by omega) (by omega); omega)))
        have HDN : Hid (f (at0 S (N - 1 - h)) < f (at0 S h) → ∀ q, h ≤ q → q < r0 → f (at0 S (N - 1 - q)) < f (at0 S q)) := fun hlt2 q h1 h2 =>
          Nat.lt_of_le_of_lt (HR.out (N - 1 - q) (N - 1 - h) (by have := K5.out q (by omega) (by omega); omega) (by omega) (by omega)) (Nat.lt_of_lt_of_le hlt2 (HL.out h q (by omega) h1 (by omega)))
        go_upto_region 35 with fail
        rw [show ((i : Int) + (j : Int)) / 2 = ((h : Nat) : Int) by omega]
        have w6 : IntKind.i64.wrap (((N - 1 : Nat) : Int) - (h : Int)) = ((N - 1 - h : Nat) : Int) := by rw [IntKind.wrap_i64]; omega
        clear hh
        generalize hx1 : at0 S (N - 1 - h) = x at *
        generalize hx2 : at0 S h = y at *
        clear hx1 hx2
        simp only [Itm.cells] at HCM
        obtain ⟨p0, p1, p2, p3, p4, p5, p6, p7⟩ := hc1
        obtain ⟨q0, q1, q2, q3, q4, q5, q6, q7⟩ := hc2
        have k0 : wr.cell? ⟨gd, ((N - 1 - h)) * 8, none⟩ = some (.string (T x).s) ∧ wr.cell? ⟨gd, ((N - 1 - h)) * 8 + 1, none⟩ = some (.int .i64 (T x).k) ∧ wr.cell? ⟨gd, ((N - 1 - h)) * 8 + 2, none⟩ = some (.int .u32 (T x).m) ∧ wr.cell? ⟨gd, ((N - 1 - h)) * 8 + 3, none⟩ = some (.int .u32 (T x).u) ∧ wr.cell? ⟨gd, ((N - 1 - h)) * 8 + 4, none⟩ = some (.int .u32 (T x).g) ∧ wr.cell? ⟨gd, ((N - 1 - h)) * 8 + 5, none⟩ = some (.int .i64 (T x).t) ∧ wr.cell? ⟨gd, ((N - 1 - h)) * 8 + 6, none⟩ = some (.int .i64 (T x).a) ∧ wr.cell? ⟨gd, ((N - 1 - h)) * 8 + 7, none⟩ = some (.string (T x).d) ∧ wr.cell? ⟨gd, h * 8, none⟩ = some (.string (T y).s) ∧ wr.cell? ⟨gd, h * 8 + 1, none⟩ = some (.int .i64 (T y).k) ∧ wr.cell? ⟨gd, h * 8 + 2, none⟩ = some (.int .u32 (T y).m) ∧ wr.cell? ⟨gd, h * 8 + 3, none⟩ = some (.int .u32 (T y).u) ∧ wr.cell? ⟨gd, h * 8 + 4, none⟩ = some (.int .u32 (T y).g) ∧ wr.cell? ⟨gd, h * 8 + 5, none⟩ = some (.int .i64 (T y).t) ∧ wr.cell? ⟨gd, h * 8 + 6, none⟩ = some (.int .i64 (T y).a) ∧ wr.cell? ⟨gd, h * 8 + 7, none⟩ = some (.string (T y).d) := ⟨p0, p1, p2, p3, p4, p5, p6, p7, q0, q1, q2, q3, q4, q5, q6, q7⟩
        have hbp : ((N - 1 - h : Nat) : Int) < (m : Int) := by omega
        have hbq : (h : Int) < (m : Int) := by omega
        go_region_held3 (fun w' => w'.cell? ⟨gd, ((N - 1 - h)) * 8, none⟩ = some (.string (T x).s) ∧ w'.cell? ⟨gd, ((N - 1 - h)) * 8 + 1, none⟩ = some (.int .i64 (T x).k) ∧ w'.cell? ⟨gd, ((N - 1 - h)) * 8 + 2, none⟩ = some (.int .u32 (T x).m) ∧ w'.cell? ⟨gd, ((N - 1 - h)) * 8 + 3, none⟩ = some (.int .u32 (T x).u) ∧ w'.cell? ⟨gd, ((N - 1 - h)) * 8 + 4, none⟩ = some (.int .u32 (T x).g) ∧ w'.cell? ⟨gd, ((N - 1 - h)) * 8 + 5, none⟩ = some (.int .i64 (T x).t) ∧ w'.cell? ⟨gd, ((N - 1 - h)) * 8 + 6, none⟩ = some (.int .i64 (T x).a) ∧ w'.cell? ⟨gd, ((N - 1 - h)) * 8 + 7, none⟩ = some (.string (T x).d) ∧ w'.cell? ⟨gd, h * 8, none⟩ = some (.string (T y).s) ∧ w'.cell? ⟨gd, h * 8 + 1, none⟩ = some (.int .i64 (T y).k) ∧ w'.cell? ⟨gd, h * 8 + 2, none⟩ = some (.int .u32 (T y).m) ∧ w'.cell? ⟨gd, h * 8 + 3, none⟩ = some (.int .u32 (T y).u) ∧ w'.cell? ⟨gd, h * 8 + 4, none⟩ = some (.int .u32 (T y).g) ∧ w'.cell? ⟨gd, h * 8 + 5, none⟩ = some (.int .i64 (T y).t) ∧ w'.cell? ⟨gd, h * 8 + 6, none⟩ = some (.int .i64 (T y).a) ∧ w'.cell? ⟨gd, h * 8 + 7, none⟩ = some (.string (T y).d)) (first | exact k0 | exact k1) ((go_at_call 44; (with_reducible refine (HCM.out _ ?_).mono ?_); exact ⟨HG2.out.os, HG2.out.tape, HG2.out.output, HG2.out.size, HG2.out.block⟩; rintro e w6 ⟨rfl, hb6⟩; have k1 := and16 (HBW.out w6 (by exact ⟨hb6.os, hb6.tape, hb6.output, hb6.size, hb6.block⟩))))
        have HO6 := Lib.hid (HKO.out w6 (by exact ⟨hb6.os, hb6.tape, hb6.output, hb6.size, hb6.block⟩))
        have HG6 : Hid (w.grownBy w6 (some gd)) := gbel HG2.out (by exact ⟨hb6.os, hb6.tape, hb6.output, hb6.size, hb6.block⟩)
        clear hb6 HBW HKO k0 k1 p0 p1 p2 p3 p4 p5 p6 p7 q0 q1 q2 q3 q4 q5 q6 q7
        by_cases hfx : f x < f y
        · have hc := HCC.out.2 hfx
          have hcd : decide (cm x y < 0) = true := decide_eq_true hc
          go_wp2_with fail
          any_goals (rename_i hz; exfalso; rw [hcd] at hz; cases hz; done)
          go_roundw
          case rel => exact ⟨i, h, hsi, by omega, by omega, rfl, rfl, HO6.out, HG6.out, HLO.out, HDN.out hfx⟩
          case measure => simp [intOf]; omega
        · have hc : ¬ cm x y < 0 := fun h => hfx (HCC.out.1 h)
          have hcd : decide (cm x y < 0) = false := decide_eq_false hc
          go_wp2_with fail
          any_goals (rename_i hz; exfalso; rw [hcd] at hz; cases hz; done)
          go_roundw
          case rel => exact ⟨h + 1, j, by omega, by omega, hjr, by go_num, rfl, HO6.out, HG6.out, HUP.out hfx, HHI.out⟩
          case measure => simp [intOf]; omega
      · obtain rfl : i = j := by omega
        obtain ⟨e, he⟩ : ∃ e, e = N - i := ⟨_, rfl⟩
        have hew : IntKind.i64.wrap ((N : Int) - (i : Int)) = (e : Int) := by rw [IntKind.wrap_i64]; omega
        have hes : e + i = mid + c := by omega
        have hce : c ≤ e := by omega
        have heb : e ≤ b := by omega
        have hai : a ≤ i := by omega
        have hic : i ≤ c := by omega
        have him : i ≤ mid := by omega
        have hme : mid ≤ e := by omega
        have P1 : i = a ∨ e = b ∨ f (at0 S (i - 1)) ≤ f (at0 S e) := by
          rcases Nat.lt_or_ge s0 i with h | h
          · right; right
            have := HLO.out (i - 1) (by omega) (by omega)
            rwa [show N - 1 - (i - 1) = e by omega] at this
          · rcases K6.out with h2 | h2
            · left; omega
            · right; left; omega
        have P2 : i = c ∨ e = c ∨ f (at0 S (e - 1)) < f (at0 S i) := by
          rcases Nat.lt_or_ge i r0 with h | h
          · right; right
            have := HHI.out i (Nat.le_refl _) h
            rwa [show N - 1 - i = e - 1 by omega] at this
          · rcases K7.out with h2 | h2
            · left; omega
            · right; left; omega
        have HP := Lib.hid (fun S1 (h : ∀ k, at0 S1 k = at0 S (rotI i c e k)) => sym_parts HL.out HR.out hai hic hce heb hes P1 P2 h)
        have HPO := Lib.hid (fun S1 (h : ∀ k, at0 S1 k = at0 S (rotI i c e k)) => sym_ord HORD.out hai hic hce heb hes h)
        clear P1 P2 he
        go_upto_region 39 with fail
        go_cut [185] from 25 (fun v wx => v = .bool (decide (i < c ∧ c < e)) ∧ wx = wr)
        case first => as_aux_lemma =>
          by_cases q1 : i < c
          · by_cases q2 : c < e
            · go_wp2_with fail
              go_meet
              exact ⟨by simp [q1, q2], rfl⟩
            · go_wp2_with fail
              go_meet
              exact ⟨by simp [q1, q2], rfl⟩
          · go_wp2_with fail
            go_meet
            exact ⟨by simp [q1], rfl⟩
        case rest =>
          obtain ⟨hv1, hwc⟩ := hcut
          rw [hv1, hwc]
          clear hv1 hwc
          go_upto_if 185 with fail
          go_cut [] from 25 (fun wx => ∃ S1, SnO T wx base gd m cap S1 ∧ Mov a b S S1 ∧ (∀ k, at0 S1 k = at0 S (rotI i c e k)) ∧ w.grownBy wx (some gd))
          case first => as_aux_lemma =>
            by_cases hr : i < c ∧ c < e
            · have HRC := Lib.hid (HROT.out i e wr HO2.out hr.1 hr.2 (by omega))
              have hd : decide (i < c ∧ c < e) = true := decide_eq_true hr
              go_wp2_with fail
              refine (HRC.out).mono ?_
              rintro e' w3 ⟨rfl, S1, ho1, hm1, hat1, hg1⟩
              go_wp2_with fail
              go_meet
              exact ⟨S1, ho1, hm1.wide (by omega) (by omega), hat1, gtrans HG2.out hg1⟩
            · have hd : decide (i < c ∧ c < e) = false := decide_eq_false hr
              go_wp2_with fail
              go_meet
              exact ⟨S, HO2.out, Mov.refl _ _ _, fun k => by rw [rotI_id _ _ _ _ (by omega)], HG2.out⟩
          case rest =>
            obtain ⟨S1, ho1, hm1, hat1, hg1⟩ := hcut
            obtain ⟨p1, p2, p3, p4, p5⟩ := HP.out S1 hat1
            obtain ⟨p6, p7⟩ := HPO.out S1 hat1
            have HP6 := Lib.hid p6
            have HP7 := Lib.hid p7
            clear p6 p7
            have HO1 := Lib.hid ho1
            have HM1 := Lib.hid hm1
            have HG1 := Lib.hid hg1
            have HP1 := Lib.hid p1
            have HP2 := Lib.hid p2
            have HP3 := Lib.hid p3
            have HP4 := Lib.hid p4
            have HP5 := Lib.hid p5
            clear ho1 hm1 hat1 hg1 p1 p2 p3 p4 p5
            generalize wc = w3 at *
            go_upto_region 41 with fail
            go_cut [199] from 25 (fun v wx => v = .bool (decide (a < i ∧ i < mid)) ∧ wx = w3)
            case first => as_aux_lemma =>
              by_cases q1 : a < i
              · by_cases q2 : i < mid
                · go_wp2_with fail
                  go_meet
                  exact ⟨by simp [q1, q2], rfl⟩
                · go_wp2_with fail
                  go_meet
                  exact ⟨by simp [q1, q2], rfl⟩
              · go_wp2_with fail
                go_meet
                exact ⟨by simp [q1], rfl⟩
            case rest =>
              obtain ⟨hv1, hwc⟩ := hcut
              rw [hv1, hwc]
              clear hv1 hwc
              go_upto_if 199 with fail
              go_cut [] from 25 (fun wx => ∃ S2, SnO T wx base gd m cap S2 ∧ Mov a mid S1 S2 ∧ SrtOn f a mid S2 ∧ w.grownBy wx (some gd))
              case first => as_aux_lemma =>
                by_cases hr : a < i ∧ i < mid
                · have HRC := Lib.hid (HIH.out a i mid S1 w3 (by omega) hr.1 hr.2 (by omega) HO1.out HM1.out HG1.out HP1.out HP2.out HP6.out)
                  have hd : decide (a < i ∧ i < mid) = true := decide_eq_true hr
                  go_wp2_with fail
                  refine (HRC.out).mono ?_
                  rintro e' w4 ⟨rfl, S2, ho2, hm2, hs2, hg2⟩
                  go_wp2_with fail
                  go_meet
                  exact ⟨S2, ho2, hm2, hs2, gtrans HG1.out hg2⟩
                · have hd : decide (a < i ∧ i < mid) = false := decide_eq_false hr
                  have hs1 : SrtOn f a mid S1 := by
                    rcases Nat.lt_or_ge a i with h | h
                    · rw [show mid = i by omega]; exact HP1.out
                    · rw [show a = i by omega]; exact HP2.out
                  have HS1 := Lib.hid hs1
                  clear hs1
                  go_wp2_with fail
                  go_meet
                  exact ⟨S1, HO1.out, Mov.refl _ _ _, HS1.out, HG1.out⟩
              case rest =>
                obtain ⟨S2, ho2, hm2', hs2, hg2⟩ := hcut
                have HO3 := Lib.hid ho2
                have HM2 := Lib.hid hm2'
                have HS2 := Lib.hid hs2
                have HG3 := Lib.hid hg2
                have HQ3 := Lib.hid (hm2'.srt (.inr (Nat.le_refl _)) HP3.out)
                have HQ4 := Lib.hid (hm2'.srt (.inr hme) HP4.out)
                have HQ7 : Hid (Ord mid e b S2) := fun p q h1 h2 h3 h4 => by rw [hm2'.out p (by omega), hm2'.out q (by omega)]; exact HP7.out p q h1 h2 h3 h4
                clear ho2 hm2' hs2 hg2
                generalize wc = w4 at *
                go_upto_region 43 with fail
                go_cut [213] from 25 (fun v wx => v = .bool (decide (mid < e ∧ e < b)) ∧ wx = w4)
                case first => as_aux_lemma =>
                  by_cases q1 : mid < e
                  · by_cases q2 : e < b
                    · go_wp2_with fail
                      go_meet
                      exact ⟨by simp [q1, q2], rfl⟩
                    · go_wp2_with fail
                      go_meet
                      exact ⟨by simp [q1, q2], rfl⟩
                  · go_wp2_with fail
                    go_meet
                    exact ⟨by simp [q1], rfl⟩
                case rest =>
                  obtain ⟨hv1, hwc⟩ := hcut
                  rw [hv1, hwc]
                  clear hv1 hwc
                  by_cases hr : mid < e ∧ e < b
                  · as_aux_lemma =>
                    have HRC := Lib.hid (HIH.out mid e b S2 w4 (by omega) hr.1 hr.2 hb HO3.out (HM1.out.trans (HM2.out.wide (Nat.le_refl _) (by omega))) HG3.out HQ3.out HQ4.out HQ7.out)
                    have hd : decide (mid < e ∧ e < b) = true := decide_eq_true hr
                    go_wp2_with fail
                    refine (HRC.out).mono ?_
                    rintro e' w5 ⟨rfl, S3, ho3, hm3', hs3, hg3⟩
                    have HFIN := Lib.hid (sym_join (by omega) (by omega) HM1.out HM2.out HS2.out hm3' hs3 HP5.out)
                    go_wp2_with fail
                    go_end0
                    exact ⟨rfl, S3, ho3, HFIN.out.1, HFIN.out.2, gtrans HG3.out hg3⟩
                  · as_aux_lemma =>
                    have hd : decide (mid < e ∧ e < b) = false := decide_eq_false hr
                    have hs3 : SrtOn f mid b S2 := by
                      rcases Nat.lt_or_ge mid e with h | h
                      · rw [show b = e by omega]; exact HQ3.out
                      · rw [show mid = e by omega]; exact HQ4.out
                    have HFIN := Lib.hid (sym_join (by omega) (by omega) HM1.out HM2.out HS2.out (Mov.refl _ _ _) hs3 HP5.out)
                    clear hs3
                    go_wp2_with fail
                    go_end0
                    exact ⟨rfl, S2, HO3.out, HFIN.out.1, HFIN.out.2, HG3.out⟩
/-- symMerge, whole. -/
theorem sym_ok (T : Nat → Itm) (base gd m cap pc n : Nat) (f : Nat → Nat) (hm : m ≤ 1000000) : SymOk T base gd m cap pc n f := by
  have key : ∀ k (a c b : Nat) (S : List Nat) (w : World), b - a ≤ k → a < c → c < b → b ≤ m → SnO T w base gd m cap S → (∀ x ∈ S, x < n) → CmpOk T w gd pc n f → SrtOn f a c S → SrtOn f c b S → Ord a c b S →
      Calls Tryz.prog 85 #[.slice (some ⟨gd, 0, none⟩) m cap, .int .i64 (a : Nat), .int .i64 (c : Nat), .int .i64 (b : Nat), .func (.func 44) #[] #[]] w
        fun e w' => e = .returned (.tuple #[]) ∧ ∃ S', SnO T w' base gd m cap S' ∧ Mov a b S S' ∧ SrtOn f a b S' ∧ w.grownBy w' (some gd) := by
    intro k
    induction k with
    | zero => intro a c b S w hk hac hcb; omega
    | succ k ih =>
      intro a c b S w hk hac hcb hb hO hx hC hL hR hord
      by_cases h1 : c = a + 1
      · exact sym_one T base gd m cap a c b pc n f S w hO hx hC h1 hcb hb hm hR hord
      · by_cases h2 : b = c + 1
        · exact sym_two T base gd m cap a c b pc n f S w hO hx hC (by omega) h2 hb hm hL hord
        · exact sym_gen T base gd m cap a c b pc n f S w hO hx hC (by omega) (by omega) hb hm hL hR hord fun a' c' b' S' w' g1 g2 g3 g4 g5 g6 g7 g8 g9 g10 => ih a' c' b' S' w' (by omega) g2 g3 g4 g5 g6 g7 g8 g9 g10
  intro a c b S w h1 h2 h3 h4 h5 h6 h7 h8 h9
  exact key (b - a) a c b S w (Nat.le_refl _) h1 h2 h3 h4 h5 h6 h7 h8 h9
end Go.Proofs.YtmeapijckncoeaaGreatDoor.Is
