/-
  Places sorted by byPath's closure: symMerge whole.
-/
import Derived.Test.YtijfcmlgohbndaaGreatDoorBpB
namespace Go.Proofs.YtijfcmlgohbndaaGreatDoor.Bp
set_option maxRecDepth 100000
set_option linter.unusedSimpArgs false
set_option linter.unusedVariables false
open Go.RowKit
theorem rotI_1 (s c e k : Nat) (h : k < s) (_ : s ≤ c) : rotI s c e k = k := by unfold rotI; (repeat' split) <;> omega
theorem rotI_2 (s c e k : Nat) (h1 : s ≤ k) (h2 : k < s + (e - c)) : rotI s c e k = c + (k - s) := by unfold rotI; rw [if_pos ⟨h1, h2⟩]
theorem rotI_3 (s c e k : Nat) (h1 : s + (e - c) ≤ k) (h2 : k < e) : rotI s c e k = k - (e - c) := by unfold rotI; rw [if_neg (by omega), if_pos ⟨h1, h2⟩]
theorem rotI_4 (s c e k : Nat) (h : e ≤ k) (hs : s ≤ c) (he : c ≤ e) : rotI s c e k = k := by unfold rotI; (repeat' split) <;> omega
theorem rotI_id (s c e k : Nat) (h : s = c ∨ e = c) : rotI s c e k = k := by unfold rotI; (repeat' split) <;> omega

/-- Behind the rotation: four sorted parts, and nothing on the left above the right. -/
theorem sym_parts {f : Nat → Nat} {a c b s e mid : Nat} {S S1 : List Nat} (hL : SrtOn f a c S) (hR : SrtOn f c b S) (has : a ≤ s) (hsc : s ≤ c) (hce : c ≤ e) (heb : e ≤ b) (hse : e + s = mid + c)
    (h1 : s = a ∨ e = b ∨ f (at0 S (s - 1)) ≤ f (at0 S e)) (h2 : s = c ∨ e = c ∨ f (at0 S (e - 1)) < f (at0 S s)) (hrot : ∀ k, at0 S1 k = at0 S (rotI s c e k)) :
    SrtOn f a s S1 ∧ SrtOn f s mid S1 ∧ SrtOn f mid e S1 ∧ SrtOn f e b S1 ∧ ∀ i j, a ≤ i → i < mid → mid ≤ j → j < b → f (at0 S1 i) ≤ f (at0 S1 j) := by
  refine ⟨fun i j g1 g2 g3 => ?_, fun i j g1 g2 g3 => ?_, fun i j g1 g2 g3 => ?_, fun i j g1 g2 g3 => ?_, fun i j g1 g2 g3 g4 => ?_⟩
  · rw [hrot, hrot, rotI_1 _ _ _ _ (by omega) hsc, rotI_1 _ _ _ _ g3 hsc]
    exact hL _ _ g1 g2 (by omega)
  · rw [hrot, hrot, rotI_2 _ _ _ _ g1 (by omega), rotI_2 _ _ _ _ (by omega) (by omega)]
    exact hR _ _ (by omega) (by omega) (by omega)
  · rw [hrot, hrot, rotI_3 _ _ _ _ (by omega) (by omega), rotI_3 _ _ _ _ (by omega) g3]
    exact hL _ _ (by omega) (by omega) (by omega)
  · rw [hrot, hrot, rotI_4 _ _ _ _ (by omega) hsc hce, rotI_4 _ _ _ _ (by omega) hsc hce]
    exact hR _ _ (by omega) g2 g3
  · rw [hrot, hrot]
    by_cases ei : i < s
    · rw [rotI_1 _ _ _ _ ei hsc]
      by_cases ej : j < e
      · rw [rotI_3 _ _ _ _ (by omega) ej]
        exact hL _ _ g1 (by omega) (by omega)
      · rw [rotI_4 _ _ _ _ (by omega) hsc hce]
        rcases h1 with h | h | h
        · omega
        · omega
        · exact Nat.le_trans (hL i (s - 1) g1 (by omega) (by omega)) (Nat.le_trans h (hR e j hce (by omega) g4))
    · rw [rotI_2 _ _ _ _ (by omega) (by omega)]
      by_cases ej : j < e
      · rw [rotI_3 _ _ _ _ (by omega) ej]
        rcases h2 with h | h | h
        · omega
        · omega
        · exact Nat.le_of_lt (Nat.lt_of_le_of_lt (hR (c + (i - s)) (e - 1) (by omega) (by omega) (by omega)) (Nat.lt_of_lt_of_le h (hL s (j - (e - c)) has (by omega) (by omega))))
      · rw [rotI_4 _ _ _ _ (by omega) hsc hce]
        exact hR _ _ (by omega) (by omega) g4
theorem sym_ord {a c b s e mid : Nat} {S S1 : List Nat} (ho : Ord a c b S) (has : a ≤ s) (hsc : s ≤ c) (hce : c ≤ e) (heb : e ≤ b) (hse : e + s = mid + c) (hrot : ∀ k, at0 S1 k = at0 S (rotI s c e k)) :
    Ord a s mid S1 ∧ Ord mid e b S1 := by
  refine ⟨fun i j h1 h2 h3 h4 => ?_, fun i j h1 h2 h3 h4 => ?_⟩
  · rw [hrot, hrot, rotI_1 _ _ _ _ h2 hsc, rotI_2 _ _ _ _ h3 (by omega)]
    exact ho _ _ h1 (by omega) (by omega) (by omega)
  · rw [hrot, hrot, rotI_3 _ _ _ _ (by omega) h2, rotI_4 _ _ _ _ h3 hsc hce]
    exact ho _ _ (by omega) (by omega) (by omega) h4
/-- The halves sorted, all is. -/
theorem sym_join {f : Nat → Nat} {a b mid : Nat} {S S1 S2 S3 : List Nat} (ham : a ≤ mid) (hmb : mid ≤ b) (hm0 : Mov a b S S1) (hm1 : Mov a mid S1 S2) (hs1 : SrtOn f a mid S2) (hm2 : Mov mid b S2 S3) (hs2 : SrtOn f mid b S3)
    (hx : ∀ i j, a ≤ i → i < mid → mid ≤ j → j < b → f (at0 S1 i) ≤ f (at0 S1 j)) : Mov a b S S3 ∧ SrtOn f a b S3 := by
  refine ⟨(hm0.trans (hm1.wide (Nat.le_refl _) hmb)).trans (hm2.wide ham (Nat.le_refl _)), fun i j g1 g2 g3 => ?_⟩
  by_cases ej : j < mid
  · exact hm2.srt (.inl (Nat.le_refl _)) hs1 i j g1 g2 ej
  · by_cases ei : i < mid
    · obtain ⟨j', k1, k2, k3⟩ := hm2.ins j (by omega) g3
      obtain ⟨i', l1, l2, l3⟩ := hm1.ins i g1 ei
      rw [hm2.out i (by omega), l3, k3, hm1.out j' (by omega)]
      exact hx i' j' l1 l2 k1 k2
    · exact hs2 i j (by omega) g2 g3

set_option maxRecDepth 100000 in
set_option maxHeartbeats 16000000 in
theorem sym_genB (base gd m cap a c b pc n : Nat) (f : Nat → Nat) (S : List Nat) (w : World) (hO : SnO w base gd m cap S) (hx : ∀ x ∈ S, x < n) (hC : CmpOkB w gd pc n f) (hac : a + 2 ≤ c) (hcb : c + 2 ≤ b) (hb : b ≤ m) (hm : m ≤ 1000) (hL : SrtOn f a c S) (hR : SrtOn f c b S) (hord : Ord a c b S)
    (IH : ∀ (a' c' b' : Nat) (S' : List Nat) (w' : World), b' - a' < b - a → a' < c' → c' < b' → b' ≤ m → SnO w' base gd m cap S' → (∀ x ∈ S', x < n) → CmpOkB w' gd pc n f → SrtOn f a' c' S' → SrtOn f c' b' S' → Ord a' c' b' S' →
      Calls Tryz.prog 100 #[.slice (some ⟨gd, 0, none⟩) m cap, .int .i64 (a' : Nat), .int .i64 (c' : Nat), .int .i64 (b' : Nat), .func (.func 45) #[] #[.pointer (some ⟨pc, 0, none⟩)]] w'
        fun e w'' => e = .returned (.tuple #[]) ∧ ∃ S'', SnO w'' base gd m cap S'' ∧ Mov a' b' S' S'' ∧ SrtOn f a' b' S'' ∧ w'.grownBy w'' (some gd)) :
    Calls Tryz.prog 100 #[.slice (some ⟨gd, 0, none⟩) m cap, .int .i64 (a : Nat), .int .i64 (c : Nat), .int .i64 (b : Nat), .func (.func 45) #[] #[.pointer (some ⟨pc, 0, none⟩)]] w
      fun e w' => e = .returned (.tuple #[]) ∧ ∃ S', SnO w' base gd m cap S' ∧ Mov a b S S' ∧ SrtOn f a b S' ∧ w.grownBy w' (some gd) := by
  have HX : Hid (∀ k, k < m → at0 S k < n) := fun k hk => by
    have hl : S.length = m := hO.1
    refine hx _ ?_
    rw [at0, List.getElem?_eq_getElem (by omega)]
    exact List.getElem_mem _
  obtain ⟨mid, hmid⟩ : ∃ mid, mid = (a + b) / 2 := ⟨_, rfl⟩
  obtain ⟨N, hN⟩ : ∃ N, N = mid + c := ⟨_, rfl⟩
  have ham : a < mid := by omega
  have hmb : mid < b := by omega
  have hm2 : 2 * mid ≤ a + b := by omega
  have hm3 : a + b ≤ 2 * mid + 1 := by omega
  -- what both recursive calls, and the rotation, do
  have HIH : Hid (∀ (a' c' b' : Nat) (S' : List Nat) (w' : World), b' - a' < b - a → a' < c' → c' < b' → b' ≤ m → SnO w' base gd m cap S' → Mov a b S S' → w.grownBy w' (some gd) → SrtOn f a' c' S' → SrtOn f c' b' S' → Ord a' c' b' S' →
      Calls Tryz.prog 100 #[.slice (some ⟨gd, 0, none⟩) m cap, .int .i64 (a' : Nat), .int .i64 (c' : Nat), .int .i64 (b' : Nat), .func (.func 45) #[] #[.pointer (some ⟨pc, 0, none⟩)]] w'
        fun e w'' => e = .returned (.tuple #[]) ∧ ∃ S'', SnO w'' base gd m cap S'' ∧ Mov a' b' S' S'' ∧ SrtOn f a' b' S'' ∧ w'.grownBy w'' (some gd)) :=
    fun a' c' b' S' w' h1 h2 h3 h4 h5 h6 h7 h8 h9 h10 => IH a' c' b' S' w' h1 h2 h3 h4 h5 (h6.all hx) (hC.grown h7) h8 h9 h10
  have HROT : Hid (∀ s e w1, SnO w1 base gd m cap S → s < c → c < e → e ≤ b → Calls Tryz.prog 117 #[.slice (some ⟨gd, 0, none⟩) m cap, .int .i64 (s : Nat), .int .i64 (c : Nat), .int .i64 (e : Nat), .func (.func 45) #[] #[.pointer (some ⟨pc, 0, none⟩)]] w1
      fun e' w' => e' = .returned (.tuple #[]) ∧ ∃ S', SnO w' base gd m cap S' ∧ Mov s e S S' ∧ (∀ k, at0 S' k = at0 S (rotI s c e k)) ∧ w1.grownBy w' (some gd)) :=
    fun s e w1 ho h1 h2 h3 => rotate_anyB base gd m cap s c e _ S w1 ho h1 h2 (by omega) hm ⟨_, _, _, rfl⟩
  obtain ⟨cm, hcm, hC⟩ := hC
  have HCI := Lib.hid hcm
  have HORD := Lib.hid hord
  clear hcm hord
  have HC := Lib.hid hC
  have HO := Lib.hid hO
  have HL := Lib.hid hL
  have HR := Lib.hid hR
  have HN := Lib.hid hN
  have hN1 : N ≤ mid + c := by omega
  have hN2 : mid + c ≤ N := by omega
  clear hC hx hO hL hR IH hN HN
  have v0 : IntKind.i64.wrap ((c : Int) - (a : Int)) = ((c - a : Nat) : Int) := by rw [IntKind.wrap_i64]; omega
  have v1 : IntKind.i64.wrap ((b : Int) - (c : Int)) = ((b - c : Nat) : Int) := by rw [IntKind.wrap_i64]; omega
  have v2 : (((c - a : Nat) : Int) == 1) = false := by rw [beq_eq_false_iff_ne]; omega
  have v3 : ¬ ((c - a : Nat) : Int) = 1 := by omega
  have v4 : ¬ (c - a) = 1 := by omega
  have v5 : (((b - c : Nat) : Int) == 1) = false := by rw [beq_eq_false_iff_ne]; omega
  have v6 : ¬ ((b - c : Nat) : Int) = 1 := by omega
  have v7 : ¬ (b - c) = 1 := by omega
  have hNb : N ≤ 2000 := by omega
  have hmidI : ((a : Int) + (b : Int)) / 2 = (mid : Int) := by omega
  have w3 : IntKind.i64.wrap ((mid : Int) + (c : Int)) = (N : Int) := by rw [IntKind.wrap_i64]; omega
  have w5 : IntKind.i64.wrap ((N : Int) - 1) = ((N - 1 : Nat) : Int) := by rw [IntKind.wrap_i64]; omega
  clear hmid
  go_enter Tryz.func100, Tryz.ntmps100
  go_upto_if 140 with fail
  go_cut [20, 21] from 25 (fun vs vr wx => ∃ s0 r0, vs = .int .i64 (s0 : Nat) ∧ vr = .int .i64 (r0 : Nat) ∧ wx = w ∧ a ≤ s0 ∧ s0 ≤ r0 ∧ r0 ≤ c ∧ r0 ≤ mid ∧ (∀ q, s0 ≤ q → q < r0 → c ≤ N - 1 - q ∧ N - 1 - q < b) ∧ (s0 = a ∨ N - s0 = b) ∧ (r0 = c ∨ r0 = mid) ∧ N - s0 ≤ b)
  case first => as_aux_lemma =>
    rcases Nat.lt_or_ge mid c with hcm | hcm
    · have w4 : IntKind.i64.wrap ((N : Int) - (b : Int)) = ((N - b : Nat) : Int) := by rw [IntKind.wrap_i64]; omega
      go_wp2_with fail
      go_meet
      exact ⟨N - b, mid, rfl, rfl, rfl, by omega, by omega, by omega, Nat.le_refl _, fun q h1 h2 => by omega, .inr (by omega), .inr rfl, by omega⟩
    · have hcmI : ¬ (mid : Int) < (c : Int) := by omega
      go_wp2_with fail
      go_meet
      exact ⟨a, c, rfl, rfl, rfl, Nat.le_refl _, by omega, Nat.le_refl _, by omega, fun q h1 h2 => by omega, .inl rfl, .inl rfl, by omega⟩
  case rest =>
    obtain ⟨s0, r0, hv1, hv2, hwc, k1, k2, k3, k4, k5, k6, k7, k8⟩ := hcut
    rw [hv1, hv2, hwc]
    clear hv1 hv2 hwc
    have K5 := Lib.hid k5
    have K6 := Lib.hid k6
    have K7 := Lib.hid k7
    clear k5 k6 k7
    go_upto_region 32 with fail
    go_wp2_with fail
    go_loopw [20, 21] (fun vi vj wr => ∃ i j d, s0 ≤ i ∧ i ≤ j ∧ j ≤ r0 ∧ vi = .int .i64 (i : Nat) ∧ vj = .int .i64 (j : Nat) ∧ wr = w.drewN d ∧ (∀ q, s0 ≤ q → q < i → f (at0 S q) ≤ f (at0 S (N - 1 - q))) ∧ (∀ q, j ≤ q → q < r0 → f (at0 S (N - 1 - q)) < f (at0 S q))) (fun vi vj _ => (intOf vj - intOf vi).toNat)
    case atStart => exact ⟨s0, r0, 0, Nat.le_refl _, k2, Nat.le_refl _, rfl, rfl, rfl, fun q h1 h2 => by omega, fun q h1 h2 => by omega⟩
    case round =>
      obtain ⟨i, j, d, hsi, hij, hjr, rfl, rfl, rfl, hlo, hhi⟩ := hrel
      have HLO := Lib.hid hlo
      have HHI := Lib.hid hhi
      clear hlo hhi
      by_cases hlt : i < j
      · as_aux_lemma =>
        obtain ⟨h, hh⟩ : ∃ h, h = (i + j) / 2 := ⟨_, rfl⟩
        have hih : i ≤ h := by omega
        have hhj : h < j := by omega
        have hk5 := K5.out h (by omega) (by omega)
        have HO2 := Lib.hid (HO.out.drewN d)
        have HG2 := Lib.hid (gdrewN w d (some gd))
        obtain ⟨w2, hw2⟩ : ∃ w2, w2 = w.drewN d := ⟨_, rfl⟩
        rw [← hw2] at HO2 HG2 ⊢
        have HW2 := Lib.hid hw2
        clear hw2
        have c1 := HO2.out.cell (N - 1 - h) (by omega)
        have c2 := HO2.out.cell h (by omega)
        have hq1 := HX.out (N - 1 - h) (by omega)
        have hq2 := HX.out h (by omega)
        have HCM := Lib.hid (fun d2 => HC.out (w2.drewN d2) (gdrew HG2.out d2) _ _ hq1 hq2)
        have hk5a : c ≤ N - 1 - h := by omega
        have hk5b : N - 1 - h < b := by omega
        have HCC := Lib.hid (HCI.out _ _ hq1 hq2 (HORD.out h (N - 1 - h) (by omega) (by omega) hk5a hk5b))
        clear hk5a hk5b
        have HUP : Hid (¬ f (at0 S (N - 1 - h)) < f (at0 S h) → ∀ q, s0 ≤ q → q < h + 1 → f (at0 S q) ≤ f (at0 S (N - 1 - q))) := fun hlt2 q h1 h2 =>
          Nat.le_trans (HL.out q h (by omega) (by omega) (by omega)) (Nat.le_trans (by omega) (HR.out (N - 1 - h) (N - 1 - q) (by omega) (by omega) (by have := K5.out q (by omega) (by omega); omega)))
        have HDN : Hid (f (at0 S (N - 1 - h)) < f (at0 S h) → ∀ q, h ≤ q → q < r0 → f (at0 S (N - 1 - q)) < f (at0 S q)) := fun hlt2 q h1 h2 =>
          Nat.lt_of_le_of_lt (HR.out (N - 1 - q) (N - 1 - h) (by have := K5.out q (by omega) (by omega); omega) (by omega) (by omega)) (Nat.lt_of_lt_of_le hlt2 (HL.out h q (by omega) h1 (by omega)))
        go_upto_region 35 with fail
        rw [show ((i : Int) + (j : Int)) / 2 = ((h : Nat) : Int) by omega]
        have w6 : IntKind.i64.wrap (((N - 1 : Nat) : Int) - (h : Int)) = ((N - 1 - h : Nat) : Int) := by rw [IntKind.wrap_i64]; omega
        clear hh
        generalize hx1 : at0 S (N - 1 - h) = x at *
        generalize hx2 : at0 S h = y at *
        clear hx1 hx2
        by_cases hfx : f x < f y
        · have hc := HCC.out.2 hfx
          go_quiet (first | (go_at_call 45; exact Calls.quiet_of (HCM.out _)))
          go_wp2_with fail
          go_roundw
          case rel => exact ⟨i, h, _, hsi, by omega, by omega, rfl, rfl, (by rw [HW2.out]; exact World.drewN_drewN w d nq), HLO.out, HDN.out hfx⟩
          case measure => simp [intOf]; omega
        · have hc : ¬ cm x y < 0 := fun h => hfx (HCC.out.1 h)
          go_quiet (first | (go_at_call 45; exact Calls.quiet_of (HCM.out _)))
          go_wp2_with fail
          go_roundw
          case rel => exact ⟨h + 1, j, _, by omega, by omega, hjr, by go_num, rfl, (by rw [HW2.out]; exact World.drewN_drewN w d nq), HUP.out hfx, HHI.out⟩
          case measure => simp [intOf]; omega
      · obtain rfl : i = j := by omega
        have HO2 := Lib.hid (HO.out.drewN d)
        have HG2 := Lib.hid (gdrewN w d (some gd))
        generalize w.drewN d = w2 at *
        obtain ⟨e, he⟩ : ∃ e, e = N - i := ⟨_, rfl⟩
        have hew : IntKind.i64.wrap ((N : Int) - (i : Int)) = (e : Int) := by rw [IntKind.wrap_i64]; omega
        have hes : e + i = mid + c := by omega
        have hce : c ≤ e := by omega
        have heb : e ≤ b := by omega
        have hai : a ≤ i := by omega
        have hic : i ≤ c := by omega
        have him : i ≤ mid := by omega
        have hme : mid ≤ e := by omega
        have P1 : i = a ∨ e = b ∨ f (at0 S (i - 1)) ≤ f (at0 S e) := by
          rcases Nat.lt_or_ge s0 i with h | h
          · right; right
            have := HLO.out (i - 1) (by omega) (by omega)
            rwa [show N - 1 - (i - 1) = e by omega] at this
          · rcases K6.out with h2 | h2
            · left; omega
            · right; left; omega
        have P2 : i = c ∨ e = c ∨ f (at0 S (e - 1)) < f (at0 S i) := by
          rcases Nat.lt_or_ge i r0 with h | h
          · right; right
            have := HHI.out i (Nat.le_refl _) h
            rwa [show N - 1 - i = e - 1 by omega] at this
          · rcases K7.out with h2 | h2
            · left; omega
            · right; left; omega
        have HP := Lib.hid (fun S1 (h : ∀ k, at0 S1 k = at0 S (rotI i c e k)) => sym_parts HL.out HR.out hai hic hce heb hes P1 P2 h)
        have HPO := Lib.hid (fun S1 (h : ∀ k, at0 S1 k = at0 S (rotI i c e k)) => sym_ord HORD.out hai hic hce heb hes h)
        clear P1 P2 he
        go_upto_region 39 with fail
        go_cut [185] from 25 (fun v wx => v = .bool (decide (i < c ∧ c < e)) ∧ wx = w2)
        case first => as_aux_lemma =>
          by_cases q1 : i < c
          · by_cases q2 : c < e
            · go_wp2_with fail
              go_meet
              exact ⟨by simp [q1, q2], rfl⟩
            · go_wp2_with fail
              go_meet
              exact ⟨by simp [q1, q2], rfl⟩
          · go_wp2_with fail
            go_meet
            exact ⟨by simp [q1], rfl⟩
        case rest =>
          obtain ⟨hv1, hwc⟩ := hcut
          rw [hv1, hwc]
          clear hv1 hwc
          go_upto_if 185 with fail
          go_cut [] from 25 (fun wx => ∃ S1, SnO wx base gd m cap S1 ∧ Mov a b S S1 ∧ (∀ k, at0 S1 k = at0 S (rotI i c e k)) ∧ w.grownBy wx (some gd))
          case first => as_aux_lemma =>
            by_cases hr : i < c ∧ c < e
            · have HRC := Lib.hid (HROT.out i e w2 HO2.out hr.1 hr.2 (by omega))
              have hd : decide (i < c ∧ c < e) = true := decide_eq_true hr
              go_wp2_with fail
              refine (HRC.out).mono ?_
              rintro e' w3 ⟨rfl, S1, ho1, hm1, hat1, hg1⟩
              go_wp2_with fail
              go_meet
              exact ⟨S1, ho1, hm1.wide (by omega) (by omega), hat1, gtrans HG2.out hg1⟩
            · have hd : decide (i < c ∧ c < e) = false := decide_eq_false hr
              go_wp2_with fail
              go_meet
              exact ⟨S, HO2.out, Mov.refl _ _ _, fun k => by rw [rotI_id _ _ _ _ (by omega)], HG2.out⟩
          case rest =>
            obtain ⟨S1, ho1, hm1, hat1, hg1⟩ := hcut
            obtain ⟨p1, p2, p3, p4, p5⟩ := HP.out S1 hat1
            obtain ⟨p6, p7⟩ := HPO.out S1 hat1
            have HP6 := Lib.hid p6
            have HP7 := Lib.hid p7
            clear p6 p7
            have HO1 := Lib.hid ho1
            have HM1 := Lib.hid hm1
            have HG1 := Lib.hid hg1
            have HP1 := Lib.hid p1
            have HP2 := Lib.hid p2
            have HP3 := Lib.hid p3
            have HP4 := Lib.hid p4
            have HP5 := Lib.hid p5
            clear ho1 hm1 hat1 hg1 p1 p2 p3 p4 p5
            generalize wc = w3 at *
            go_upto_region 41 with fail
            go_cut [199] from 25 (fun v wx => v = .bool (decide (a < i ∧ i < mid)) ∧ wx = w3)
            case first => as_aux_lemma =>
              by_cases q1 : a < i
              · by_cases q2 : i < mid
                · go_wp2_with fail
                  go_meet
                  exact ⟨by simp [q1, q2], rfl⟩
                · go_wp2_with fail
                  go_meet
                  exact ⟨by simp [q1, q2], rfl⟩
              · go_wp2_with fail
                go_meet
                exact ⟨by simp [q1], rfl⟩
            case rest =>
              obtain ⟨hv1, hwc⟩ := hcut
              rw [hv1, hwc]
              clear hv1 hwc
              go_upto_if 199 with fail
              go_cut [] from 25 (fun wx => ∃ S2, SnO wx base gd m cap S2 ∧ Mov a mid S1 S2 ∧ SrtOn f a mid S2 ∧ w.grownBy wx (some gd))
              case first => as_aux_lemma =>
                by_cases hr : a < i ∧ i < mid
                · have HRC := Lib.hid (HIH.out a i mid S1 w3 (by omega) hr.1 hr.2 (by omega) HO1.out HM1.out HG1.out HP1.out HP2.out HP6.out)
                  have hd : decide (a < i ∧ i < mid) = true := decide_eq_true hr
                  go_wp2_with fail
                  refine (HRC.out).mono ?_
                  rintro e' w4 ⟨rfl, S2, ho2, hm2, hs2, hg2⟩
                  go_wp2_with fail
                  go_meet
                  exact ⟨S2, ho2, hm2, hs2, gtrans HG1.out hg2⟩
                · have hd : decide (a < i ∧ i < mid) = false := decide_eq_false hr
                  have hs1 : SrtOn f a mid S1 := by
                    rcases Nat.lt_or_ge a i with h | h
                    · rw [show mid = i by omega]; exact HP1.out
                    · rw [show a = i by omega]; exact HP2.out
                  have HS1 := Lib.hid hs1
                  clear hs1
                  go_wp2_with fail
                  go_meet
                  exact ⟨S1, HO1.out, Mov.refl _ _ _, HS1.out, HG1.out⟩
              case rest =>
                obtain ⟨S2, ho2, hm2', hs2, hg2⟩ := hcut
                have HO3 := Lib.hid ho2
                have HM2 := Lib.hid hm2'
                have HS2 := Lib.hid hs2
                have HG3 := Lib.hid hg2
                have HQ3 := Lib.hid (hm2'.srt (.inr (Nat.le_refl _)) HP3.out)
                have HQ4 := Lib.hid (hm2'.srt (.inr hme) HP4.out)
                have HQ7 : Hid (Ord mid e b S2) := fun p q h1 h2 h3 h4 => by rw [hm2'.out p (by omega), hm2'.out q (by omega)]; exact HP7.out p q h1 h2 h3 h4
                clear ho2 hm2' hs2 hg2
                generalize wc = w4 at *
                go_upto_region 43 with fail
                go_cut [213] from 25 (fun v wx => v = .bool (decide (mid < e ∧ e < b)) ∧ wx = w4)
                case first => as_aux_lemma =>
                  by_cases q1 : mid < e
                  · by_cases q2 : e < b
                    · go_wp2_with fail
                      go_meet
                      exact ⟨by simp [q1, q2], rfl⟩
                    · go_wp2_with fail
                      go_meet
                      exact ⟨by simp [q1, q2], rfl⟩
                  · go_wp2_with fail
                    go_meet
                    exact ⟨by simp [q1], rfl⟩
                case rest =>
                  obtain ⟨hv1, hwc⟩ := hcut
                  rw [hv1, hwc]
                  clear hv1 hwc
                  by_cases hr : mid < e ∧ e < b
                  · as_aux_lemma =>
                    have HRC := Lib.hid (HIH.out mid e b S2 w4 (by omega) hr.1 hr.2 hb HO3.out (HM1.out.trans (HM2.out.wide (Nat.le_refl _) (by omega))) HG3.out HQ3.out HQ4.out HQ7.out)
                    have hd : decide (mid < e ∧ e < b) = true := decide_eq_true hr
                    go_wp2_with fail
                    refine (HRC.out).mono ?_
                    rintro e' w5 ⟨rfl, S3, ho3, hm3', hs3, hg3⟩
                    have HFIN := Lib.hid (sym_join (by omega) (by omega) HM1.out HM2.out HS2.out hm3' hs3 HP5.out)
                    go_wp2_with fail
                    go_end0
                    exact ⟨rfl, S3, ho3, HFIN.out.1, HFIN.out.2, gtrans HG3.out hg3⟩
                  · as_aux_lemma =>
                    have hd : decide (mid < e ∧ e < b) = false := decide_eq_false hr
                    have hs3 : SrtOn f mid b S2 := by
                      rcases Nat.lt_or_ge mid e with h | h
                      · rw [show b = e by omega]; exact HQ3.out
                      · rw [show mid = e by omega]; exact HQ4.out
                    have HFIN := Lib.hid (sym_join (by omega) (by omega) HM1.out HM2.out HS2.out (Mov.refl _ _ _) hs3 HP5.out)
                    clear hs3
                    go_wp2_with fail
                    go_end0
                    exact ⟨rfl, S2, HO3.out, HFIN.out.1, HFIN.out.2, HG3.out⟩

/-- symMerge, whole. -/
theorem sym_okB (base gd m cap pc n : Nat) (f : Nat → Nat) (hm : m ≤ 1000) : SymOkB base gd m cap pc n f := by
  have key : ∀ k (a c b : Nat) (S : List Nat) (w : World), b - a ≤ k → a < c → c < b → b ≤ m → SnO w base gd m cap S → (∀ x ∈ S, x < n) → CmpOkB w gd pc n f → SrtOn f a c S → SrtOn f c b S → Ord a c b S →
      Calls Tryz.prog 100 #[.slice (some ⟨gd, 0, none⟩) m cap, .int .i64 (a : Nat), .int .i64 (c : Nat), .int .i64 (b : Nat), .func (.func 45) #[] #[.pointer (some ⟨pc, 0, none⟩)]] w
        fun e w' => e = .returned (.tuple #[]) ∧ ∃ S', SnO w' base gd m cap S' ∧ Mov a b S S' ∧ SrtOn f a b S' ∧ w.grownBy w' (some gd) := by
    intro k
    induction k with
    | zero => intro a c b S w hk hac hcb; omega
    | succ k ih =>
      intro a c b S w hk hac hcb hb hO hx hC hL hR hord
      by_cases h1 : c = a + 1
      · exact sym_oneB base gd m cap a c b pc n f S w hO hx hC h1 hcb hb hm hR hord
      · by_cases h2 : b = c + 1
        · exact sym_twoB base gd m cap a c b pc n f S w hO hx hC (by omega) h2 hb hm hL hord
        · exact sym_genB base gd m cap a c b pc n f S w hO hx hC (by omega) (by omega) hb hm hL hR hord fun a' c' b' S' w' g1 g2 g3 g4 g5 g6 g7 g8 g9 g10 => ih a' c' b' S' w' (by omega) g2 g3 g4 g5 g6 g7 g8 g9 g10
  intro a c b S w h1 h2 h3 h4 h5 h6 h7 h8 h9
  exact key (b - a) a c b S w (Nat.le_refl _) h1 h2 h3 h4 h5 h6 h7 h8 h9
end Go.Proofs.YtijfcmlgohbndaaGreatDoor.Bp
