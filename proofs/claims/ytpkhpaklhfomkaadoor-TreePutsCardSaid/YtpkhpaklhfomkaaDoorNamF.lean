/-
  Contracts: misleads, long, Parts, harmless, readable, Check.
-/
import Derived.Test.YtpkhpaklhfomkaaDoorNamE
namespace Go.Proofs.YtpkhpaklhfomkaaDoor
set_option maxRecDepth 100000
open Go.RowKit Go.Deep Go.Joins Go.Lib

/-- May a part lead elsewhere? -/
def misB (p : ByteArray) : Bool := p.toList.isEmpty || (p.toList == [46]) || (p.toList == [46, 46])
def longB (p : ByteArray) : Bool := decide (255 < p.size)
theorem misleads_any (p : ByteArray) (w : World) :
    Calls Tryd.prog 67 #[.string p] w fun e w' => e = .returned (.bool (misB p)) ∧ w' = w := by
  have H : Hid (misB p = (p.toList.isEmpty || (p.toList == [46]) || (p.toList == [46, 46]))) := rfl
  cases h1 : p.toList.isEmpty with
  | true =>
    go_enter Tryd.func67, Tryd.ntmps67
    go_wp2
    go_ret
    rw [H.out, h1]
    exact ⟨rfl, rfl⟩
  | false =>
    cases h2 : (p.toList == [46]) with
    | true =>
      go_enter Tryd.func67, Tryd.ntmps67
      go_wp2
      go_ret
      rw [H.out, h1, h2]
      exact ⟨rfl, rfl⟩
    | false =>
      cases h3 : (p.toList == [46, 46]) with
      | true =>
        go_enter Tryd.func67, Tryd.ntmps67
        go_wp2
        go_ret
        rw [H.out, h1, h2, h3]
        exact ⟨rfl, rfl⟩
      | false =>
        go_enter Tryd.func67, Tryd.ntmps67
        go_wp2
        go_ret
        rw [H.out, h1, h2, h3]
        exact ⟨rfl, rfl⟩
theorem long_any (p : ByteArray) (w : World) :
    Calls Tryd.prog 68 #[.string p] w fun e w' => e = .returned (.bool (longB p)) ∧ w' = w := by
  have H : Hid (longB p = decide (255 < p.size)) := rfl
  generalize hn : p.size = n at *
  by_cases h : 255 < n
  · have h1 : decide ((255 : Int) < (n : Int)) = true := decide_eq_true (by omega)
    go_enter Tryd.func68, Tryd.ntmps68
    go_wp2
    go_ret
    rw [H.out, decide_eq_true h]
    exact ⟨rfl, rfl⟩
  · have h1 : decide ((255 : Int) < (n : Int)) = false := decide_eq_false (by omega)
    go_enter Tryd.func68, Tryd.ntmps68
    go_wp2
    go_ret
    rw [H.out, decide_eq_false h]
    exact ⟨rfl, rfl⟩

/-! ### parts -/
def pcs (s : ByteArray) : List ByteArray := splitB ⟨#[47]⟩ 0 (countB s ⟨#[47]⟩) s
/-- The parts, as texts. -/
def pts (s : ByteArray) : List ByteArray := if s.toList.isEmpty = true then [] else pcs s
theorem isEmpty_nums (s : ByteArray) : s.toList.isEmpty = true ↔ nums s = [] := by
  rw [Lib.toList_data, List.isEmpty_iff]
  unfold nums
  simp
theorem pts_nums (s : ByteArray) : (pts s).map nums = partsL (nums s) := by
  unfold pts partsL
  by_cases h : s.toList.isEmpty = true
  · rw [if_pos h, if_pos ((isEmpty_nums s).1 h)]; rfl
  · rw [if_neg h, if_neg (fun e => h ((isEmpty_nums s).2 e))]
    exact split_nums s
theorem pcs_length (s : ByteArray) : (pcs s).length = countB s ⟨#[47]⟩ + 1 := splitB_all ⟨#[47]⟩ (by decide) 0 _ s rfl
theorem pcs_le (s : ByteArray) : (pcs s).length ≤ s.size + 1 := by
  rw [pcs_length]
  have := countB_le ⟨#[47]⟩ (by decide) s.size s (Nat.le_refl _)
  omega
/-- A slice of texts. -/
def IsPts (w : World) (v : Value) (ss : List ByteArray) : Prop :=
  (ss = [] ∧ v = .slice none 0 0) ∨ (0 < ss.length ∧ ∃ b, v = .slice (some ⟨b, 0, none⟩) ss.length ss.length ∧ b < w.heap.size ∧ ∀ (j : Nat) x, ss[j]? = some x → w.cell? ⟨b, 0 + j, none⟩ = some (.string x))
theorem IsPts.below {w w' : World} {v : Value} {ss : List ByteArray} (h : IsPts w v ss) (hb : Below w.heap.size w w') : IsPts w' v ss := by
  rcases h with h | ⟨h0, b, h1, h2, h3⟩
  · exact .inl h
  · exact .inr ⟨h0, b, h1, Nat.lt_of_lt_of_le h2 hb.size, fun j x hj => (hb.cell (p := ⟨b, 0 + j, none⟩) h2).trans (h3 j x hj)⟩
theorem parts_any (s : ByteArray) (w : World) (hs : s.size < 4294967281) (hE : Env w) :
    Calls Tryd.prog 64 #[.string s] w fun e w' => ∃ v, e = .returned v ∧ IsPts w' v (pts s) ∧ Below w.heap.size w w' := by
  obtain ⟨_, m, hm⟩ := hE
  have HS := Lib.hid (sh_strings_Split s ⟨#[47]⟩ m w hs hm (by decide))
  cases he : s.toList.isEmpty with
  | true =>
    go_enter Tryd.func64, Tryd.ntmps64
    go_wp2
    go_ret
    refine ⟨_, rfl, .inl ⟨?_, rfl⟩, Below.refl _ _⟩
    unfold pts
    rw [he]; rfl
  | false =>
    have HP : Hid (pts s = pcs s) := by show _ = _; unfold pts; rw [he]; rfl
    have HL := Lib.hid (pcs_length s)
    go_enter Tryd.func64, Tryd.ntmps64
    go_wp2_with fail
    refine (HS.out).mono ?_
    rintro e w1 ⟨rfl, rfl⟩
    go_wp2
    go_ret
    refine ⟨.slice (some ⟨w.heap.size, 0, none⟩) (countB s ⟨#[47]⟩ + 1) (countB s ⟨#[47]⟩ + 1), rfl, ?_, (Below.refl _ _).alloc (Nat.le_refl _) _⟩
    rw [HP.out]
    refine .inr ⟨by rw [HL.out]; omega, w.heap.size, by rw [HL.out], by simp, fun j x hj => ?_⟩
    rw [Nat.zero_add, Lib.cell_of_heap (heap_alloc_new w _)]
    show (((pcs s).map Value.string).toArray)[j]? = _
    rw [List.getElem?_toArray, List.getElem?_map, hj]
    rfl

theorem anyOf (g : Nat) (p : ByteArray → Bool) (eg : ∀ args w, (callFunc g args).run Tryd.prog w = .ok (.enter g args) w) (hg : ∀ x w, Calls Tryd.prog g #[.string x] w fun e w' => e = .returned (.bool (p x)) ∧ w' = w) (v : Value) (ss : List ByteArray) (w : World) (h : IsPts w v ss) (hl : ss.length ≤ 9223372036854775807) :
    Calls Tryd.prog 66 #[v, .func (.func g) #[] #[]] w fun e w' => e = .returned (.bool (ss.any p)) ∧ ∃ q, w' = w.drewN q := by
  rcases h with ⟨rfl, rfl⟩ | ⟨h0, b, rfl, h2, h3⟩
  · refine (sh_slices_ContainsFunc_empty (α := ByteArray) none 0 _ w).mono ?_
    rintro e w' ⟨rfl, rfl⟩
    exact ⟨rfl, 0, rfl⟩
  · have h4 := sh_slices_ContainsFunc Value.string p g #[] eg b 0 ss.length ss.length ss w (fun W x _ => (hg x W).mono fun e w' h => ⟨h.1, 0, h.2⟩) (Nat.le_refl _) hl (fun j hj => by
      rw [h3 j ss[j] (List.getElem?_eq_getElem hj), getElem!_pos ss j hj])
    rw [List.take_length] at h4
    exact h4

/-- What is wrong with a path on a disk: 0: nothing. -/
def harmN (s : ByteArray) : Int := if badB s || ((pts s).length == 0) || (pts s).any misB then 21 else if decide (32 < (pts s).length) || (pts s).any longB then 5 else 0
set_option maxHeartbeats 4000000 in
theorem harmless_any (s : ByteArray) (w : World) (hs : s.size < 4294967281) (hE : Env w) :
    Calls Tryd.prog 57 #[.string s] w fun e w' => e = .returned (.int .i64 (harmN s)) ∧ Below w.heap.size w w' := by
  have HP := Lib.hid (parts_any s w hs hE)
  have HC := Lib.hid (fun w => containsAny_any s w hs)
  have hpl : (pts s).length ≤ 4294967282 := by
    unfold pts
    split
    · simp
    · have := pcs_le s; omega
  have HA1 := Lib.hid (fun v w h => anyOf 67 misB (enters_of Tryd.func67 (by kernel_rfl) rfl) misleads_any v (pts s) w h (by omega))
  have HA2 := Lib.hid (fun v w h => anyOf 68 longB (enters_of Tryd.func68 (by kernel_rfl) rfl) long_any v (pts s) w h (by omega))
  have HH : Hid (harmN s = if badB s || ((pts s).length == 0) || (pts s).any misB then 21 else if decide (32 < (pts s).length) || (pts s).any longB then 5 else 0) := rfl
  generalize (pts s).any misB = mis at *
  generalize (pts s).any longB = lon at *
  have HLP : Hid (∀ w v, IsPts w v (pts s) → ∃ a, v = .slice a (pts s).length (pts s).length) := fun w v h => by
    rcases h with ⟨h1, h2⟩ | ⟨_, b, h1, _⟩
    · exact ⟨none, by rw [h1]; exact h2⟩
    · exact ⟨_, h1⟩
  generalize pts s = ss at *
  generalize badB s = bad at *
  cases bad with
  | true =>
    go_enter Tryd.func57, Tryd.ntmps57
    go_wp2_with fail
    refine (HP.out).mono ?_
    rintro e w1 ⟨v, rfl, hv, hb1⟩
    obtain ⟨a, rfl⟩ := HLP.out _ _ hv
    have HB1 := Lib.hid hb1
    clear hv hb1
    go_wp2_with fail
    refine (HC.out _).mono ?_
    rintro e w2 ⟨rfl, hb2⟩
    have HB2 := Lib.hid (below_then HB1.out hb2)
    clear hb2
    go_wp2_with fail
    go_ret
    rw [HH.out]
    exact ⟨rfl, HB2.out⟩
  | false =>
    by_cases h0 : ss.length = 0
    · have g0 : ((ss.length : Int) == 0) = true := by rw [beq_iff_eq]; omega
      have H0 : Hid ((ss.length == 0) = true) := by show _ = _; rw [beq_iff_eq]; exact h0
      clear h0
      go_enter Tryd.func57, Tryd.ntmps57
      go_wp2_with fail
      refine (HP.out).mono ?_
      rintro e w1 ⟨v, rfl, hv, hb1⟩
      obtain ⟨a, rfl⟩ := HLP.out _ _ hv
      have HV := Lib.hid hv
      have HB1 := Lib.hid hb1
      clear hv hb1
      go_wp2_with fail
      refine (HC.out _).mono ?_
      rintro e w2 ⟨rfl, hb2⟩
      have HV2 := Lib.hid (HV.out.below hb2)
      have HB2 := Lib.hid (below_then HB1.out hb2)
      clear hb2
      go_wp2_with fail
      go_ret
      rw [HH.out, H0.out]
      exact ⟨rfl, HB2.out⟩
    · have g0 : ((ss.length : Int) == 0) = false := by rw [beq_eq_false_iff_ne]; omega
      have H0 : Hid ((ss.length == 0) = false) := by show _ = _; rw [beq_eq_false_iff_ne]; exact h0
      clear h0
      cases mis with
      | true =>
        go_enter Tryd.func57, Tryd.ntmps57
        go_wp2_with fail
        refine (HP.out).mono ?_
        rintro e w1 ⟨v, rfl, hv, hb1⟩
        obtain ⟨a, rfl⟩ := HLP.out _ _ hv
        have HV := Lib.hid hv
        have HB1 := Lib.hid hb1
        clear hv hb1
        go_wp2_with fail
        refine (HC.out _).mono ?_
        rintro e w2 ⟨rfl, hb2⟩
        have HV2 := Lib.hid (HV.out.below hb2)
        have HB2 := Lib.hid (below_then HB1.out hb2)
        clear hb2
        go_wp2_with fail
        refine (HA1.out _ _ HV2.out).mono ?_
        rintro e w3 ⟨rfl, hq⟩
        have HB3 : Hid (Below w.heap.size w w3) := by obtain ⟨q, rfl⟩ := hq; exact below_drewN HB2.out q
        have HV3 : Hid (IsPts w3 (.slice a ss.length ss.length) ss) := by obtain ⟨q, rfl⟩ := hq; exact HV2.out.below (below_drewN (Below.refl _ _) q)
        clear hq
        go_wp2_with fail
        go_ret
        rw [HH.out, H0.out]
        exact ⟨rfl, HB3.out⟩
      | false =>
        by_cases h32 : 32 < ss.length
        · have g32 : decide ((32 : Int) < (ss.length : Int)) = true := decide_eq_true (by omega)
          have H32 : Hid (decide (32 < ss.length) = true) := decide_eq_true h32
          clear h32
          go_enter Tryd.func57, Tryd.ntmps57
          go_wp2_with fail
          refine (HP.out).mono ?_
          rintro e w1 ⟨v, rfl, hv, hb1⟩
          obtain ⟨a, rfl⟩ := HLP.out _ _ hv
          have HV := Lib.hid hv
          have HB1 := Lib.hid hb1
          clear hv hb1
          go_wp2_with fail
          refine (HC.out _).mono ?_
          rintro e w2 ⟨rfl, hb2⟩
          have HV2 := Lib.hid (HV.out.below hb2)
          have HB2 := Lib.hid (below_then HB1.out hb2)
          clear hb2
          go_wp2_with fail
          refine (HA1.out _ _ HV2.out).mono ?_
          rintro e w3 ⟨rfl, hq⟩
          have HB3 : Hid (Below w.heap.size w w3) := by obtain ⟨q, rfl⟩ := hq; exact below_drewN HB2.out q
          have HV3 : Hid (IsPts w3 (.slice a ss.length ss.length) ss) := by obtain ⟨q, rfl⟩ := hq; exact HV2.out.below (below_drewN (Below.refl _ _) q)
          clear hq
          go_wp2_with fail
          go_ret
          rw [HH.out, H0.out, H32.out]
          exact ⟨rfl, HB3.out⟩
        · have g32 : decide ((32 : Int) < (ss.length : Int)) = false := decide_eq_false (by omega)
          have H32 : Hid (decide (32 < ss.length) = false) := decide_eq_false h32
          clear h32
          cases lon with
          | true =>
            go_enter Tryd.func57, Tryd.ntmps57
            go_wp2_with fail
            refine (HP.out).mono ?_
            rintro e w1 ⟨v, rfl, hv, hb1⟩
            obtain ⟨a, rfl⟩ := HLP.out _ _ hv
            have HV := Lib.hid hv
            have HB1 := Lib.hid hb1
            clear hv hb1
            go_wp2_with fail
            refine (HC.out _).mono ?_
            rintro e w2 ⟨rfl, hb2⟩
            have HV2 := Lib.hid (HV.out.below hb2)
            have HB2 := Lib.hid (below_then HB1.out hb2)
            clear hb2
            go_wp2_with fail
            refine (HA1.out _ _ HV2.out).mono ?_
            rintro e w3 ⟨rfl, hq⟩
            have HB3 : Hid (Below w.heap.size w w3) := by obtain ⟨q, rfl⟩ := hq; exact below_drewN HB2.out q
            have HV3 : Hid (IsPts w3 (.slice a ss.length ss.length) ss) := by obtain ⟨q, rfl⟩ := hq; exact HV2.out.below (below_drewN (Below.refl _ _) q)
            clear hq
            go_wp2_with fail
            refine (HA2.out _ _ HV3.out).mono ?_
            rintro e w4 ⟨rfl, hq⟩
            have HB4 : Hid (Below w.heap.size w w4) := by obtain ⟨q, rfl⟩ := hq; exact below_drewN HB3.out q
            clear hq
            go_wp2_with fail
            go_ret
            rw [HH.out, H0.out, H32.out]
            exact ⟨rfl, HB4.out⟩
          | false =>
            go_enter Tryd.func57, Tryd.ntmps57
            go_wp2_with fail
            refine (HP.out).mono ?_
            rintro e w1 ⟨v, rfl, hv, hb1⟩
            obtain ⟨a, rfl⟩ := HLP.out _ _ hv
            have HV := Lib.hid hv
            have HB1 := Lib.hid hb1
            clear hv hb1
            go_wp2_with fail
            refine (HC.out _).mono ?_
            rintro e w2 ⟨rfl, hb2⟩
            have HV2 := Lib.hid (HV.out.below hb2)
            have HB2 := Lib.hid (below_then HB1.out hb2)
            clear hb2
            go_wp2_with fail
            refine (HA1.out _ _ HV2.out).mono ?_
            rintro e w3 ⟨rfl, hq⟩
            have HB3 : Hid (Below w.heap.size w w3) := by obtain ⟨q, rfl⟩ := hq; exact below_drewN HB2.out q
            have HV3 : Hid (IsPts w3 (.slice a ss.length ss.length) ss) := by obtain ⟨q, rfl⟩ := hq; exact HV2.out.below (below_drewN (Below.refl _ _) q)
            clear hq
            go_wp2_with fail
            refine (HA2.out _ _ HV3.out).mono ?_
            rintro e w4 ⟨rfl, hq⟩
            have HB4 : Hid (Below w.heap.size w w4) := by obtain ⟨q, rfl⟩ := hq; exact below_drewN HB3.out q
            clear hq
            go_wp2_with fail
            go_ret
            rw [HH.out, H0.out, H32.out]
            exact ⟨rfl, HB4.out⟩
end Go.Proofs.YtpkhpaklhfomkaaDoor
