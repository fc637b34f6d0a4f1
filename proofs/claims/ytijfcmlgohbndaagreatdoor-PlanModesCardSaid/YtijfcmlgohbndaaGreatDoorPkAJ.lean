/-
  Contracts: misleads, long, Parts, harmless, readable, Check.
  Contracts: readable, Check; the chapter's examples.
  Mathematics of names that may be paths: what is wrong with a path, by its bytes; its parent's parts; a text cut at a slash has no stray that it had not.
  A path that was checked is right, and so are its parents; what Check answers of what is right.
  Contracts: the document's Parts.
-/
import Derived.Test.YtijfcmlgohbndaaGreatDoorPkAH
import Derived.Test.YtijfcmlgohbndaaGreatDoorPkAG

namespace Go.Proofs.YtijfcmlgohbndaaGreatDoor
set_option maxRecDepth 100000
open Go.RowKit Go.Deep Go.Joins Go.Lib

/-- May a part lead elsewhere? -/
def misB (p : ByteArray) : Bool := p.toList.isEmpty || (p.toList == [46]) || (p.toList == [46, 46])
def longB (p : ByteArray) : Bool := decide (255 < p.size)
theorem misleads_any (p : ByteArray) (w : World) :
    Calls Tryz.prog 91 #[.string p] w fun e w' => e = .returned (.bool (misB p)) ∧ w' = w := by
  have H : Hid (misB p = (p.toList.isEmpty || (p.toList == [46]) || (p.toList == [46, 46]))) := rfl
  cases h1 : p.toList.isEmpty with
  | true =>
    go_enter Tryz.func91, Tryz.ntmps91
    go_wp2
    go_ret
    rw [H.out, h1]
    exact ⟨rfl, rfl⟩
  | false =>
    cases h2 : (p.toList == [46]) with
    | true =>
      go_enter Tryz.func91, Tryz.ntmps91
      go_wp2
      go_ret
      rw [H.out, h1, h2]
      exact ⟨rfl, rfl⟩
    | false =>
      cases h3 : (p.toList == [46, 46]) with
      | true =>
        go_enter Tryz.func91, Tryz.ntmps91
        go_wp2
        go_ret
        rw [H.out, h1, h2, h3]
        exact ⟨rfl, rfl⟩
      | false =>
        go_enter Tryz.func91, Tryz.ntmps91
        go_wp2
        go_ret
        rw [H.out, h1, h2, h3]
        exact ⟨rfl, rfl⟩
theorem long_any (p : ByteArray) (w : World) :
    Calls Tryz.prog 92 #[.string p] w fun e w' => e = .returned (.bool (longB p)) ∧ w' = w := by
  have H : Hid (longB p = decide (255 < p.size)) := rfl
  generalize hn : p.size = n at *
  by_cases h : 255 < n
  · have h1 : decide ((255 : Int) < (n : Int)) = true := decide_eq_true (by omega)
    go_enter Tryz.func92, Tryz.ntmps92
    go_wp2
    go_ret
    rw [H.out, decide_eq_true h]
    exact ⟨rfl, rfl⟩
  · have h1 : decide ((255 : Int) < (n : Int)) = false := decide_eq_false (by omega)
    go_enter Tryz.func92, Tryz.ntmps92
    go_wp2
    go_ret
    rw [H.out, decide_eq_false h]
    exact ⟨rfl, rfl⟩

/-! ### parts -/
def pcs (s : ByteArray) : List ByteArray := splitB ⟨#[47]⟩ 0 (countB s ⟨#[47]⟩) s
/-- The parts, as texts. -/
def pts (s : ByteArray) : List ByteArray := if s.toList.isEmpty = true then [] else pcs s
theorem isEmpty_nums (s : ByteArray) : s.toList.isEmpty = true ↔ nums s = [] := by
  rw [Lib.toList_data, List.isEmpty_iff]
  unfold nums
  simp
theorem pts_nums (s : ByteArray) : (pts s).map nums = partsL (nums s) := by
  unfold pts partsL
  by_cases h : s.toList.isEmpty = true
  · rw [if_pos h, if_pos ((isEmpty_nums s).1 h)]; rfl
  · rw [if_neg h, if_neg (fun e => h ((isEmpty_nums s).2 e))]
    exact split_nums s
theorem pcs_length (s : ByteArray) : (pcs s).length = countB s ⟨#[47]⟩ + 1 := splitB_all ⟨#[47]⟩ (by decide) 0 _ s rfl
theorem pcs_le (s : ByteArray) : (pcs s).length ≤ s.size + 1 := by
  rw [pcs_length]
  have := countB_le ⟨#[47]⟩ (by decide) s.size s (Nat.le_refl _)
  omega
/-- A slice of texts. -/
def IsPts (w : World) (v : Value) (ss : List ByteArray) : Prop :=
  (ss = [] ∧ v = .slice none 0 0) ∨ (0 < ss.length ∧ ∃ b, v = .slice (some ⟨b, 0, none⟩) ss.length ss.length ∧ b < w.heap.size ∧ ∀ (j : Nat) x, ss[j]? = some x → w.cell? ⟨b, 0 + j, none⟩ = some (.string x))
theorem IsPts.below {w w' : World} {v : Value} {ss : List ByteArray} (h : IsPts w v ss) (hb : Below w.heap.size w w') : IsPts w' v ss := by
  rcases h with h | ⟨h0, b, h1, h2, h3⟩
  · exact .inl h
  · exact .inr ⟨h0, b, h1, Nat.lt_of_lt_of_le h2 hb.size, fun j x hj => (hb.cell (p := ⟨b, 0 + j, none⟩) h2).trans (h3 j x hj)⟩
theorem parts_any (s : ByteArray) (w : World) (hs : s.size < 4294967281) (hE : Env w) :
    Calls Tryz.prog 88 #[.string s] w fun e w' => ∃ v, e = .returned v ∧ IsPts w' v (pts s) ∧ Below w.heap.size w w' := by
  obtain ⟨_, m, hm⟩ := hE
  have HS := Lib.hid (sh_strings_Split s ⟨#[47]⟩ m w hs hm (by decide))
  cases he : s.toList.isEmpty with
  | true =>
    go_enter Tryz.func88, Tryz.ntmps88
    go_wp2
    go_ret
    refine ⟨_, rfl, .inl ⟨?_, rfl⟩, Below.refl _ _⟩
    unfold pts
    rw [he]; rfl
  | false =>
    have HP : Hid (pts s = pcs s) := by show _ = _; unfold pts; rw [he]; rfl
    have HL := Lib.hid (pcs_length s)
    go_enter Tryz.func88, Tryz.ntmps88
    go_wp2_with fail
    refine (HS.out).mono ?_
    rintro e w1 ⟨rfl, rfl⟩
    go_wp2
    go_ret
    refine ⟨.slice (some ⟨w.heap.size, 0, none⟩) (countB s ⟨#[47]⟩ + 1) (countB s ⟨#[47]⟩ + 1), rfl, ?_, (Below.refl _ _).alloc (Nat.le_refl _) _⟩
    rw [HP.out]
    refine .inr ⟨by rw [HL.out]; omega, w.heap.size, by rw [HL.out], by simp, fun j x hj => ?_⟩
    rw [Nat.zero_add, Lib.cell_of_heap (heap_alloc_new w _)]
    show (((pcs s).map Value.string).toArray)[j]? = _
    rw [List.getElem?_toArray, List.getElem?_map, hj]
    rfl

theorem anyOf (g : Nat) (p : ByteArray → Bool) (eg : ∀ args w, (callFunc g args).run Tryz.prog w = .ok (.enter g args) w) (hg : ∀ x w, Calls Tryz.prog g #[.string x] w fun e w' => e = .returned (.bool (p x)) ∧ w' = w) (v : Value) (ss : List ByteArray) (w : World) (h : IsPts w v ss) (hl : ss.length ≤ 9223372036854775807) :
    Calls Tryz.prog 90 #[v, .func (.func g) #[] #[]] w fun e w' => e = .returned (.bool (ss.any p)) ∧ ∃ q, w' = w.drewN q := by
  rcases h with ⟨rfl, rfl⟩ | ⟨h0, b, rfl, h2, h3⟩
  · refine (sh_slices_ContainsFunc_empty (α := ByteArray) none 0 _ w).mono ?_
    rintro e w' ⟨rfl, rfl⟩
    exact ⟨rfl, 0, rfl⟩
  · have h4 := sh_slices_ContainsFunc Value.string p g #[] eg b 0 ss.length ss.length ss w (fun W x _ => (hg x W).mono fun e w' h => ⟨h.1, 0, h.2⟩) (Nat.le_refl _) hl (fun j hj => by
      rw [h3 j ss[j] (List.getElem?_eq_getElem hj), getElem!_pos ss j hj])
    rw [List.take_length] at h4
    exact h4

/-- What is wrong with a path on a disk: 0: nothing. -/
def harmN (s : ByteArray) : Int := if badB s || ((pts s).length == 0) || (pts s).any misB then 21 else if decide (32 < (pts s).length) || (pts s).any longB then 5 else 0
set_option maxHeartbeats 4000000 in
theorem harmless_any (s : ByteArray) (w : World) (hs : s.size < 4294967281) (hE : Env w) :
    Calls Tryz.prog 63 #[.string s] w fun e w' => e = .returned (.int .i64 (harmN s)) ∧ Below w.heap.size w w' := by
  have HP := Lib.hid (parts_any s w hs hE)
  have HC := Lib.hid (fun w => containsAny_any s w hs)
  have hpl : (pts s).length ≤ 4294967282 := by
    unfold pts
    split
    · simp
    · have := pcs_le s; omega
  have HA1 := Lib.hid (fun v w h => anyOf 91 misB (enters_of Tryz.func91 (by kernel_rfl) rfl) misleads_any v (pts s) w h (by omega))
  have HA2 := Lib.hid (fun v w h => anyOf 92 longB (enters_of Tryz.func92 (by kernel_rfl) rfl) long_any v (pts s) w h (by omega))
  have HH : Hid (harmN s = if badB s || ((pts s).length == 0) || (pts s).any misB then 21 else if decide (32 < (pts s).length) || (pts s).any longB then 5 else 0) := rfl
  generalize (pts s).any misB = mis at *
  generalize (pts s).any longB = lon at *
  have HLP : Hid (∀ w v, IsPts w v (pts s) → ∃ a, v = .slice a (pts s).length (pts s).length) := fun w v h => by
    rcases h with ⟨h1, h2⟩ | ⟨_, b, h1, _⟩
    · exact ⟨none, by rw [h1]; exact h2⟩
    · exact ⟨_, h1⟩
  generalize pts s = ss at *
  generalize badB s = bad at *
  cases bad with
  | true =>
    go_enter Tryz.func63, Tryz.ntmps63
    go_wp2_with fail
    refine (HP.out).mono ?_
    rintro e w1 ⟨v, rfl, hv, hb1⟩
    obtain ⟨a, rfl⟩ := HLP.out _ _ hv
    have HB1 := Lib.hid hb1
    clear hv hb1
    go_wp2_with fail
    refine (HC.out _).mono ?_
    rintro e w2 ⟨rfl, hb2⟩
    have HB2 := Lib.hid (below_then HB1.out hb2)
    clear hb2
    go_wp2_with fail
    go_ret
    rw [HH.out]
    exact ⟨rfl, HB2.out⟩
  | false =>
    by_cases h0 : ss.length = 0
    · have g0 : ((ss.length : Int) == 0) = true := by rw [beq_iff_eq]; omega
      have H0 : Hid ((ss.length == 0) = true) := by show _ = _; rw [beq_iff_eq]; exact h0
      clear h0
      go_enter Tryz.func63, Tryz.ntmps63
      go_wp2_with fail
      refine (HP.out).mono ?_
      rintro e w1 ⟨v, rfl, hv, hb1⟩
      obtain ⟨a, rfl⟩ := HLP.out _ _ hv
      have HV := Lib.hid hv
      have HB1 := Lib.hid hb1
      clear hv hb1
      go_wp2_with fail
      refine (HC.out _).mono ?_
      rintro e w2 ⟨rfl, hb2⟩
      have HV2 := Lib.hid (HV.out.below hb2)
      have HB2 := Lib.hid (below_then HB1.out hb2)
      clear hb2
      go_wp2_with fail
      go_ret
      rw [HH.out, H0.out]
      exact ⟨rfl, HB2.out⟩
    · have g0 : ((ss.length : Int) == 0) = false := by rw [beq_eq_false_iff_ne]; omega
      have H0 : Hid ((ss.length == 0) = false) := by show _ = _; rw [beq_eq_false_iff_ne]; exact h0
      clear h0
      cases mis with
      | true =>
        go_enter Tryz.func63, Tryz.ntmps63
        go_wp2_with fail
        refine (HP.out).mono ?_
        rintro e w1 ⟨v, rfl, hv, hb1⟩
        obtain ⟨a, rfl⟩ := HLP.out _ _ hv
        have HV := Lib.hid hv
        have HB1 := Lib.hid hb1
        clear hv hb1
        go_wp2_with fail
        refine (HC.out _).mono ?_
        rintro e w2 ⟨rfl, hb2⟩
        have HV2 := Lib.hid (HV.out.below hb2)
        have HB2 := Lib.hid (below_then HB1.out hb2)
        clear hb2
        go_wp2_with fail
        refine (HA1.out _ _ HV2.out).mono ?_
        rintro e w3 ⟨rfl, hq⟩
        have HB3 : Hid (Below w.heap.size w w3) := by obtain ⟨q, rfl⟩ := hq; exact below_drewN HB2.out q
        have HV3 : Hid (IsPts w3 (.slice a ss.length ss.length) ss) := by obtain ⟨q, rfl⟩ := hq; exact HV2.out.below (below_drewN (Below.refl _ _) q)
        clear hq
        go_wp2_with fail
        go_ret
        rw [HH.out, H0.out]
        exact ⟨rfl, HB3.out⟩
      | false =>
        by_cases h32 : 32 < ss.length
        · have g32 : decide ((32 : Int) < (ss.length : Int)) = true := decide_eq_true (by omega)
          have H32 : Hid (decide (32 < ss.length) = true) := decide_eq_true h32
          clear h32
          go_enter Tryz.func63, Tryz.ntmps63
          go_wp2_with fail
          refine (HP.out).mono ?_
          rintro e w1 ⟨v, rfl, hv, hb1⟩
          obtain ⟨a, rfl⟩ := HLP.out _ _ hv
          have HV := Lib.hid hv
          have HB1 := Lib.hid hb1
          clear hv hb1
          go_wp2_with fail
          refine (HC.out _).mono ?_
          rintro e w2 ⟨rfl, hb2⟩
          have HV2 := Lib.hid (HV.out.below hb2)
          have HB2 := Lib.hid (below_then HB1.out hb2)
          clear hb2
          go_wp2_with fail
          refine (HA1.out _ _ HV2.out).mono ?_
          rintro e w3 ⟨rfl, hq⟩
          have HB3 : Hid (Below w.heap.size w w3) := by obtain ⟨q, rfl⟩ := hq; exact below_drewN HB2.out q
          have HV3 : Hid (IsPts w3 (.slice a ss.length ss.length) ss) := by obtain ⟨q, rfl⟩ := hq; exact HV2.out.below (below_drewN (Below.refl _ _) q)
          clear hq
          go_wp2_with fail
          go_ret
          rw [HH.out, H0.out, H32.out]
          exact ⟨rfl, HB3.out⟩
        · have g32 : decide ((32 : Int) < (ss.length : Int)) = false := decide_eq_false (by omega)
          have H32 : Hid (decide (32 < ss.length) = false) := decide_eq_false h32
          clear h32
          cases lon with
          | true =>
            go_enter Tryz.func63, Tryz.ntmps63
            go_wp2_with fail
            refine (HP.out).mono ?_
            rintro e w1 ⟨v, rfl, hv, hb1⟩
            obtain ⟨a, rfl⟩ := HLP.out _ _ hv
            have HV := Lib.hid hv
            have HB1 := Lib.hid hb1
            clear hv hb1
            go_wp2_with fail
            refine (HC.out _).mono ?_
            rintro e w2 ⟨rfl, hb2⟩
            have HV2 := Lib.hid (HV.out.below hb2)
            have HB2 := Lib.hid (below_then HB1.out hb2)
            clear hb2
            go_wp2_with fail
            refine (HA1.out _ _ HV2.out).mono ?_
            rintro e w3 ⟨rfl, hq⟩
            have HB3 : Hid (Below w.heap.size w w3) := by obtain ⟨q, rfl⟩ := hq; exact below_drewN HB2.out q
            have HV3 : Hid (IsPts w3 (.slice a ss.length ss.length) ss) := by obtain ⟨q, rfl⟩ := hq; exact HV2.out.below (below_drewN (Below.refl _ _) q)
            clear hq
            go_wp2_with fail
            refine (HA2.out _ _ HV3.out).mono ?_
            rintro e w4 ⟨rfl, hq⟩
            have HB4 : Hid (Below w.heap.size w w4) := by obtain ⟨q, rfl⟩ := hq; exact below_drewN HB3.out q
            clear hq
            go_wp2_with fail
            go_ret
            rw [HH.out, H0.out, H32.out]
            exact ⟨rfl, HB4.out⟩
          | false =>
            go_enter Tryz.func63, Tryz.ntmps63
            go_wp2_with fail
            refine (HP.out).mono ?_
            rintro e w1 ⟨v, rfl, hv, hb1⟩
            obtain ⟨a, rfl⟩ := HLP.out _ _ hv
            have HV := Lib.hid hv
            have HB1 := Lib.hid hb1
            clear hv hb1
            go_wp2_with fail
            refine (HC.out _).mono ?_
            rintro e w2 ⟨rfl, hb2⟩
            have HV2 := Lib.hid (HV.out.below hb2)
            have HB2 := Lib.hid (below_then HB1.out hb2)
            clear hb2
            go_wp2_with fail
            refine (HA1.out _ _ HV2.out).mono ?_
            rintro e w3 ⟨rfl, hq⟩
            have HB3 : Hid (Below w.heap.size w w3) := by obtain ⟨q, rfl⟩ := hq; exact below_drewN HB2.out q
            have HV3 : Hid (IsPts w3 (.slice a ss.length ss.length) ss) := by obtain ⟨q, rfl⟩ := hq; exact HV2.out.below (below_drewN (Below.refl _ _) q)
            clear hq
            go_wp2_with fail
            refine (HA2.out _ _ HV3.out).mono ?_
            rintro e w4 ⟨rfl, hq⟩
            have HB4 : Hid (Below w.heap.size w w4) := by obtain ⟨q, rfl⟩ := hq; exact below_drewN HB3.out q
            clear hq
            go_wp2_with fail
            go_ret
            rw [HH.out, H0.out, H32.out]
            exact ⟨rfl, HB4.out⟩
end Go.Proofs.YtijfcmlgohbndaaGreatDoor

namespace Go.Proofs.YtijfcmlgohbndaaGreatDoor
set_option maxRecDepth 100000
open Go.RowKit Go.Deep Go.Joins Go.Lib

/-- What is wrong with a name: 0: nothing. -/
def readN (s : ByteArray) : Int := if decide (65535 < s.size) then 5 else if s.toList.isEmpty || straysB s then 20 else 0
theorem readable_any (s : ByteArray) (w : World) :
    Calls Tryz.prog 61 #[.string s] w fun e w' => e = .returned (.int .i64 (readN s)) ∧ Below w.heap.size w w' := by
  have HS := Lib.hid (fun w => strays_any s w)
  have HR : Hid (readN s = if decide (65535 < s.size) then 5 else if s.toList.isEmpty || straysB s then 20 else 0) := rfl
  generalize straysB s = st at *
  by_cases h1 : 65535 < s.size
  · have g1 : decide ((65535 : Int) < (s.size : Int)) = true := decide_eq_true (by omega)
    have H1 : Hid (decide (65535 < s.size) = true) := decide_eq_true h1
    clear h1
    go_enter Tryz.func61, Tryz.ntmps61
    go_wp2
    go_ret
    rw [HR.out, H1.out]
    exact ⟨rfl, Below.refl _ _⟩
  · have g1 : decide ((65535 : Int) < (s.size : Int)) = false := decide_eq_false (by omega)
    have H1 : Hid (decide (65535 < s.size) = false) := decide_eq_false h1
    clear h1
    cases h2 : s.toList.isEmpty with
    | true =>
      go_enter Tryz.func61, Tryz.ntmps61
      go_wp2
      go_ret
      rw [HR.out, H1.out, h2]
      exact ⟨rfl, Below.refl _ _⟩
    | false =>
      cases st with
      | true =>
        go_enter Tryz.func61, Tryz.ntmps61
        go_wp2_with fail
        refine (HS.out _).mono ?_
        rintro e w1 ⟨rfl, hb⟩
        go_wp2
        go_ret
        rw [HR.out, H1.out, h2]
        exact ⟨rfl, hb⟩
      | false =>
        go_enter Tryz.func61, Tryz.ntmps61
        go_wp2_with fail
        refine (HS.out _).mono ?_
        rintro e w1 ⟨rfl, hb⟩
        go_wp2
        go_ret
        rw [HR.out, H1.out, h2]
        exact ⟨rfl, hb⟩

/-- A name's path. -/
def pathB (s : ByteArray) : ByteArray := ⟨(trimSuffix s.data.toList [47]).toArray⟩
def dirB (s : ByteArray) : Bool := hasSuffix s.data.toList [47]
/-- What Check answers. -/
def chkV (s : ByteArray) : ByteArray × Bool × Int :=
  if readN s ≠ 0 then (.empty, false, readN s) else if harmN (pathB s) ≠ 0 then (.empty, false, harmN (pathB s)) else (pathB s, dirB s, 0)
theorem readN_small {s : ByteArray} (h : readN s = 0) : s.size ≤ 65535 := by
  unfold readN at h
  by_cases h1 : 65535 < s.size
  · rw [decide_eq_true h1, if_pos rfl] at h
    exact absurd h (by decide)
  · omega
theorem path_le (s : ByteArray) : (pathB s).size ≤ s.size := by
  unfold pathB trimSuffix
  split
  · show (List.toArray _).size ≤ _
    rw [List.size_toArray, List.length_take]
    rw [Lib.size_eq]
    omega
  · show (List.toArray _).size ≤ _
    rw [List.size_toArray, Lib.size_eq]
    exact Nat.le_refl _
set_option maxHeartbeats 4000000 in
theorem check_any (s : ByteArray) (w : World) (hs : s.size ≤ 9223372036854775807) (hE : Env w) :
    Calls Tryz.prog 37 #[.string s] w fun e w' => e = .returned (.tuple #[.string (chkV s).1, .bool (chkV s).2.1, .int .i64 (chkV s).2.2]) ∧ Below w.heap.size w w' := by
  have HRD := Lib.hid (fun w => readable_any s w)
  have HCS := Lib.hid (fun w => sh_strings_CutSuffix s ⟨#[47]⟩ w hs)
  have HE := Lib.hid hE
  have HSM := Lib.hid (fun h => readN_small (s := s) h)
  have HHA : Hid (readN s = 0 → ∀ w, Env w → _) := fun h w he => harmless_any (pathB s) w (by have := readN_small h; have := path_le s; omega) he
  have HV : Hid (chkV s = if readN s ≠ 0 then (.empty, false, readN s) else if harmN (pathB s) ≠ 0 then (.empty, false, harmN (pathB s)) else (pathB s, dirB s, 0)) := rfl
  have e1 : (⟨(trimSuffix s.data.toList (⟨#[47]⟩ : ByteArray).data.toList).toArray⟩ : ByteArray) = pathB s := rfl
  have e2 : hasSuffix s.data.toList (⟨#[47]⟩ : ByteArray).data.toList = dirB s := rfl
  rw [e1, e2] at HCS
  clear e1 e2 hs
  generalize readN s = rn at *
  generalize harmN (pathB s) = hn at *
  generalize pathB s = pb at *
  generalize dirB s = db at *
  by_cases h1 : rn = 0
  · subst h1
    have g1 : ((0 : Int) != 0) = false := rfl
    have HHB := Lib.hid (HHA.out rfl)
    clear HHA
    by_cases h2 : hn = 0
    · subst h2
      go_enter Tryz.func37, Tryz.ntmps37
      go_wp2_with fail
      refine (HRD.out _).mono ?_
      rintro e w1 ⟨rfl, hb1⟩
      have HE1 := Lib.hid (HE.out.below hb1)
      go_wp2_with fail
      refine (HCS.out _).mono ?_
      rintro e w2 ⟨rfl, rfl⟩
      go_wp2_with fail
      refine (HHB.out _ HE1.out).mono ?_
      rintro e w3 ⟨rfl, hb3⟩
      have HB3 := Lib.hid (below_then hb1 hb3)
      clear hb1 hb3
      go_wp2_with fail
      go_ret3
      rw [HV.out]
      exact ⟨rfl, HB3.out⟩
    · have g2 : (hn != 0) = true := by rw [bne_iff_ne]; exact h2
      have H2 := Lib.hid h2
      clear h2
      go_enter Tryz.func37, Tryz.ntmps37
      go_wp2_with fail
      refine (HRD.out _).mono ?_
      rintro e w1 ⟨rfl, hb1⟩
      have HE1 := Lib.hid (HE.out.below hb1)
      go_wp2_with fail
      refine (HCS.out _).mono ?_
      rintro e w2 ⟨rfl, rfl⟩
      go_wp2_with fail
      refine (HHB.out _ HE1.out).mono ?_
      rintro e w3 ⟨rfl, hb3⟩
      have HB3 := Lib.hid (below_then hb1 hb3)
      clear hb1 hb3
      go_wp2_with fail
      go_ret3
      rw [HV.out, if_neg (by decide), if_pos H2.out]
      exact ⟨rfl, HB3.out⟩
  · have g2 : (rn != 0) = true := by rw [bne_iff_ne]; exact h1
    have H2 := Lib.hid h1
    clear h1 HHA
    go_enter Tryz.func37, Tryz.ntmps37
    go_wp2_with fail
    refine (HRD.out _).mono ?_
    rintro e w1 ⟨rfl, hb1⟩
    have HB1 := Lib.hid hb1
    clear hb1
    go_wp2_with fail
    go_ret3
    rw [HV.out, if_pos H2.out]
    exact ⟨rfl, HB1.out⟩

theorem chk_ab : chkV ⟨#[97, 47, 98, 47]⟩ = (⟨#[97, 47, 98]⟩, true, 0) := by kernel_rfl
theorem ord_ab : ordT ⟨#[97, 47, 98]⟩ ⟨#[97, 45, 98]⟩ = -1 := by kernel_rfl
end Go.Proofs.YtijfcmlgohbndaaGreatDoor

namespace Go.Proofs.YtijfcmlgohbndaaGreatDoor
set_option maxRecDepth 100000
open Go.RowKit Go.Lib

def misL (p : List Nat) : Bool := p.isEmpty || decide (p = [46]) || decide (p = [46, 46])
def longL (p : List Nat) : Bool := decide (255 < p.length)
def badL (l : List Nat) : Bool := l.any fun b => decide (b = 0) || decide (b = 92)
/-- What is wrong with a path, by its bytes. -/
def harmL (l : List Nat) : Int := if badL l || ((partsL l).length == 0) || (partsL l).any misL then 21 else if decide (32 < (partsL l).length) || (partsL l).any longL then 5 else 0
theorem toNat_list_inj : ∀ a b : List UInt8, a.map UInt8.toNat = b.map UInt8.toNat → a = b
  | [], [], _ => rfl
  | [], _ :: _, h => by cases h
  | _ :: _, [], h => by cases h
  | x :: xs, y :: ys, h => by
    rw [List.map_cons, List.map_cons] at h
    injection h with h1 h2
    rw [UInt8.toNat_inj.1 h1, toNat_list_inj xs ys h2]
theorem nums_eq_list (s : ByteArray) (t : List UInt8) : (s.toList == t) = decide (nums s = t.map UInt8.toNat) := by
  rw [Lib.toList_data]
  by_cases h : s.data.toList = t
  · rw [decide_eq_true (by unfold nums; rw [h])]; rw [h]; simp
  · rw [decide_eq_false, beq_eq_false_iff_ne]
    · exact h
    · intro e
      exact h (toNat_list_inj _ _ e)
theorem isEmpty_nums2 (s : ByteArray) : s.toList.isEmpty = (nums s).isEmpty := by
  rw [Lib.toList_data]; unfold nums; cases s.data.toList <;> rfl
theorem misB_L (p : ByteArray) : misB p = misL (nums p) := by
  unfold misB misL
  rw [isEmpty_nums2, nums_eq_list, nums_eq_list]
  rfl
theorem longB_L (p : ByteArray) : longB p = longL (nums p) := by unfold longB longL; rw [nums_len]
theorem any_map_nums (ss : List ByteArray) (f : ByteArray → Bool) (g : List Nat → Bool) (h : ∀ p, f p = g (nums p)) : ss.any f = (ss.map nums).any g := by
  rw [List.any_map]
  congr 1
  funext p
  exact h p
theorem harm_L (s : ByteArray) : harmN s = harmL (nums s) := by
  unfold harmN harmL
  rw [any_map_nums _ _ _ misB_L, any_map_nums _ _ _ longB_L, pts_nums, ← List.length_map (f := nums), pts_nums]
  rfl
theorem harm_zero (l : List Nat) : harmL l = 0 ↔ badL l = false ∧ l ≠ [] ∧ (∀ p ∈ splitL l, misL p = false ∧ p.length ≤ 255) ∧ (splitL l).length ≤ 32 := by
  unfold harmL partsL
  by_cases hl : l = []
  · subst hl
    simp
  · rw [if_neg hl]
    have hn : ((splitL l).length == 0) = false := by
      rw [beq_eq_false_iff_ne]
      exact fun e => splitL_ne l (List.length_eq_zero_iff.1 e)
    rw [hn]
    constructor
    · intro h
      cases hb : badL l with
      | true => rw [hb] at h; exact absurd h (by simp)
      | false =>
        cases hm : (splitL l).any misL with
        | true => rw [hb, hm] at h; exact absurd h (by simp)
        | false =>
          rw [hb, hm] at h
          by_cases h32 : 32 < (splitL l).length
          · rw [decide_eq_true h32] at h; exact absurd h (by simp)
          · cases hg : (splitL l).any longL with
            | true => rw [hg] at h; exact absurd h (by simp)
            | false =>
              refine ⟨rfl, hl, fun p hp => ⟨?_, ?_⟩, by omega⟩
              · have := List.any_eq_false.1 hm p hp
                simpa using this
              · have := List.any_eq_false.1 hg p hp
                unfold longL at this
                simp at this
                omega
    · rintro ⟨hb, _, hp, h32⟩
      have hm : (splitL l).any misL = false := List.any_eq_false.2 fun p h => by rw [(hp p h).1]; decide
      have hg : (splitL l).any longL = false := List.any_eq_false.2 fun p h => by
        have := (hp p h).2
        unfold longL
        rw [decide_eq_false (by omega)]
        decide
      rw [hb, hm, hg, decide_eq_false (by omega)]
      rfl
theorem splitL_none (b : List Nat) (h : ∀ x ∈ b, x ≠ 47) : splitL b = [b] := by
  induction b with
  | nil => rfl
  | cons c r ih => exact splitL_other (h c (.head _)) (ih fun x hx => h x (.tail _ hx))
theorem splitL_app (b : List Nat) (h : ∀ x ∈ b, x ≠ 47) : ∀ a, splitL (a ++ 47 :: b) = splitL a ++ [b]
  | [] => by
    rw [List.nil_append, splitL_slash, splitL_none b h]
    rfl
  | c :: r => by
    have ih := splitL_app b h r
    obtain ⟨p, t, e⟩ := splitL_form r
    by_cases hc : c = 47
    · subst hc
      rw [List.cons_append, splitL_slash, splitL_slash, ih]
      rfl
    · rw [e] at ih
      rw [List.cons_append, splitL_other hc ih, splitL_other hc e]
      rfl
/-- The last byte of a path that is right is no slash. -/
theorem harm_last (a : List Nat) : harmL (a ++ [47]) ≠ 0 := by
  intro h
  obtain ⟨_, _, hp, _⟩ := (harm_zero _).1 h
  rw [show a ++ [47] = a ++ 47 :: [] from rfl, splitL_app [] (fun x hx => by cases hx)] at hp
  have := (hp [] (by simp)).1
  exact absurd this (by decide)
/-- Of a path that is right the parent, too; and its last part leads nowhere else. -/
theorem harm_parent (a b : List Nat) (hb : ∀ x ∈ b, x ≠ 47) (h : harmL (a ++ 47 :: b) = 0) : misL b = false ∧ (a ≠ [] → harmL a = 0) := by
  obtain ⟨h1, _, h3, h4⟩ := (harm_zero _).1 h
  rw [splitL_app b hb] at h3 h4
  refine ⟨(h3 b (by simp)).1, fun ha => (harm_zero a).2 ⟨?_, ha, fun p hp => h3 p (List.mem_append_left _ hp), ?_⟩⟩
  · unfold badL at h1 ⊢
    rw [List.any_append] at h1
    cases e : a.any fun b => decide (b = 0) || decide (b = 92) with
    | true => rw [e] at h1; exact absurd h1 (by simp)
    | false => rfl
  · rw [List.length_append] at h4; omega
theorem harm_lone (b : List Nat) (hb : ∀ x ∈ b, x ≠ 47) (h : harmL b = 0) : misL b = false := by
  obtain ⟨_, _, h3, _⟩ := (harm_zero _).1 h
  rw [splitL_none b hb] at h3
  exact (h3 b (by simp)).1

/-! ### a text cut at a slash -/
set_option maxHeartbeats 4000000 in
theorem decodeN_cut (n m b0 b1 b2 b3 c1 c2 c3 : Nat) (h0 : 1 ≤ m) (hm : m < n) (e1 : 1 < m → c1 = b1) (e2 : 2 < m → c2 = b2) (e3 : 3 < m → c3 = b3) (g1 : m = 1 → b1 = 47) (g2 : m = 2 → b2 = 47) (g3 : m = 3 → b3 = 47) : decodeN m b0 c1 c2 c3 = decodeN n b0 b1 b2 b3 := by
  unfold decodeN
  by_cases h : b0 < 128
  · rw [if_pos h, if_pos h]
  · rw [if_neg h, if_neg h]
    rcases (by omega : m = 1 ∨ m = 2 ∨ m = 3 ∨ 3 < m) with rfl | rfl | rfl | h3
    · have := g1 rfl
      subst this
      simp
    · obtain rfl := e1 (by omega)
      have := g2 rfl
      subst this
      have d1 : (1 < n) = True := eq_true (by omega)
      simp [d1]
    · obtain rfl := e1 (by omega)
      obtain rfl := e2 (by omega)
      have := g3 rfl
      subst this
      have d1 : (1 < n) = True := eq_true (by omega)
      have d2 : (2 < n) = True := eq_true (by omega)
      simp [d1, d2]
    · obtain rfl := e1 (by omega)
      obtain rfl := e2 (by omega)
      obtain rfl := e3 (by omega)
      have d1 : (1 < n) = True := eq_true (by omega)
      have d2 : (2 < n) = True := eq_true (by omega)
      have d3 : (3 < n) = True := eq_true (by omega)
      have d4 : (1 < m) = True := eq_true (by omega)
      have d5 : (2 < m) = True := eq_true (by omega)
      have d6 : (3 < m) = True := eq_true (by omega)
      simp only [d1, d2, d3, d4, d5, d6]
theorem get_cut (s : ByteArray) (k j : Nat) (hk : k ≤ s.size) (hj : j < k) : (s.extract 0 k).get! j = s.get! j := by
  have hsz : (s.extract 0 k).size = k := by rw [ByteArray.size_extract]; omega
  have h1 := get_at (s.extract 0 k) j (by omega)
  have h2 := get_at s j (by omega)
  rw [Nat.add_zero] at h1 h2
  rw [h1, h2]
  simp only [ByteArray.getElem_extract, Nat.zero_add]
theorem decode_cut (s : ByteArray) (k : Nat) (hk : k < s.size) (h47 : s[k].toNat = 47) (p : Nat) (hp : p < k) : Utf8.decode (s.extract 0 k) p = Utf8.decode s p := by
  have hsz : (s.extract 0 k).size = k := by rw [ByteArray.size_extract]; omega
  rw [decode_at, decode_at, hsz, get_cut s k p (by omega) hp]
  have g : ∀ i, p + i < k → ((s.extract 0 k).get! (p + i)).toNat = (s.get! (p + i)).toNat := fun i hi => by rw [get_cut s k (p + i) (by omega) hi]
  have gk : ∀ i, p + i = k → (s.get! (p + i)).toNat = 47 := fun i hi => by
    rw [get_bang s (p + i) (by omega)]
    simp only [hi]
    exact h47
  exact decodeN_cut _ _ _ _ _ _ _ _ _ (by omega) (by omega) (fun h => g 1 (by omega)) (fun h => g 2 (by omega)) (fun h => g 3 (by omega)) (fun h => gk 1 (by omega)) (fun h => gk 2 (by omega)) (fun h => gk 3 (by omega))
theorem strayF_cut (s : ByteArray) (k : Nat) (hk : k < s.size) (h47 : s[k].toNat = 47) : ∀ f g p, f ≤ g → p ≤ k → strayF (s.extract 0 k) f p = true → strayF s g p = true
  | 0, _, _, _, _, h => by cases h
  | f + 1, 0, _, h, _, _ => by omega
  | f + 1, g + 1, p, hfg, hpk, h => by
    have hsz : (s.extract 0 k).size = k := by rw [ByteArray.size_extract]; omega
    unfold strayF at h ⊢
    rw [hsz] at h
    by_cases hp : p < k
    · rw [if_pos hp] at h
      rw [if_pos (by omega : p < s.size)]
      have hd := decode_cut s k hk h47 p hp
      unfold strayAt at h ⊢
      rw [hd] at h
      by_cases hs : Utf8.decode s p = (65533, 1)
      · rw [if_pos (decide_eq_true hs)]
      · rw [if_neg (by rw [decide_eq_false hs]; decide)] at h ⊢
        refine strayF_cut s k hk h47 f g _ (by omega) ?_ h
        rcases decode_run (s.extract 0 k) p (by omega) with ⟨_, h2⟩ | ⟨_, _, _, _, h2, _⟩
        · rw [hd] at h2; rw [h2]; show p + 1 ≤ k; omega
        · rw [hd, hsz] at h2; exact h2
    · rw [if_neg hp] at h; cases h
theorem strays_cut (s : ByteArray) (k : Nat) (hk : k < s.size) (h47 : s[k].toNat = 47) (h : straysB s = false) : straysB (s.extract 0 k) = false := by
  have hsz : (s.extract 0 k).size = k := by rw [ByteArray.size_extract]; omega
  cases e : straysB (s.extract 0 k) with
  | false => rfl
  | true =>
    unfold straysB at e
    rw [hsz] at e
    have := strayF_cut s k hk h47 k s.size 0 (by omega) (by omega) e
    unfold straysB at h
    rw [h] at this
    cases this
end Go.Proofs.YtijfcmlgohbndaaGreatDoor

namespace Go.Proofs.YtijfcmlgohbndaaGreatDoor
set_option maxRecDepth 100000
open Go.RowKit Go.Lib

theorem nums_take (s : ByteArray) (k : Nat) : nums (s.extract 0 k) = (nums s).take k := by unfold nums; rw [Lib.extract_from_zero, List.map_take]
theorem nums_drop_end (s : ByteArray) (k : Nat) : nums (s.extract k s.size) = (nums s).drop k := by unfold nums; rw [Lib.extract_to_end, List.map_drop]
theorem data_bang (s : ByteArray) (i : Nat) (h : i < s.size) : s.data[i]! = s[i] := by
  rw [getElem!_pos s.data i h]
  rfl
/-- The last slash. -/
theorem last_cases (s : ByteArray) : ((parB s).size = 0 ∧ baseB s = s ∧ ∀ x ∈ nums s, x ≠ 47) ∨
    (∃ (k : Nat) (hk : k < s.size), s[k].toNat = 47 ∧ parB s = s.extract 0 k ∧ nums s = nums (parB s) ++ 47 :: nums (baseB s) ∧ ∀ x ∈ nums (baseB s), x ≠ 47) := by
  rcases Lib.lastIdx_spec s 47 s.size with ⟨h, hn⟩ | ⟨i, hi, h, hc, hn⟩
  · left
    have hs : spl s = 0 := by unfold spl Lib.lastIndexByte; rw [h]; rfl
    refine ⟨?_, ?_, ?_⟩
    · unfold parB parN
      rw [hs, ByteArray.size_extract]
      omega
    · unfold baseB
      rw [hs]
      apply ByteArray.ext
      exact Array.toList_inj.1 (by rw [Lib.extract_to_end]; rfl)
    · intro x hx
      obtain ⟨j, hj, rfl⟩ := List.getElem_of_mem hx
      rw [nums_len] at hj
      have h2 := nums_get s j hj
      rw [List.getElem?_eq_getElem (by rw [nums_len]; exact hj)] at h2
      rw [Option.some.inj h2]
      have := hn j hj
      rw [data_bang s j hj] at this
      omega
  · right
    have hs : spl s = (i : Int) + 1 := by unfold spl Lib.lastIndexByte; rw [h]
    have hpn : parN s = i := by unfold parN; rw [hs]; omega
    have hpb : parB s = s.extract 0 i := by unfold parB; rw [hpn]
    have hbb : baseB s = s.extract (i + 1) s.size := by unfold baseB; rw [hs]; rfl
    have hc2 : s[i].toNat = 47 := by
      rw [data_bang s i hi] at hc
      omega
    refine ⟨i, hi, hc2, hpb, ?_, ?_⟩
    · rw [hpb, hbb, nums_take, nums_drop_end]
      have := nums_dropN s i hi
      rw [hc2] at this
      rw [← this, List.take_append_drop]
    · rw [hbb, nums_drop_end]
      intro x hx
      obtain ⟨j, hj, rfl⟩ := List.getElem_of_mem hx
      rw [List.length_drop, nums_len] at hj
      rw [List.getElem_drop]
      have hj2 : i + 1 + j < s.size := by omega
      have h2 := nums_get s (i + 1 + j) hj2
      rw [List.getElem?_eq_getElem (by rw [nums_len]; exact hj2)] at h2
      rw [Option.some.inj h2]
      have := hn (i + 1 + j) (by omega) hj2
      rw [data_bang s _ hj2] at this
      omega
/-- A path that is right. -/
def Right (u : ByteArray) : Prop := readN u = 0 ∧ harmN u = 0
theorem read_zero (s : ByteArray) : readN s = 0 ↔ s.size ≤ 65535 ∧ nums s ≠ [] ∧ straysB s = false := by
  unfold readN
  by_cases h1 : 65535 < s.size
  · rw [decide_eq_true h1, if_pos rfl]
    constructor
    · intro h; exact absurd h (by decide)
    · intro h; omega
  · rw [decide_eq_false h1, if_neg (by decide), isEmpty_nums2]
    constructor
    · intro h
      refine ⟨by omega, ?_, ?_⟩
      · intro e; rw [e] at h; exact absurd h (by simp)
      · cases e : straysB s with
        | false => rfl
        | true => rw [e] at h; exact absurd h (by simp)
    · rintro ⟨_, h2, h3⟩
      rw [h3]
      cases e : nums s with
      | nil => exact absurd e h2
      | cons a b => rfl
theorem suffix_nums (s : ByteArray) : dirB s = true ↔ ∃ a, nums s = a ++ [47] := by
  unfold dirB hasSuffix
  rw [List.isSuffixOf_iff_suffix]
  constructor
  · rintro ⟨t, ht⟩
    exact ⟨t.map UInt8.toNat, by unfold nums; rw [← ht, List.map_append]; rfl⟩
  · rintro ⟨a, ha⟩
    refine ⟨s.data.toList.take a.length, toNat_list_inj _ _ ?_⟩
    rw [List.map_append, List.map_take]
    show (nums s).take a.length ++ [47] = nums s
    rw [ha, List.take_left]
theorem path_false {s : ByteArray} (h : dirB s = false) : pathB s = s := by
  unfold pathB trimSuffix
  unfold dirB at h
  rw [h, if_neg (by decide)]
theorem path_true {s : ByteArray} (h : dirB s = true) : ∃ (k : Nat) (hk : k < s.size), s[k].toNat = 47 ∧ k + 1 = s.size ∧ pathB s = s.extract 0 k := by
  obtain ⟨a, ha⟩ := (suffix_nums s).1 h
  have hl : s.size = a.length + 1 := by rw [← nums_len, ha]; simp
  have hk : a.length < s.size := by omega
  refine ⟨a.length, hk, ?_, hl.symm, ?_⟩
  · have h2 := nums_get s a.length hk
    rw [ha, List.getElem?_append_right (Nat.le_refl _)] at h2
    simpa using h2.symm
  · unfold pathB trimSuffix
    unfold dirB at h
    rw [h, if_pos rfl]
    apply ByteArray.ext
    apply Array.toList_inj.1
    rw [Lib.extract_from_zero]
    have : s.data.toList.length - [(47 : UInt8)].length = a.length := by
      rw [Array.length_toList]
      show s.size - 1 = _
      omega
    rw [this]
theorem chk_right {u : ByteArray} (h : Right u) : chkV u = (u, false, 0) := by
  have hd : dirB u = false := by
    cases e : dirB u with
    | false => rfl
    | true =>
      obtain ⟨a, ha⟩ := (suffix_nums u).1 e
      have := h.2
      rw [harm_L, ha] at this
      exact absurd this (harm_last a)
  unfold chkV
  rw [path_false hd, hd, if_neg (by rw [h.1]; decide), if_neg (by rw [h.2]; decide)]
theorem chk_cases (s : ByteArray) : ((chkV s).2.2 = 0 ∧ (chkV s).1 = pathB s ∧ Right (pathB s)) ∨ ((chkV s).2.2 ≠ 0 ∧ (chkV s).1 = .empty) := by
  unfold chkV
  by_cases h1 : readN s = 0
  · rw [if_neg (by rw [h1]; decide)]
    by_cases h2 : harmN (pathB s) = 0
    · rw [if_neg (by rw [h2]; decide)]
      refine .inl ⟨rfl, rfl, ?_, h2⟩
      obtain ⟨a1, a2, a3⟩ := (read_zero s).1 h1
      have hn : nums (pathB s) ≠ [] := by
        rw [harm_L] at h2
        exact ((harm_zero _).1 h2).2.1
      refine (read_zero _).2 ⟨?_, hn, ?_⟩
      · have := path_le s; omega
      · cases e : dirB s with
        | false => rw [path_false e]; exact a3
        | true =>
          obtain ⟨k, hk, h47, _, hp⟩ := path_true e
          rw [hp]
          exact strays_cut s k hk h47 a3
    · rw [if_pos h2]
      exact .inr ⟨h2, rfl⟩
  · rw [if_pos h1]
    exact .inr ⟨h1, rfl⟩
theorem empty_of_size {s : ByteArray} (h : s.size = 0) : nums s = [] := List.length_eq_zero_iff.1 (by rw [nums_len]; exact h)
theorem right_parent {u : ByteArray} (h : Right u) : misB (baseB u) = false ∧ ((parB u).toList.isEmpty = true ∨ Right (parB u)) := by
  obtain ⟨h1, h2⟩ := h
  rw [harm_L] at h2
  obtain ⟨a1, a2, a3⟩ := (read_zero u).1 h1
  rcases last_cases u with ⟨b1, b2, b3⟩ | ⟨k, hk, h47, hp, hn, hb⟩
  · refine ⟨?_, .inl ?_⟩
    · rw [b2, misB_L]; exact harm_lone _ b3 h2
    · rw [isEmpty_nums2, empty_of_size b1]; rfl
  · rw [hn] at h2
    obtain ⟨c1, c2⟩ := harm_parent _ _ hb h2
    refine ⟨by rw [misB_L]; exact c1, ?_⟩
    by_cases he : nums (parB u) = []
    · left; rw [isEmpty_nums2, he]; rfl
    · right
      refine ⟨(read_zero _).2 ⟨?_, he, ?_⟩, by rw [harm_L]; exact c2 he⟩
      · rw [hp, ByteArray.size_extract]; omega
      · rw [hp]; exact strays_cut u k hk h47 a3
/-- One of a path's parents, or it. -/
def Ahead (p u : ByteArray) : Prop := nums p = nums u ∨ ∃ r, nums p = nums u ++ 47 :: r
theorem Ahead.up {p u : ByteArray} (h : Ahead p u) (hne : (parB u).toList.isEmpty = false) : Ahead p (parB u) := by
  rcases last_cases u with ⟨b1, _, _⟩ | ⟨k, hk, h47, hp, hn, hb⟩
  · rw [isEmpty_nums2, empty_of_size b1] at hne; cases hne
  · right
    rcases h with h | ⟨r, h⟩
    · exact ⟨_, h.trans hn⟩
    · exact ⟨nums (baseB u) ++ 47 :: r, by rw [h, hn]; simp⟩
theorem Ahead.order {p u : ByteArray} (h : Ahead p u) : ordT u p ≤ 0 := by
  unfold ordT
  rcases h with h | ⟨r, h⟩
  · rw [h, ordL_self]; decide
  · rw [h]; exact ordL_prefix _ _
theorem Ahead.under {p u : ByteArray} (h : Ahead p u) : undB p u = true := by
  have hd : ∃ t : List UInt8, p.data.toList = u.data.toList ++ t ∧ (t = [] ∨ ∃ q, t = 47 :: q) := by
    rcases h with h | ⟨r, h⟩
    · exact ⟨[], by rw [List.append_nil]; exact toNat_list_inj _ _ h, .inl rfl⟩
    · have h1 : p.data.toList.take u.data.toList.length = u.data.toList := toNat_list_inj _ _ (by
        rw [List.map_take]
        show (nums p).take _ = nums u
        rw [h, show u.data.toList.length = (nums u).length by simp [nums], List.take_left])
      have h2 : (p.data.toList.drop u.data.toList.length).map UInt8.toNat = 47 :: r := by
        rw [List.map_drop]
        show (nums p).drop _ = _
        rw [h, show u.data.toList.length = (nums u).length by simp [nums], List.drop_left]
      refine ⟨p.data.toList.drop u.data.toList.length, ?_, .inr ?_⟩
      · conv => lhs; rw [← List.take_append_drop u.data.toList.length p.data.toList, h1]
      · cases e : p.data.toList.drop u.data.toList.length with
        | nil => rw [e] at h2; cases h2
        | cons x q =>
          rw [e, List.map_cons] at h2
          injection h2 with h3 _
          exact ⟨q, by rw [show x = 47 from UInt8.toNat_inj.1 h3]⟩
  obtain ⟨t, ht, hq⟩ := hd
  unfold undB
  have h1 : Lib.hasPrefix p.data.toList u.data.toList = true := by
    unfold Lib.hasPrefix
    rw [List.isPrefixOf_iff_prefix]
    exact ⟨t, ht.symm⟩
  have h2 : Lib.trimPrefix p.data.toList u.data.toList = t := by
    unfold Lib.trimPrefix
    rw [h1, if_pos rfl, ht, List.drop_left]
  rw [h1, h2]
  rcases hq with rfl | ⟨q, rfl⟩
  · simp
  · have : Lib.hasPrefix (47 :: q) [47] = true := by unfold Lib.hasPrefix; rfl
    rw [this]
    simp
theorem parent_smaller {u : ByteArray} (h : u.toList.isEmpty = false) : (parB u).size < u.size := by
  have hu : u.size ≠ 0 := fun e => by rw [isEmpty_nums2, empty_of_size e] at h; cases h
  rcases last_cases u with ⟨b1, _, _⟩ | ⟨k, hk, h47, hp, hn, hb⟩
  · omega
  · rw [hp, ByteArray.size_extract]; omega
end Go.Proofs.YtijfcmlgohbndaaGreatDoor

namespace Go.Proofs.YtijfcmlgohbndaaGreatDoor
set_option maxRecDepth 100000
open Go.RowKit Go.Deep Go.Joins Go.Lib

theorem row_slice {w : World} {B n z : Nat} {e : TypeId} {v : Value} {l : List Value} (h : w.ownsRow B e z v n l) : ∃ A c, v = .slice A n c := by
  rcases h.2 with ⟨rfl, rfl⟩ | ⟨g, cap, cur, rfl, _⟩
  · exact ⟨_, _, rfl⟩
  · exact ⟨_, _, rfl⟩
theorem own_below {w w' : World} {base size n : Nat} {e : TypeId} {v : Value} {xs : List Value} (h : w.ownsRow base e size v n xs) (hb : Below w.heap.size w w') : w'.ownsRow base e size v n xs :=
  h.kept (row := none) ⟨hb.os, hb.tape, hb.output, hb.size, fun i hi _ => hb.block i hi⟩ (by cases hv : v.ownBlock <;> simp)
def strC (ss : List (List Nat)) : List Value := ss.map fun l => Value.string (text l)
theorem info9 : (Tryz.prog.info? 9).map (fun i => (i.zero, i.size, i.bytes)) = some (some (.string ByteArray.empty), 1, 16) := by kernel_rfl
theorem text_snoc (l : List Nat) (s : ByteArray) (k : Nat) (h : k < s.size) : text l ++ s.extract k (k + 1) = text (l ++ [s[k].toNat]) := by
  have e : s.extract k (k + 1) = text [s[k].toNat] := by
    have h1 : nums (s.extract k (k + 1)) = [s[k].toNat] := by
      unfold nums
      rw [Lib.extract_data]
      rw [List.map_take, List.map_drop]
      show ((nums s).drop k).take _ = _
      rw [nums_dropN s k h, show k + 1 - k = 1 by omega]
      rfl
    rw [← text_nums (s.extract k (k + 1)), h1]
  rw [e]
  apply ByteArray.ext
  simp [text]
theorem foldl_le : ∀ (l : List Nat) (x : List (List Nat) × List Nat), (l.foldl stepP x).1.length ≤ x.1.length + l.length
  | [], x => Nat.le_refl _
  | c :: r, x => by
    rw [List.foldl_cons]
    have h := foldl_le r (stepP x c)
    have h2 : (stepP x c).1.length ≤ x.1.length + 1 := by
      unfold stepP
      split
      · simp
      · show x.1.length ≤ _; omega
    rw [List.length_cons]
    omega
theorem ptS_le (l : List Nat) : (ptS l).1.length ≤ l.length := by
  have := foldl_le l ([], [])
  simpa [ptS] using this
theorem foldl_le2 : ∀ (l : List Nat) (x : List (List Nat) × List Nat), (l.foldl stepP x).2.length ≤ x.2.length + l.length
  | [], x => Nat.le_refl _
  | c :: r, x => by
    rw [List.foldl_cons]
    have h := foldl_le2 r (stepP x c)
    have h2 : (stepP x c).2.length ≤ x.2.length + 1 := by
      unfold stepP
      split
      · simp
      · simp
    rw [List.length_cons]
    omega
theorem ptS_le2 (l : List Nat) : (ptS l).2.length ≤ l.length := by
  have := foldl_le2 l ([], [])
  simpa [ptS] using this
theorem parts_done (l : List Nat) (h : l ≠ []) : (ptS l).1 ++ [(ptS l).2] = partsL l := by
  rw [ptS_end]; unfold partsL; rw [if_neg h]
end Go.Proofs.YtijfcmlgohbndaaGreatDoor
