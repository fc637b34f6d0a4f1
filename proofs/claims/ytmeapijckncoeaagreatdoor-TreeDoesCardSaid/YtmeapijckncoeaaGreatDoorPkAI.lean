/-
  Contracts: the document's Parent, Base, Under.
  Contracts: the document's Strays, Check.
  Contract: the document's Check.
-/
import Derived.Test.YtmeapijckncoeaaGreatDoorPkAH
import Derived.Test.YtmeapijckncoeaaGreatDoorPkAG

namespace Go.Proofs.YtmeapijckncoeaaGreatDoor
set_option maxRecDepth 100000
open Go.RowKit Go.Deep Go.Joins Go.Lib

theorem last_facts (s : ByteArray) : -1 ≤ lastIndexByte s 47 ∧ lastIndexByte s 47 < s.size ∧ (∀ j (h : j < s.size), lastIndexByte s 47 < (j : Int) → s[j].toNat ≠ 47) ∧ (∀ j (h : j < s.size), lastIndexByte s 47 = (j : Int) → s[j].toNat = 47) := by
  rcases Lib.lastIdx_spec s 47 s.size with ⟨h, hn⟩ | ⟨i, hi, h, hc, hn⟩
  · have e : lastIndexByte s 47 = -1 := h
    rw [e]
    refine ⟨by omega, by omega, fun j hj _ => ?_, fun j hj h2 => by omega⟩
    have := hn j hj
    rw [data_bang s j hj] at this
    omega
  · have e : lastIndexByte s 47 = (i : Int) := h
    rw [e]
    refine ⟨by omega, by omega, fun j hj h2 => ?_, fun j hj h2 => ?_⟩
    · have := hn j (by omega) hj
      rw [data_bang s j hj] at this
      omega
    · obtain rfl : i = j := by omega
      rw [data_bang s i hj] at hc
      omega
theorem par_hit (s : ByteArray) (j : Nat) (h : lastIndexByte s 47 = (j : Int)) : parB s = s.extract 0 j := by
  unfold parB parN spl
  rw [h]
  congr 1
  omega
theorem par_none (s : ByteArray) (h : lastIndexByte s 47 = -1) : parB s = ByteArray.empty := by
  unfold parB parN spl
  rw [h]
  apply ByteArray.ext
  apply Array.toList_inj.1
  rw [Lib.extract_from_zero]
  rfl
theorem base_hit (s : ByteArray) (j : Nat) (h : lastIndexByte s 47 = (j : Int)) : baseB s = s.extract (j + 1) s.size := by
  unfold baseB spl
  rw [h]
  rfl
theorem base_none (s : ByteArray) (h : lastIndexByte s 47 = -1) : baseB s = s := by
  unfold baseB spl
  rw [h]
  apply ByteArray.ext
  apply Array.toList_inj.1
  rw [Lib.extract_to_end]
  rfl
set_option maxHeartbeats 4000000 in
theorem rparent_any (s : ByteArray) (w : World) (hs : s.size ≤ 1000000) :
    Calls Tryz.prog 26 #[.string s] w fun e w' => e = .returned (.string (parB s)) ∧ w' = w := by
  obtain ⟨l1, l2, l3, l4⟩ := last_facts s
  have HF := Lib.hid l3
  have HG := Lib.hid l4
  have HL : Hid (-1 ≤ lastIndexByte s 47 ∧ lastIndexByte s 47 < s.size) := ⟨l1, l2⟩
  have HH := Lib.hid (fun j h => par_hit s j h)
  have HN := Lib.hid (fun h => par_none s h)
  clear l1 l2 l3 l4
  generalize lastIndexByte s 47 = L at *
  generalize parB s = p at *
  go_enter Tryz.func26, Tryz.ntmps26
  go_wp2_with fail
  go_loopw [3] (fun i wr => ∃ q : Int, i = .int .i64 q ∧ -1 ≤ q ∧ q < s.size ∧ Hid (L ≤ q) ∧ wr = w) (fun i _ => (intOf i + 1).toNat)
  case atStart => exact ⟨(s.size : Int) - 1, rfl, by omega, by omega, by have := HL.out; show _ ≤ _; omega, rfl⟩
  case round =>
    obtain ⟨q, rfl, h1, h2, HQ, rfl⟩ := hrel
    by_cases hq : q = -1
    · subst hq
      have HE := Lib.hid (HN.out (by have := HQ.out; have := HL.out; omega))
      go_wp2_with fail
      go_ret
      rw [HE.out]
      exact ⟨rfl, rfl⟩
    · obtain ⟨j, rfl⟩ : ∃ j : Nat, q = j := ⟨q.toNat, by omega⟩
      have hj : j < s.size := by omega
      by_cases h47 : s[j].toNat = 47
      · have g1 : ((s[j].toNat : Int) == 47) = true := by rw [h47]; rfl
        have HE : Hid (p = s.extract 0 j) := HH.out j (by
          have h3 := HQ.out
          by_cases e : L = (j : Int)
          · exact e
          · exact absurd h47 (HF.out j hj (by omega)))
        have hjs : j ≤ s.size := by omega
        clear h47 hq h1 h2
        go_wp2_with fail
        go_ret
        rw [HE.out]
        exact ⟨rfl, rfl⟩
      · have g1 : ((s[j].toNat : Int) == 47) = false := by rw [beq_eq_false_iff_ne]; omega
        have HE : Hid (L ≤ (j : Int) - 1) := by
          have h3 := HQ.out
          by_cases e : L = (j : Int)
          · exact absurd (HG.out j hj e) h47
          · show _ ≤ _; omega
        clear h47 hq h1 h2
        go_wp2_with fail
        go_roundw
        case rel => exact ⟨(j : Int) - 1, rfl, by omega, by omega, HE, trivial⟩
        case measure => simp [intOf]
/-! ### Under -/
theorem prefix_iff (a r : ByteArray) : hasPrefix a.data.toList r.data.toList = true ↔ r.size ≤ a.size ∧ a.extract 0 r.size = r := by
  unfold hasPrefix
  rw [List.isPrefixOf_iff_prefix]
  constructor
  · rintro ⟨t, ht⟩
    have hl := congrArg List.length ht
    rw [List.length_append, ← Lib.size_eq, ← Lib.size_eq] at hl
    refine ⟨by omega, ?_⟩
    apply ByteArray.ext
    apply Array.toList_inj.1
    rw [Lib.extract_from_zero, ← ht]
    rw [show r.size = r.data.toList.length by rw [Array.length_toList]; rfl, List.take_left]
  · rintro ⟨_, h⟩
    refine ⟨a.data.toList.drop r.size, ?_⟩
    have := congrArg (fun b : ByteArray => b.data.toList) h
    simp only [Lib.extract_from_zero] at this
    conv => lhs; lhs; rw [← this]
    exact List.take_append_drop _ _
theorem und_nil (a r : ByteArray) (h : r.toList.isEmpty = true) : undB a r = true := by
  rw [Lib.toList_data] at h
  have hr : r.data.toList = [] := List.isEmpty_iff.1 h
  unfold undB hasPrefix
  rw [hr]
  simp
theorem und_self (a : ByteArray) : undB a a = true := by
  have h : hasPrefix a.data.toList a.data.toList = true := by unfold hasPrefix; rw [List.isPrefixOf_iff_prefix]; exact ⟨[], List.append_nil _⟩
  unfold undB trimPrefix
  rw [h]
  simp
theorem und_no (a r : ByteArray) (h : ¬ (r.size ≤ a.size ∧ a.extract 0 r.size = r)) : undB a r = false := by
  have h2 : hasPrefix a.data.toList r.data.toList = false := by
    cases e : hasPrefix a.data.toList r.data.toList with
    | false => rfl
    | true => exact absurd ((prefix_iff a r).1 e) h
  unfold undB
  rw [h2]
  rfl
theorem und_at (a r : ByteArray) (hr : r.toList.isEmpty = false) (hs : r.size < a.size) (he : a.extract 0 r.size = r) : undB a r = decide (a[r.size].toNat = 47) := by
  have h := (prefix_iff a r).2 ⟨by omega, he⟩
  rw [Lib.toList_data] at hr
  unfold undB trimPrefix
  rw [h, if_pos rfl, hr]
  have hl : r.data.toList.length = r.size := by rw [Array.length_toList]; rfl
  rw [hl]
  have hd : a.data.toList.drop r.size = a[r.size] :: a.data.toList.drop (r.size + 1) := by
    have hla : r.size < a.data.toList.length := by rw [Array.length_toList]; exact hs
    rw [List.drop_eq_getElem_cons hla]
    rfl
  rw [hd]
  unfold hasPrefix
  by_cases h47 : a[r.size].toNat = 47
  · rw [decide_eq_true h47, show a[r.size] = 47 from UInt8.toNat_inj.1 h47]
    rfl
  · rw [decide_eq_false h47]
    have : ((47 : UInt8) == a[r.size]) = false := by
      rw [beq_eq_false_iff_ne]
      exact fun e => h47 (by rw [← e]; rfl)
    simp [List.isPrefixOf, this]
set_option maxHeartbeats 4000000 in
theorem runder_any (a r : ByteArray) (w : World) :
    Calls Tryz.prog 42 #[.string a, .string r] w fun e w' => e = .returned (.bool (undB a r)) ∧ w' = w := by
  cases hr : r.toList.isEmpty with
  | true =>
    have HU := Lib.hid (und_nil a r hr)
    go_enter Tryz.func42, Tryz.ntmps42
    go_wp2_with fail
    go_ret
    rw [HU.out]
    exact ⟨rfl, rfl⟩
  | false =>
    cases hq : (a.toList == r.toList) with
    | true =>
      have HU : Hid (undB a r = true) := by
        rw [eq_texts] at hq
        have := of_decide_eq_true hq
        subst this
        exact und_self a
      go_enter Tryz.func42, Tryz.ntmps42
      go_wp2_with fail
      go_ret
      rw [HU.out]
      exact ⟨rfl, rfl⟩
    | false =>
      by_cases hs : r.size < a.size
      · have g1 : decide ((r.size : Int) < (a.size : Int)) = true := decide_eq_true (by omega)
        have hle : r.size ≤ a.size := by omega
        cases he : ((a.extract 0 r.size).toList == r.toList) with
        | true =>
          have hee : a.extract 0 r.size = r := by rw [eq_texts] at he; exact of_decide_eq_true he
          have HU := Lib.hid (und_at a r hr hs hee)
          clear hee
          by_cases h47 : a[r.size].toNat = 47
          · have g2 : ((a[r.size].toNat : Int) == 47) = true := by rw [h47]; rfl
            have HU2 : Hid (undB a r = true) := by show _ = _; rw [HU.out, decide_eq_true h47]
            clear h47
            go_enter Tryz.func42, Tryz.ntmps42
            go_wp2_with fail
            go_ret
            rw [HU2.out]
            exact ⟨rfl, rfl⟩
          · have g2 : ((a[r.size].toNat : Int) == 47) = false := by rw [beq_eq_false_iff_ne]; omega
            have HU2 : Hid (undB a r = false) := by show _ = _; rw [HU.out, decide_eq_false h47]
            clear h47
            go_enter Tryz.func42, Tryz.ntmps42
            go_wp2_with fail
            go_ret
            rw [HU2.out]
            exact ⟨rfl, rfl⟩
        | false =>
          have HU2 : Hid (undB a r = false) := und_no a r (fun h => by rw [eq_texts, decide_eq_true h.2] at he; cases he)
          go_enter Tryz.func42, Tryz.ntmps42
          go_wp2_with fail
          go_ret
          rw [HU2.out]
          exact ⟨rfl, rfl⟩
      · have g1 : decide ((r.size : Int) < (a.size : Int)) = false := decide_eq_false (by omega)
        have HU2 : Hid (undB a r = false) := und_no a r (fun h => by
          have e : r.size = a.size := by omega
          have h2 := h.2
          rw [e] at h2
          have h3 : a = r := by
            rw [← h2]
            apply ByteArray.ext
            apply Array.toList_inj.1
            rw [Lib.extract_from_zero, show a.size = a.data.toList.length by rw [Array.length_toList]; rfl, List.take_length]
          rw [eq_texts, decide_eq_true h3] at hq
          cases hq)
        go_enter Tryz.func42, Tryz.ntmps42
        go_wp2_with fail
        go_ret
        rw [HU2.out]
        exact ⟨rfl, rfl⟩
end Go.Proofs.YtmeapijckncoeaaGreatDoor

namespace Go.Proofs.YtmeapijckncoeaaGreatDoor
set_option maxRecDepth 100000
open Go.RowKit Go.Deep Go.Joins Go.Lib

set_option maxHeartbeats 4000000 in
theorem rstrays_any (s : ByteArray) (w : World) (hs : s.size ≤ 1000000) :
    Calls Tryz.prog 80 #[.string s] w fun e w' => e = .returned (.bool (straysB s)) ∧ w' = w := by
  go_enter Tryz.func80, Tryz.ntmps80
  go_wp2_with fail
  go_loopw [3] (fun i wr => ∃ (pos f : Nat), i = .int .i64 (pos : Nat) ∧ pos ≤ s.size ∧ wr = w ∧ Hid (strayF s f pos = straysB s) ∧ s.size ≤ pos + f) (fun i _ => s.size - (intOf i).toNat)
  case atStart => exact ⟨0, s.size, rfl, Nat.zero_le _, rfl, rfl, by omega⟩
  case round =>
    obtain ⟨pos, f, rfl, hle, rfl, HC, hb⟩ := hrel
    by_cases hp : pos < s.size
    · have HONE := Lib.hid (fun w => one_any s pos hp hs w)
      have hwd := decode_pos s pos hp
      have hend : pos + (Utf8.decode s pos).2 ≤ s.size := by
        rcases decode_run s pos hp with ⟨_, h2⟩ | ⟨_, _, _, _, h2, _⟩
        · rw [h2]; show pos + 1 ≤ _; omega
        · exact h2
      have HN : Hid (∃ f', f = f' + 1 ∧ (strayAt s pos = true → straysB s = true) ∧ (strayAt s pos = false → strayF s f' (pos + (Utf8.decode s pos).2) = straysB s)) := by
        cases f with
        | zero => exact absurd hb (by omega)
        | succ f =>
          refine ⟨f, rfl, fun h => ?_, fun h => ?_⟩
          · have := HC.out; rw [strayF, if_pos hp, if_pos h] at this; exact this.symm
          · have := HC.out; rw [strayF, if_pos hp, if_neg (by rw [h]; decide)] at this; exact this
      have HR : Hid (oneR s pos = if strayAt s pos = true then (-1 : Int) else (((Utf8.decode s pos).1 : Nat) : Int)) := rfl
      generalize oneR s pos = r at *
      generalize (Utf8.decode s pos).2 = k at *
      clear HC
      cases hst : strayAt s pos with
      | true =>
        rw [hst] at HR HN
        have hr : r = -1 := HR.out
        have HX : Hid (straysB s = true) := by obtain ⟨_, _, h, _⟩ := HN.out; exact h rfl
        subst hr
        clear HN HR
        go_wp2_with fail
        refine (HONE.out _).mono ?_
        rintro e w1 ⟨rfl, rfl⟩
        go_wp2_with fail
        go_ret
        rw [HX.out]
        exact ⟨rfl, rfl⟩
      | false =>
        rw [hst] at HR HN
        have hr : r = ((Utf8.decode s pos).1 : Nat) := HR.out
        obtain ⟨f', hf, _, hh⟩ := HN.out
        have HX : Hid (strayF s f' (pos + k) = straysB s) := hh rfl
        have hr0 : 0 ≤ r := by omega
        obtain ⟨q, hq, hqi⟩ : ∃ q : Nat, pos + k = q ∧ ((pos : Int) + (k : Int)) = (q : Int) := ⟨pos + k, rfl, by omega⟩
        rw [hq] at HX hend
        have HQ := Lib.hid hq
        clear HN HR hr hh hq
        go_wp2_with fail
        refine (HONE.out _).mono ?_
        rintro e w1 ⟨rfl, rfl⟩
        go_wp2_with fail
        go_roundw
        case rel => exact ⟨q, f', rfl, hend, by first | rfl | trivial, HX, by have := HQ.out; omega⟩
        case measure => have := HQ.out; simp [intOf]; omega
    · have HX : Hid (straysB s = false) := by
        have := HC.out
        rw [strayF_end s f pos hp] at this
        exact this.symm
      go_wp2_with fail
      go_ret
      rw [HX.out]
      exact ⟨rfl, rfl⟩

/-- What the document's Check answers is what the program's does. -/
theorem chk_long {s : ByteArray} (h : 65535 < s.size) : chkV s = (.empty, false, 5) := by
  have : readN s = 5 := by unfold readN; rw [decide_eq_true h]; rfl
  unfold chkV
  rw [this]
  rfl
theorem chk_read {s : ByteArray} (h : s.size ≤ 65535) (h2 : s.size = 0 ∨ straysB s = true) : chkV s = (.empty, false, 20) := by
  have : readN s = 20 := by
    unfold readN
    rw [decide_eq_false (by omega), if_neg (by decide), isEmpty_nums2]
    rcases h2 with h2 | h2
    · rw [empty_of_size h2]; rfl
    · rw [h2]; cases (nums s).isEmpty <;> rfl
  unfold chkV
  rw [this]
  rfl
theorem chk_rest {s : ByteArray} (h : s.size ≤ 65535) (h0 : s.size ≠ 0) (h2 : straysB s = false) : chkV s = if harmL (nums (pathB s)) = 0 then (pathB s, dirB s, 0) else (.empty, false, harmL (nums (pathB s))) := by
  have : readN s = 0 := (read_zero s).2 ⟨h, fun e => h0 (by rw [← nums_len, e]; rfl), h2⟩
  unfold chkV
  rw [this, if_neg (by decide), harm_L]
  by_cases e : harmL (nums (pathB s)) = 0
  · rw [if_neg (by rw [e]; decide), if_pos e]
  · rw [if_pos e, if_neg e]
theorem path_last (s : ByteArray) (h0 : 0 < s.size) : (s[s.size - 1].toNat = 47 ∧ pathB s = s.extract 0 (s.size - 1) ∧ dirB s = true) ∨ (s[s.size - 1].toNat ≠ 47 ∧ pathB s = s ∧ dirB s = false) := by
  cases hd : dirB s with
  | true =>
    obtain ⟨k, hk, h47, hks, hp⟩ := path_true hd
    obtain rfl : k = s.size - 1 := by omega
    exact .inl ⟨h47, hp, rfl⟩
  | false =>
    refine .inr ⟨fun h47 => ?_, path_false hd, rfl⟩
    have hx : dirB s = true := (suffix_nums s).2 ⟨(nums s).take (s.size - 1), by
      have h1 := nums_snoc s (s.size - 1) (by omega)
      rw [h47, show s.size - 1 + 1 = s.size by omega] at h1
      rw [← h1, ← nums_len, List.take_length]⟩
    rw [hd] at hx
    cases hx
theorem bad_path (s : ByteArray) (h0 : 0 < s.size) : badL (nums (pathB s)) = badL (nums s) := by
  rcases path_last s h0 with ⟨h47, hp, _⟩ | ⟨_, hp, _⟩
  · rw [hp, nums_take]
    have h1 := nums_snoc s (s.size - 1) (by omega)
    rw [h47, show s.size - 1 + 1 = s.size by omega, show (nums s).take s.size = nums s by rw [← nums_len, List.take_length]] at h1
    conv => rhs; rw [h1]
    unfold badL
    rw [List.any_append]
    simp
  · rw [hp]
/-- The answer by what is found: bad bytes, no parts, parts that mislead, parts that are too long or too many. -/
theorem harm_bad {l : List Nat} (h : badL l = true) : harmL l = 21 := by unfold harmL; rw [h]; rfl
theorem harm_none {l : List Nat} (h : partsL l = []) : harmL l = 21 := by unfold harmL; rw [h]; cases badL l <;> rfl
theorem harm_mis {l : List Nat} (h : (partsL l).any misL = true) : harmL l = 21 := by unfold harmL; rw [h]; cases badL l <;> cases ((partsL l).length == 0) <;> rfl
theorem harm_long {l : List Nat} (h1 : badL l = false) (h2 : partsL l ≠ []) (h3 : (partsL l).any misL = false) (h : 32 < (partsL l).length ∨ (partsL l).any longL = true) : harmL l = 5 := by
  unfold harmL
  have hn : ((partsL l).length == 0) = false := by rw [beq_eq_false_iff_ne]; exact fun e => h2 (List.length_eq_zero_iff.1 e)
  rw [h1, hn, h3]
  rcases h with h | h
  · rw [decide_eq_true h]; rfl
  · rw [h]; cases decide (32 < (partsL l).length) <;> rfl
theorem harm_fine {l : List Nat} (h1 : badL l = false) (h2 : partsL l ≠ []) (h3 : (partsL l).any misL = false) (h4 : ¬ 32 < (partsL l).length) (h5 : (partsL l).any longL = false) : harmL l = 0 := by
  unfold harmL
  have hn : ((partsL l).length == 0) = false := by rw [beq_eq_false_iff_ne]; exact fun e => h2 (List.length_eq_zero_iff.1 e)
  rw [h1, hn, h3, decide_eq_false h4, h5]
  rfl
end Go.Proofs.YtmeapijckncoeaaGreatDoor

namespace Go.Proofs.YtmeapijckncoeaaGreatDoor
set_option maxRecDepth 100000
open Go.RowKit Go.Deep Go.Joins Go.Lib

set_option maxHeartbeats 8000000 in
theorem rcheck_dir (s : ByteArray) (w : World) (hs : s.size ≤ 65535) (h0 : 0 < s.size) (hst : straysB s = false) (h47 : s[s.size - 1].toNat = 47) (hp : pathB s = s.extract 0 (s.size - 1)) (hd : dirB s = true) :
    Calls Tryz.prog 54 #[.string s] w fun e w' => e = .returned (.tuple #[.string (chkV s).1, .bool (chkV s).2.1, .int .i64 (chkV s).2.2]) ∧ Below w.heap.size w w' := by
      have HST := Lib.hid (fun w => rstrays_any s w (by omega))
      rw [hst] at HST
      have HBP := bad_path s h0
      have HREST := chk_rest (s := s) (by omega) (by omega) hst
      rw [hd] at HREST
      have HPT := Lib.hid (fun w => rparts_any (pathB s) w (by have := path_le s; omega))
      have H21 : Hid (badL (nums s) = true → chkV s = (.empty, false, 21)) := fun h => by rw [HREST, harm_bad (by rw [HBP]; exact h)]; rfl
      have HNO : Hid ((partsL (nums (pathB s))).length = 0 → chkV s = (.empty, false, 21)) := fun h => by rw [HREST, harm_none (List.length_eq_zero_iff.1 h)]; rfl
      have HMI : Hid ((partsL (nums (pathB s))).any misL = true → chkV s = (.empty, false, 21)) := fun h => by rw [HREST, harm_mis h]; rfl
      have HLO : Hid (badL (nums s) = false → (partsL (nums (pathB s))).length ≠ 0 → (partsL (nums (pathB s))).any misL = false → (32 < (partsL (nums (pathB s))).length ∨ (partsL (nums (pathB s))).any longL = true) → chkV s = (.empty, false, 5)) := fun a b c d => by rw [HREST, harm_long (by rw [HBP]; exact a) (fun e => b (by rw [e]; rfl)) c d]; rfl
      have HOK : Hid (badL (nums s) = false → (partsL (nums (pathB s))).length ≠ 0 → (partsL (nums (pathB s))).any misL = false → ¬ 32 < (partsL (nums (pathB s))).length → (partsL (nums (pathB s))).any longL = false → chkV s = (pathB s, true, 0)) := fun a b c d e => by rw [HREST, harm_fine (by rw [HBP]; exact a) (fun e => b (by rw [e]; rfl)) c d e]; rfl
      have HMX : Hid (∀ x ∈ partsL (nums (pathB s)), nums (text x) = x) := fun x hx => nums_text x (parts_lt _ x hx)
      have HSX : Hid (∀ x ∈ partsL (nums (pathB s)), x.length ≤ 65535) := fun x hx => by have := part_size _ x hx; have := path_le s; omega
      have hxl : (partsL (nums (pathB s))).length ≤ 100000 := by have := parts_len (pathB s); have := path_le s; omega
      clear HBP HREST hst hd
      generalize partsL (nums (pathB s)) = xs at *
      obtain ⟨l, hl, hli⟩ : ∃ l : Nat, s.size - 1 = l ∧ ((s.size : Int) - 1) = (l : Int) := ⟨s.size - 1, rfl, by omega⟩
      have hls : l < s.size := by omega
      have hls2 : l ≤ s.size := by omega
      have g47 : ((s[l].toNat : Int) == 47) = true := by
        subst hl
        rw [h47]; rfl
      rw [hl] at hp
      have gsz : ((s.size : Int) == 0) = false := by rw [beq_eq_false_iff_ne]; omega
      rw [hp] at HPT HOK
      have hpe : Hid (s.extract 0 l = s.extract 0 l) := rfl
      generalize hpp : s.extract 0 l = p at HPT HOK
      clear h47 hl hp hpe
      go_enter Tryz.func54, Tryz.ntmps54
      go_wp2_with fail
      refine (HST.out _).mono ?_
      rintro e w0 ⟨rfl, rfl⟩
      go_wp2_with fail
      go_loopw [7] (fun i wr => ∃ k : Nat, k ≤ s.size ∧ i = .int .i64 (k : Nat) ∧ wr = w0 ∧ Hid (badL ((nums s).take k) = false)) (fun i _ => s.size - (intOf i).toNat)
      case atStart => exact ⟨0, Nat.zero_le _, rfl, rfl, rfl⟩
      case round =>
        obtain ⟨k, hk, rfl, rfl, HBD⟩ := hrel
        by_cases hks : k < s.size
        · have HSN : Hid (badL ((nums s).take (k + 1)) = (badL ((nums s).take k) || (decide (s[k].toNat = 0) || decide (s[k].toNat = 92)))) := by
            show _ = _
            rw [nums_snoc s k hks]
            unfold badL
            rw [List.any_append]
            simp
          have HALL : Hid (badL ((nums s).take (k + 1)) = true → badL (nums s) = true) := fun h => by
            have e := List.take_append_drop (k + 1) (nums s)
            rw [← e]
            unfold badL at h ⊢
            rw [List.any_append, h]
            rfl
          by_cases h0 : s[k].toNat = 0
          · have HB : Hid (chkV s = (.empty, false, 21)) := H21.out (HALL.out (by rw [HSN.out, decide_eq_true h0]; simp))
            have g0 : ((s[k].toNat : Int) == 0) = true := by rw [h0]; rfl
            clear h0
            go_wp2_with fail
            go_ret3
            rw [HB.out]
            exact ⟨rfl, Below.refl _ _⟩
          · have g0 : ((s[k].toNat : Int) == 0) = false := by rw [beq_eq_false_iff_ne]; omega
            by_cases h92 : s[k].toNat = 92
            · have HB : Hid (chkV s = (.empty, false, 21)) := H21.out (HALL.out (by rw [HSN.out, decide_eq_true h92]; simp))
              have g1 : ((s[k].toNat : Int) == 92) = true := by rw [h92]; rfl
              clear h0 h92
              go_wp2_with fail
              go_ret3
              rw [HB.out]
              exact ⟨rfl, Below.refl _ _⟩
            · have g1 : ((s[k].toNat : Int) == 92) = false := by rw [beq_eq_false_iff_ne]; omega
              have HB : Hid (badL ((nums s).take (k + 1)) = false) := by show _ = _; rw [HSN.out, HBD.out, decide_eq_false h0, decide_eq_false h92]; rfl
              clear h0 h92
              go_wp2_with fail
              go_roundw
              case rel => exact ⟨k + 1, by omega, by go_num, by first | rfl | trivial, HB⟩
              case measure => simp [intOf]; omega
        · obtain rfl : k = s.size := by omega
          have HBF : Hid (badL (nums s) = false) := by
            have := HBD.out
            rw [show (nums s).take s.size = nums s by rw [← nums_len, List.take_length]] at this
            exact this
          clear HBD
          go_wp2_with fail
          refine (HPT.out _).mono ?_
          rintro e w1 ⟨v1, rfl, ho1, hb1⟩
          obtain ⟨A1, c1, rfl⟩ := row_slice ho1
          have HO1 := Lib.hid ho1
          have HB1 := Lib.hid hb1
          clear ho1 hb1
          by_cases hn : xs.length = 0
          · have g0 : ((xs.length : Int) == 0) = true := by rw [beq_iff_eq]; omega
            have HB : Hid (chkV s = (.empty, false, 21)) := HNO.out hn
            clear hn
            go_wp2_with fail
            go_ret3
            rw [HB.out]
            exact ⟨rfl, HB1.out⟩
          · have g0 : ((xs.length : Int) == 0) = false := by rw [beq_eq_false_iff_ne]; omega
            have HNE : Hid (xs.length ≠ 0) := hn
            clear hn
            go_wp2_with fail
            go_loopw [58] (fun i wr => ∃ k : Nat, k ≤ xs.length ∧ i = .int .i64 (k : Nat) ∧ wr = w1 ∧ Hid ((xs.take k).any misL = false)) (fun i _ => xs.length - (intOf i).toNat)
            case atStart => exact ⟨0, Nat.zero_le _, rfl, rfl, rfl⟩
            case round =>
              obtain ⟨k, hk, rfl, rfl, HM⟩ := hrel
              by_cases hkn : k < xs.length
              · obtain ⟨g, rfl, _, _, hc⟩ := own_str HO1.out (by omega)
                have k1 := hc k hkn
                have HT : Hid (xs.take (k + 1) = xs.take k ++ [xs[k]]) := List.take_succ_eq_append_getElem hkn
                have HX : Hid (misL xs[k] = ((text xs[k]).toList.isEmpty || ((text xs[k]).toList == [46]) || ((text xs[k]).toList == [46, 46]))) := by
                  have e : misB (text xs[k]) = misL xs[k] := by rw [misB_L, HMX.out xs[k] (List.getElem_mem hkn)]
                  show _ = _
                  rw [← e]
                  rfl
                have HIN : Hid (misL xs[k] = true → xs.any misL = true) := fun h => List.any_eq_true.2 ⟨xs[k], List.getElem_mem hkn, h⟩
                clear hc
                generalize xs[k] = x at *
                cases b1 : (text x).toList.isEmpty with
                | true =>
                  have HB : Hid (chkV s = (.empty, false, 21)) := HMI.out (HIN.out (by rw [HX.out, b1]; rfl))
                  go_wp2_with fail
                  go_ret3
                  rw [HB.out]
                  exact ⟨rfl, HB1.out⟩
                | false =>
                  cases b2 : ((text x).toList == [46]) with
                  | true =>
                    have HB : Hid (chkV s = (.empty, false, 21)) := HMI.out (HIN.out (by rw [HX.out, b1, b2]; rfl))
                    go_wp2_with fail
                    go_ret3
                    rw [HB.out]
                    exact ⟨rfl, HB1.out⟩
                  | false =>
                    cases b3 : ((text x).toList == [46, 46]) with
                    | true =>
                      have HB : Hid (chkV s = (.empty, false, 21)) := HMI.out (HIN.out (by rw [HX.out, b1, b2, b3]; rfl))
                      go_wp2_with fail
                      go_ret3
                      rw [HB.out]
                      exact ⟨rfl, HB1.out⟩
                    | false =>
                      have HM2 : Hid ((xs.take (k + 1)).any misL = false) := by
                        show _ = _
                        rw [HT.out, List.any_append, HM.out, List.any_cons, HX.out, b1, b2, b3]
                        rfl
                      go_wp2_with fail
                      go_roundw
                      case rel => exact ⟨k + 1, by omega, by go_num, by first | rfl | trivial, HM2⟩
                      case measure => simp [intOf]; omega
              · obtain rfl : k = xs.length := by omega
                have HMF : Hid (xs.any misL = false) := by
                  have := HM.out
                  rw [List.take_length] at this
                  exact this
                clear HM
                go_wp2_with fail
                obtain ⟨wo, rfl⟩ : ∃ wo : World, wo = wr := ⟨_, rfl⟩
                go_loopw [75] (fun i wr => ∃ k : Nat, k ≤ xs.length ∧ i = .int .i64 (k : Nat) ∧ wr = wo ∧ Hid ((xs.take k).any longL = false) ∧ Hid (0 < k → xs.length ≤ 32)) (fun i _ => xs.length - (intOf i).toNat)
                case atStart => exact ⟨0, Nat.zero_le _, rfl, rfl, rfl, fun h => absurd h (Nat.lt_irrefl _)⟩
                case round =>
                  obtain ⟨k, hk, rfl, rfl, HM, H32⟩ := hrel
                  by_cases hkn : k < xs.length
                  · obtain ⟨g, rfl, _, _, hc⟩ := own_str HO1.out (by omega)
                    have k1 := hc k hkn
                    have HT : Hid (xs.take (k + 1) = xs.take k ++ [xs[k]]) := List.take_succ_eq_append_getElem hkn
                    have HIN : Hid (longL xs[k] = true → xs.any longL = true) := fun h => List.any_eq_true.2 ⟨xs[k], List.getElem_mem hkn, h⟩
                    have HSZ : Hid ((text xs[k]).size = xs[k].length) := text_size _
                    have hszb : (text xs[k]).size ≤ 65535 := by rw [text_size]; exact HSX.out xs[k] (List.getElem_mem hkn)
                    clear hc
                    generalize xs[k] = x at *
                    by_cases hlg : 255 < (text x).size
                    · have g1 : decide ((255 : Int) < ((text x).size : Int)) = true := decide_eq_true (by omega)
                      have HB : Hid (chkV s = (.empty, false, 5)) := HLO.out HBF.out HNE.out HMF.out (.inr (HIN.out (by unfold longL; rw [← HSZ.out]; exact decide_eq_true hlg)))
                      go_wp2_with fail
                      go_ret3
                      rw [HB.out]
                      exact ⟨rfl, HB1.out⟩
                    · have g1 : decide ((255 : Int) < ((text x).size : Int)) = false := decide_eq_false (by omega)
                      by_cases h32 : 32 < xs.length
                      · have g2 : decide ((32 : Int) < (xs.length : Int)) = true := decide_eq_true (by omega)
                        have HB : Hid (chkV s = (.empty, false, 5)) := HLO.out HBF.out HNE.out HMF.out (.inl h32)
                        go_wp2_with fail
                        go_ret3
                        rw [HB.out]
                        exact ⟨rfl, HB1.out⟩
                      · have g2 : decide ((32 : Int) < (xs.length : Int)) = false := decide_eq_false (by omega)
                        have HM2 : Hid ((xs.take (k + 1)).any longL = false) := by
                          show _ = _
                          rw [HT.out, List.any_append, HM.out, List.any_cons]
                          unfold longL
                          rw [← HSZ.out, decide_eq_false hlg]
                          rfl
                        have H33 : Hid (0 < k + 1 → xs.length ≤ 32) := fun _ => by omega
                        go_wp2_with fail
                        go_roundw
                        case rel => exact ⟨k + 1, by omega, by go_num, by first | rfl | trivial, HM2, H33⟩
                        case measure => simp [intOf]; omega
                  · obtain rfl : k = xs.length := by omega
                    have HLF : Hid (xs.any longL = false) := by
                      have := HM.out
                      rw [List.take_length] at this
                      exact this
                    have HB : Hid (chkV s = (p, true, 0)) := HOK.out HBF.out HNE.out HMF.out (by have := H32.out (by have := HNE.out; omega); omega) HLF.out
                    clear HM H32
                    go_wp2_with fail
                    go_ret3
                    rw [HB.out]
                    exact ⟨rfl, HB1.out⟩
set_option maxHeartbeats 8000000 in
theorem rcheck_file (s : ByteArray) (w : World) (hs : s.size ≤ 65535) (h0 : 0 < s.size) (hst : straysB s = false) (h47 : s[s.size - 1].toNat ≠ 47) (hp : pathB s = s) (hd : dirB s = false) :
    Calls Tryz.prog 54 #[.string s] w fun e w' => e = .returned (.tuple #[.string (chkV s).1, .bool (chkV s).2.1, .int .i64 (chkV s).2.2]) ∧ Below w.heap.size w w' := by
      have HST := Lib.hid (fun w => rstrays_any s w (by omega))
      rw [hst] at HST
      have HBP := bad_path s h0
      have HREST := chk_rest (s := s) (by omega) (by omega) hst
      rw [hd] at HREST
      have HPT := Lib.hid (fun w => rparts_any (pathB s) w (by have := path_le s; omega))
      have H21 : Hid (badL (nums s) = true → chkV s = (.empty, false, 21)) := fun h => by rw [HREST, harm_bad (by rw [HBP]; exact h)]; rfl
      have HNO : Hid ((partsL (nums (pathB s))).length = 0 → chkV s = (.empty, false, 21)) := fun h => by rw [HREST, harm_none (List.length_eq_zero_iff.1 h)]; rfl
      have HMI : Hid ((partsL (nums (pathB s))).any misL = true → chkV s = (.empty, false, 21)) := fun h => by rw [HREST, harm_mis h]; rfl
      have HLO : Hid (badL (nums s) = false → (partsL (nums (pathB s))).length ≠ 0 → (partsL (nums (pathB s))).any misL = false → (32 < (partsL (nums (pathB s))).length ∨ (partsL (nums (pathB s))).any longL = true) → chkV s = (.empty, false, 5)) := fun a b c d => by rw [HREST, harm_long (by rw [HBP]; exact a) (fun e => b (by rw [e]; rfl)) c d]; rfl
      have HOK : Hid (badL (nums s) = false → (partsL (nums (pathB s))).length ≠ 0 → (partsL (nums (pathB s))).any misL = false → ¬ 32 < (partsL (nums (pathB s))).length → (partsL (nums (pathB s))).any longL = false → chkV s = (pathB s, false, 0)) := fun a b c d e => by rw [HREST, harm_fine (by rw [HBP]; exact a) (fun e => b (by rw [e]; rfl)) c d e]; rfl
      have HMX : Hid (∀ x ∈ partsL (nums (pathB s)), nums (text x) = x) := fun x hx => nums_text x (parts_lt _ x hx)
      have HSX : Hid (∀ x ∈ partsL (nums (pathB s)), x.length ≤ 65535) := fun x hx => by have := part_size _ x hx; have := path_le s; omega
      have hxl : (partsL (nums (pathB s))).length ≤ 100000 := by have := parts_len (pathB s); have := path_le s; omega
      clear HBP HREST hst hd
      generalize partsL (nums (pathB s)) = xs at *
      obtain ⟨l, hl, hli⟩ : ∃ l : Nat, s.size - 1 = l ∧ ((s.size : Int) - 1) = (l : Int) := ⟨s.size - 1, rfl, by omega⟩
      have hls : l < s.size := by omega
      have g47 : ((s[l].toNat : Int) == 47) = false := by
        subst hl
        rw [beq_eq_false_iff_ne]; omega
      have gsz : ((s.size : Int) == 0) = false := by rw [beq_eq_false_iff_ne]; omega
      rw [hp] at HPT HOK
      clear h47 hl hp
      go_enter Tryz.func54, Tryz.ntmps54
      go_wp2_with fail
      refine (HST.out _).mono ?_
      rintro e w0 ⟨rfl, rfl⟩
      go_wp2_with fail
      go_loopw [7] (fun i wr => ∃ k : Nat, k ≤ s.size ∧ i = .int .i64 (k : Nat) ∧ wr = w0 ∧ Hid (badL ((nums s).take k) = false)) (fun i _ => s.size - (intOf i).toNat)
      case atStart => exact ⟨0, Nat.zero_le _, rfl, rfl, rfl⟩
      case round =>
        obtain ⟨k, hk, rfl, rfl, HBD⟩ := hrel
        by_cases hks : k < s.size
        · have HSN : Hid (badL ((nums s).take (k + 1)) = (badL ((nums s).take k) || (decide (s[k].toNat = 0) || decide (s[k].toNat = 92)))) := by
            show _ = _
            rw [nums_snoc s k hks]
            unfold badL
            rw [List.any_append]
            simp
          have HALL : Hid (badL ((nums s).take (k + 1)) = true → badL (nums s) = true) := fun h => by
            have e := List.take_append_drop (k + 1) (nums s)
            rw [← e]
            unfold badL at h ⊢
            rw [List.any_append, h]
            rfl
          by_cases h0 : s[k].toNat = 0
          · have HB : Hid (chkV s = (.empty, false, 21)) := H21.out (HALL.out (by rw [HSN.out, decide_eq_true h0]; simp))
            have g0 : ((s[k].toNat : Int) == 0) = true := by rw [h0]; rfl
            clear h0
            go_wp2_with fail
            go_ret3
            rw [HB.out]
            exact ⟨rfl, Below.refl _ _⟩
          · have g0 : ((s[k].toNat : Int) == 0) = false := by rw [beq_eq_false_iff_ne]; omega
            by_cases h92 : s[k].toNat = 92
            · have HB : Hid (chkV s = (.empty, false, 21)) := H21.out (HALL.out (by rw [HSN.out, decide_eq_true h92]; simp))
              have g1 : ((s[k].toNat : Int) == 92) = true := by rw [h92]; rfl
              clear h0 h92
              go_wp2_with fail
              go_ret3
              rw [HB.out]
              exact ⟨rfl, Below.refl _ _⟩
            · have g1 : ((s[k].toNat : Int) == 92) = false := by rw [beq_eq_false_iff_ne]; omega
              have HB : Hid (badL ((nums s).take (k + 1)) = false) := by show _ = _; rw [HSN.out, HBD.out, decide_eq_false h0, decide_eq_false h92]; rfl
              clear h0 h92
              go_wp2_with fail
              go_roundw
              case rel => exact ⟨k + 1, by omega, by go_num, by first | rfl | trivial, HB⟩
              case measure => simp [intOf]; omega
        · obtain rfl : k = s.size := by omega
          have HBF : Hid (badL (nums s) = false) := by
            have := HBD.out
            rw [show (nums s).take s.size = nums s by rw [← nums_len, List.take_length]] at this
            exact this
          clear HBD
          go_wp2_with fail
          refine (HPT.out _).mono ?_
          rintro e w1 ⟨v1, rfl, ho1, hb1⟩
          obtain ⟨A1, c1, rfl⟩ := row_slice ho1
          have HO1 := Lib.hid ho1
          have HB1 := Lib.hid hb1
          clear ho1 hb1
          by_cases hn : xs.length = 0
          · have g0 : ((xs.length : Int) == 0) = true := by rw [beq_iff_eq]; omega
            have HB : Hid (chkV s = (.empty, false, 21)) := HNO.out hn
            clear hn
            go_wp2_with fail
            go_ret3
            rw [HB.out]
            exact ⟨rfl, HB1.out⟩
          · have g0 : ((xs.length : Int) == 0) = false := by rw [beq_eq_false_iff_ne]; omega
            have HNE : Hid (xs.length ≠ 0) := hn
            clear hn
            go_wp2_with fail
            go_loopw [58] (fun i wr => ∃ k : Nat, k ≤ xs.length ∧ i = .int .i64 (k : Nat) ∧ wr = w1 ∧ Hid ((xs.take k).any misL = false)) (fun i _ => xs.length - (intOf i).toNat)
            case atStart => exact ⟨0, Nat.zero_le _, rfl, rfl, rfl⟩
            case round =>
              obtain ⟨k, hk, rfl, rfl, HM⟩ := hrel
              by_cases hkn : k < xs.length
              · obtain ⟨g, rfl, _, _, hc⟩ := own_str HO1.out (by omega)
                have k1 := hc k hkn
                have HT : Hid (xs.take (k + 1) = xs.take k ++ [xs[k]]) := List.take_succ_eq_append_getElem hkn
                have HX : Hid (misL xs[k] = ((text xs[k]).toList.isEmpty || ((text xs[k]).toList == [46]) || ((text xs[k]).toList == [46, 46]))) := by
                  have e : misB (text xs[k]) = misL xs[k] := by rw [misB_L, HMX.out xs[k] (List.getElem_mem hkn)]
                  show _ = _
                  rw [← e]
                  rfl
                have HIN : Hid (misL xs[k] = true → xs.any misL = true) := fun h => List.any_eq_true.2 ⟨xs[k], List.getElem_mem hkn, h⟩
                clear hc
                generalize xs[k] = x at *
                cases b1 : (text x).toList.isEmpty with
                | true =>
                  have HB : Hid (chkV s = (.empty, false, 21)) := HMI.out (HIN.out (by rw [HX.out, b1]; rfl))
                  go_wp2_with fail
                  go_ret3
                  rw [HB.out]
                  exact ⟨rfl, HB1.out⟩
                | false =>
                  cases b2 : ((text x).toList == [46]) with
                  | true =>
                    have HB : Hid (chkV s = (.empty, false, 21)) := HMI.out (HIN.out (by rw [HX.out, b1, b2]; rfl))
                    go_wp2_with fail
                    go_ret3
                    rw [HB.out]
                    exact ⟨rfl, HB1.out⟩
                  | false =>
                    cases b3 : ((text x).toList == [46, 46]) with
                    | true =>
                      have HB : Hid (chkV s = (.empty, false, 21)) := HMI.out (HIN.out (by rw [HX.out, b1, b2, b3]; rfl))
                      go_wp2_with fail
                      go_ret3
                      rw [HB.out]
                      exact ⟨rfl, HB1.out⟩
                    | false =>
                      have HM2 : Hid ((xs.take (k + 1)).any misL = false) := by
                        show _ = _
                        rw [HT.out, List.any_append, HM.out, List.any_cons, HX.out, b1, b2, b3]
                        rfl
                      go_wp2_with fail
                      go_roundw
                      case rel => exact ⟨k + 1, by omega, by go_num, by first | rfl | trivial, HM2⟩
                      case measure => simp [intOf]; omega
              · obtain rfl : k = xs.length := by omega
                have HMF : Hid (xs.any misL = false) := by
                  have := HM.out
                  rw [List.take_length] at this
                  exact this
                clear HM
                go_wp2_with fail
                obtain ⟨wo, rfl⟩ : ∃ wo : World, wo = wr := ⟨_, rfl⟩
                go_loopw [75] (fun i wr => ∃ k : Nat, k ≤ xs.length ∧ i = .int .i64 (k : Nat) ∧ wr = wo ∧ Hid ((xs.take k).any longL = false) ∧ Hid (0 < k → xs.length ≤ 32)) (fun i _ => xs.length - (intOf i).toNat)
                case atStart => exact ⟨0, Nat.zero_le _, rfl, rfl, rfl, fun h => absurd h (Nat.lt_irrefl _)⟩
                case round =>
                  obtain ⟨k, hk, rfl, rfl, HM, H32⟩ := hrel
                  by_cases hkn : k < xs.length
                  · obtain ⟨g, rfl, _, _, hc⟩ := own_str HO1.out (by omega)
                    have k1 := hc k hkn
                    have HT : Hid (xs.take (k + 1) = xs.take k ++ [xs[k]]) := List.take_succ_eq_append_getElem hkn
                    have HIN : Hid (longL xs[k] = true → xs.any longL = true) := fun h => List.any_eq_true.2 ⟨xs[k], List.getElem_mem hkn, h⟩
                    have HSZ : Hid ((text xs[k]).size = xs[k].length) := text_size _
                    have hszb : (text xs[k]).size ≤ 65535 := by rw [text_size]; exact HSX.out xs[k] (List.getElem_mem hkn)
                    clear hc
                    generalize xs[k] = x at *
                    by_cases hlg : 255 < (text x).size
                    · have g1 : decide ((255 : Int) < ((text x).size : Int)) = true := decide_eq_true (by omega)
                      have HB : Hid (chkV s = (.empty, false, 5)) := HLO.out HBF.out HNE.out HMF.out (.inr (HIN.out (by unfold longL; rw [← HSZ.out]; exact decide_eq_true hlg)))
                      go_wp2_with fail
                      go_ret3
                      rw [HB.out]
                      exact ⟨rfl, HB1.out⟩
                    · have g1 : decide ((255 : Int) < ((text x).size : Int)) = false := decide_eq_false (by omega)
                      by_cases h32 : 32 < xs.length
                      · have g2 : decide ((32 : Int) < (xs.length : Int)) = true := decide_eq_true (by omega)
                        have HB : Hid (chkV s = (.empty, false, 5)) := HLO.out HBF.out HNE.out HMF.out (.inl h32)
                        go_wp2_with fail
                        go_ret3
                        rw [HB.out]
                        exact ⟨rfl, HB1.out⟩
                      · have g2 : decide ((32 : Int) < (xs.length : Int)) = false := decide_eq_false (by omega)
                        have HM2 : Hid ((xs.take (k + 1)).any longL = false) := by
                          show _ = _
                          rw [HT.out, List.any_append, HM.out, List.any_cons]
                          unfold longL
                          rw [← HSZ.out, decide_eq_false hlg]
                          rfl
                        have H33 : Hid (0 < k + 1 → xs.length ≤ 32) := fun _ => by omega
                        go_wp2_with fail
                        go_roundw
                        case rel => exact ⟨k + 1, by omega, by go_num, by first | rfl | trivial, HM2, H33⟩
                        case measure => simp [intOf]; omega
                  · obtain rfl : k = xs.length := by omega
                    have HLF : Hid (xs.any longL = false) := by
                      have := HM.out
                      rw [List.take_length] at this
                      exact this
                    have HB : Hid (chkV s = (s, false, 0)) := HOK.out HBF.out HNE.out HMF.out (by have := H32.out (by have := HNE.out; omega); omega) HLF.out
                    clear HM H32
                    go_wp2_with fail
                    go_ret3
                    rw [HB.out]
                    exact ⟨rfl, HB1.out⟩
theorem rcheck_any (s : ByteArray) (w : World) :
    Calls Tryz.prog 54 #[.string s] w fun e w' => e = .returned (.tuple #[.string (chkV s).1, .bool (chkV s).2.1, .int .i64 (chkV s).2.2]) ∧ Below w.heap.size w w' := by
  by_cases hs : 65535 < s.size
  · have g1 : decide ((65535 : Int) < (s.size : Int)) = true := decide_eq_true (by omega)
    have HV := Lib.hid (chk_long hs)
    clear hs
    go_enter Tryz.func54, Tryz.ntmps54
    go_wp2_with fail
    go_ret3
    rw [HV.out]
    exact ⟨rfl, Below.refl _ _⟩
  · by_cases h0 : s.size = 0
    · have g1 : ((s.size : Int) == 0) = true := by rw [h0]; rfl
      have HV := Lib.hid (chk_read (s := s) (by omega) (.inl h0))
      clear h0
      go_enter Tryz.func54, Tryz.ntmps54
      go_wp2_with fail
      go_ret3
      rw [HV.out]
      exact ⟨rfl, Below.refl _ _⟩
    · cases hst : straysB s with
      | true =>
        have g1 : ((s.size : Int) == 0) = false := by rw [beq_eq_false_iff_ne]; omega
        have HV := Lib.hid (chk_read (s := s) (by omega) (.inr hst))
        have HST := Lib.hid (fun w => rstrays_any s w (by omega))
        rw [hst] at HST
        clear h0 hst
        go_enter Tryz.func54, Tryz.ntmps54
        go_wp2_with fail
        refine (HST.out _).mono ?_
        rintro e w0 ⟨rfl, rfl⟩
        go_wp2_with fail
        go_ret3
        rw [HV.out]
        exact ⟨rfl, Below.refl _ _⟩
      | false =>
        rcases path_last s (by omega) with ⟨h47, hp, hd⟩ | ⟨h47, hp, hd⟩
        · exact rcheck_dir s w (by omega) (by omega) hst h47 hp hd
        · exact rcheck_file s w (by omega) (by omega) hst h47 hp hd
end Go.Proofs.YtmeapijckncoeaaGreatDoor
