/-
  Contracts: the document's Strays, Check.
-/
import Derived.Test.YtpkhpaklhfomkaaDoorNamO
import Derived.Test.YtpkhpaklhfomkaaDoorNamL
namespace Go.Proofs.YtpkhpaklhfomkaaDoor
set_option maxRecDepth 100000
open Go.RowKit Go.Deep Go.Joins Go.Lib

set_option maxHeartbeats 4000000 in
theorem rstrays_any (s : ByteArray) (w : World) (hs : s.size ≤ 1000000) :
    Calls Tryd.prog 49 #[.string s] w fun e w' => e = .returned (.bool (straysB s)) ∧ w' = w := by
  go_enter Tryd.func49, Tryd.ntmps49
  go_wp2_with fail
  go_loopw [3] (fun i wr => ∃ (pos f : Nat), i = .int .i64 (pos : Nat) ∧ pos ≤ s.size ∧ wr = w ∧ Hid (strayF s f pos = straysB s) ∧ s.size ≤ pos + f) (fun i _ => s.size - (intOf i).toNat)
  case atStart => exact ⟨0, s.size, rfl, Nat.zero_le _, rfl, rfl, by omega⟩
  case round =>
    obtain ⟨pos, f, rfl, hle, rfl, HC, hb⟩ := hrel
    by_cases hp : pos < s.size
    · have HONE := Lib.hid (fun w => one_any s pos hp hs w)
      have hwd := decode_pos s pos hp
      have hend : pos + (Utf8.decode s pos).2 ≤ s.size := by
        rcases decode_run s pos hp with ⟨_, h2⟩ | ⟨_, _, _, _, h2, _⟩
        · rw [h2]; show pos + 1 ≤ _; omega
        · exact h2
      have HN : Hid (∃ f', f = f' + 1 ∧ (strayAt s pos = true → straysB s = true) ∧ (strayAt s pos = false → strayF s f' (pos + (Utf8.decode s pos).2) = straysB s)) := by
        cases f with
        | zero => exact absurd hb (by omega)
        | succ f =>
          refine ⟨f, rfl, fun h => ?_, fun h => ?_⟩
          · have := HC.out; rw [strayF, if_pos hp, if_pos h] at this; exact this.symm
          · have := HC.out; rw [strayF, if_pos hp, if_neg (by rw [h]; decide)] at this; exact this
      have HR : Hid (oneR s pos = if strayAt s pos = true then (-1 : Int) else (((Utf8.decode s pos).1 : Nat) : Int)) := rfl
      generalize oneR s pos = r at *
      generalize (Utf8.decode s pos).2 = k at *
      clear HC
      cases hst : strayAt s pos with
      | true =>
        rw [hst] at HR HN
        have hr : r = -1 := HR.out
        have HX : Hid (straysB s = true) := by obtain ⟨_, _, h, _⟩ := HN.out; exact h rfl
        subst hr
        clear HN HR
        go_wp2_with fail
        refine (HONE.out _).mono ?_
        rintro e w1 ⟨rfl, rfl⟩
        go_wp2_with fail
        go_ret
        rw [HX.out]
        exact ⟨rfl, rfl⟩
      | false =>
        rw [hst] at HR HN
        have hr : r = ((Utf8.decode s pos).1 : Nat) := HR.out
        obtain ⟨f', hf, _, hh⟩ := HN.out
        have HX : Hid (strayF s f' (pos + k) = straysB s) := hh rfl
        have hr0 : 0 ≤ r := by omega
        obtain ⟨q, hq, hqi⟩ : ∃ q : Nat, pos + k = q ∧ ((pos : Int) + (k : Int)) = (q : Int) := ⟨pos + k, rfl, by omega⟩
        rw [hq] at HX hend
        have HQ := Lib.hid hq
        clear HN HR hr hh hq
        go_wp2_with fail
        refine (HONE.out _).mono ?_
        rintro e w1 ⟨rfl, rfl⟩
        go_wp2_with fail
        go_roundw
        case rel => exact ⟨q, f', rfl, hend, by first | rfl | trivial, HX, by have := HQ.out; omega⟩
        case measure => have := HQ.out; simp [intOf]; omega
    · have HX : Hid (straysB s = false) := by
        have := HC.out
        rw [strayF_end s f pos hp] at this
        exact this.symm
      go_wp2_with fail
      go_ret
      rw [HX.out]
      exact ⟨rfl, rfl⟩

/-- What the document's Check answers is what the program's does. -/
theorem chk_long {s : ByteArray} (h : 65535 < s.size) : chkV s = (.empty, false, 5) := by
  have : readN s = 5 := by unfold readN; rw [decide_eq_true h]; rfl
  unfold chkV
  rw [this]
  rfl
theorem chk_read {s : ByteArray} (h : s.size ≤ 65535) (h2 : s.size = 0 ∨ straysB s = true) : chkV s = (.empty, false, 20) := by
  have : readN s = 20 := by
    unfold readN
    rw [decide_eq_false (by omega), if_neg (by decide), isEmpty_nums2]
    rcases h2 with h2 | h2
    · rw [empty_of_size h2]; rfl
    · rw [h2]; cases (nums s).isEmpty <;> rfl
  unfold chkV
  rw [this]
  rfl
theorem chk_rest {s : ByteArray} (h : s.size ≤ 65535) (h0 : s.size ≠ 0) (h2 : straysB s = false) : chkV s = if harmL (nums (pathB s)) = 0 then (pathB s, dirB s, 0) else (.empty, false, harmL (nums (pathB s))) := by
  have : readN s = 0 := (read_zero s).2 ⟨h, fun e => h0 (by rw [← nums_len, e]; rfl), h2⟩
  unfold chkV
  rw [this, if_neg (by decide), harm_L]
  by_cases e : harmL (nums (pathB s)) = 0
  · rw [if_neg (by rw [e]; decide), if_pos e]
  · rw [if_pos e, if_neg e]
theorem path_last (s : ByteArray) (h0 : 0 < s.size) : (s[s.size - 1].toNat = 47 ∧ pathB s = s.extract 0 (s.size - 1) ∧ dirB s = true) ∨ (s[s.size - 1].toNat ≠ 47 ∧ pathB s = s ∧ dirB s = false) := by
  cases hd : dirB s with
  | true =>
    obtain ⟨k, hk, h47, hks, hp⟩ := path_true hd
    obtain rfl : k = s.size - 1 := by omega
    exact .inl ⟨h47, hp, rfl⟩
  | false =>
    refine .inr ⟨fun h47 => ?_, path_false hd, rfl⟩
    have hx : dirB s = true := (suffix_nums s).2 ⟨(nums s).take (s.size - 1), by
      have h1 := nums_snoc s (s.size - 1) (by omega)
      rw [h47, show s.size - 1 + 1 = s.size by omega] at h1
      rw [← h1, ← nums_len, List.take_length]⟩
    rw [hd] at hx
    cases hx
theorem bad_path (s : ByteArray) (h0 : 0 < s.size) : badL (nums (pathB s)) = badL (nums s) := by
  rcases path_last s h0 with ⟨h47, hp, _⟩ | ⟨_, hp, _⟩
  · rw [hp, nums_take]
    have h1 := nums_snoc s (s.size - 1) (by omega)
    rw [h47, show s.size - 1 + 1 = s.size by omega, show (nums s).take s.size = nums s by rw [← nums_len, List.take_length]] at h1
    conv => rhs; rw [h1]
    unfold badL
    rw [List.any_append]
    simp
  · rw [hp]
/-- The answer by what is found: bad bytes, no parts, parts that mislead, parts that are too long or too many. -/
theorem harm_bad {l : List Nat} (h : badL l = true) : harmL l = 21 := by unfold harmL; rw [h]; rfl
theorem harm_none {l : List Nat} (h : partsL l = []) : harmL l = 21 := by unfold harmL; rw [h]; cases badL l <;> rfl
theorem harm_mis {l : List Nat} (h : (partsL l).any misL = true) : harmL l = 21 := by unfold harmL; rw [h]; cases badL l <;> cases ((partsL l).length == 0) <;> rfl
theorem harm_long {l : List Nat} (h1 : badL l = false) (h2 : partsL l ≠ []) (h3 : (partsL l).any misL = false) (h : 32 < (partsL l).length ∨ (partsL l).any longL = true) : harmL l = 5 := by
  unfold harmL
  have hn : ((partsL l).length == 0) = false := by rw [beq_eq_false_iff_ne]; exact fun e => h2 (List.length_eq_zero_iff.1 e)
  rw [h1, hn, h3]
  rcases h with h | h
  · rw [decide_eq_true h]; rfl
  · rw [h]; cases decide (32 < (partsL l).length) <;> rfl
theorem harm_fine {l : List Nat} (h1 : badL l = false) (h2 : partsL l ≠ []) (h3 : (partsL l).any misL = false) (h4 : ¬ 32 < (partsL l).length) (h5 : (partsL l).any longL = false) : harmL l = 0 := by
  unfold harmL
  have hn : ((partsL l).length == 0) = false := by rw [beq_eq_false_iff_ne]; exact fun e => h2 (List.length_eq_zero_iff.1 e)
  rw [h1, hn, h3, decide_eq_false h4, h5]
  rfl
end Go.Proofs.YtpkhpaklhfomkaaDoor
