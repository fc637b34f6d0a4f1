/-
  A path that was checked is right, and so are its parents; what Check answers of what is right.
-/
import Derived.Test.YtpkhpaklhfomkaaDoorNamH
import Derived.Test.YtpkhpaklhfomkaaDoorNamB
namespace Go.Proofs.YtpkhpaklhfomkaaDoor
set_option maxRecDepth 100000
open Go.RowKit Go.Lib

theorem nums_take (s : ByteArray) (k : Nat) : nums (s.extract 0 k) = (nums s).take k := by unfold nums; rw [Lib.extract_from_zero, List.map_take]
theorem nums_drop_end (s : ByteArray) (k : Nat) : nums (s.extract k s.size) = (nums s).drop k := by unfold nums; rw [Lib.extract_to_end, List.map_drop]
theorem data_bang (s : ByteArray) (i : Nat) (h : i < s.size) : s.data[i]! = s[i] := by
  rw [getElem!_pos s.data i h]
  rfl
/-- The last slash. -/
theorem last_cases (s : ByteArray) : ((parB s).size = 0 ∧ baseB s = s ∧ ∀ x ∈ nums s, x ≠ 47) ∨
    (∃ (k : Nat) (hk : k < s.size), s[k].toNat = 47 ∧ parB s = s.extract 0 k ∧ nums s = nums (parB s) ++ 47 :: nums (baseB s) ∧ ∀ x ∈ nums (baseB s), x ≠ 47) := by
  rcases Lib.lastIdx_spec s 47 s.size with ⟨h, hn⟩ | ⟨i, hi, h, hc, hn⟩
  · left
    have hs : spl s = 0 := by unfold spl Lib.lastIndexByte; rw [h]; rfl
    refine ⟨?_, ?_, ?_⟩
    · unfold parB parN
      rw [hs, ByteArray.size_extract]
      omega
    · unfold baseB
      rw [hs]
      apply ByteArray.ext
      exact Array.toList_inj.1 (by rw [Lib.extract_to_end]; rfl)
    · intro x hx
      obtain ⟨j, hj, rfl⟩ := List.getElem_of_mem hx
      rw [nums_len] at hj
      have h2 := nums_get s j hj
      rw [List.getElem?_eq_getElem (by rw [nums_len]; exact hj)] at h2
      rw [Option.some.inj h2]
      have := hn j hj
      rw [data_bang s j hj] at this
      omega
  · right
    have hs : spl s = (i : Int) + 1 := by unfold spl Lib.lastIndexByte; rw [h]
    have hpn : parN s = i := by unfold parN; rw [hs]; omega
    have hpb : parB s = s.extract 0 i := by unfold parB; rw [hpn]
    have hbb : baseB s = s.extract (i + 1) s.size := by unfold baseB; rw [hs]; rfl
    have hc2 : s[i].toNat = 47 := by
      rw [data_bang s i hi] at hc
      omega
    refine ⟨i, hi, hc2, hpb, ?_, ?_⟩
    · rw [hpb, hbb, nums_take, nums_drop_end]
      have := nums_drop s i hi
      rw [hc2] at this
      rw [← this, List.take_append_drop]
    · rw [hbb, nums_drop_end]
      intro x hx
      obtain ⟨j, hj, rfl⟩ := List.getElem_of_mem hx
      rw [List.length_drop, nums_len] at hj
      rw [List.getElem_drop]
      have hj2 : i + 1 + j < s.size := by omega
      have h2 := nums_get s (i + 1 + j) hj2
      rw [List.getElem?_eq_getElem (by rw [nums_len]; exact hj2)] at h2
      rw [Option.some.inj h2]
      have := hn (i + 1 + j) (by omega) hj2
      rw [data_bang s _ hj2] at this
      omega
/-- A path that is right. -/
def Right (u : ByteArray) : Prop := readN u = 0 ∧ harmN u = 0
theorem read_zero (s : ByteArray) : readN s = 0 ↔ s.size ≤ 65535 ∧ nums s ≠ [] ∧ straysB s = false := by
  unfold readN
  by_cases h1 : 65535 < s.size
  · rw [decide_eq_true h1, if_pos rfl]
    constructor
    · intro h; exact absurd h (by decide)
    · intro h; omega
  · rw [decide_eq_false h1, if_neg (by decide), isEmpty_nums2]
    constructor
    · intro h
      refine ⟨by omega, ?_, ?_⟩
      · intro e; rw [e] at h; exact absurd h (by simp)
      · cases e : straysB s with
        | false => rfl
        | true => rw [e] at h; exact absurd h (by simp)
    · rintro ⟨_, h2, h3⟩
      rw [h3]
      cases e : nums s with
      | nil => exact absurd e h2
      | cons a b => rfl
theorem suffix_nums (s : ByteArray) : dirB s = true ↔ ∃ a, nums s = a ++ [47] := by
  unfold dirB hasSuffix
  rw [List.isSuffixOf_iff_suffix]
  constructor
  · rintro ⟨t, ht⟩
    exact ⟨t.map UInt8.toNat, by unfold nums; rw [← ht, List.map_append]; rfl⟩
  · rintro ⟨a, ha⟩
    refine ⟨s.data.toList.take a.length, toNat_list_inj _ _ ?_⟩
    rw [List.map_append, List.map_take]
    show (nums s).take a.length ++ [47] = nums s
    rw [ha, List.take_left]
theorem path_false {s : ByteArray} (h : dirB s = false) : pathB s = s := by
  unfold pathB trimSuffix
  unfold dirB at h
  rw [h, if_neg (by decide)]
theorem path_true {s : ByteArray} (h : dirB s = true) : ∃ (k : Nat) (hk : k < s.size), s[k].toNat = 47 ∧ k + 1 = s.size ∧ pathB s = s.extract 0 k := by
  obtain ⟨a, ha⟩ := (suffix_nums s).1 h
  have hl : s.size = a.length + 1 := by rw [← nums_len, ha]; simp
  have hk : a.length < s.size := by omega
  refine ⟨a.length, hk, ?_, hl.symm, ?_⟩
  · have h2 := nums_get s a.length hk
    rw [ha, List.getElem?_append_right (Nat.le_refl _)] at h2
    simpa using h2.symm
  · unfold pathB trimSuffix
    unfold dirB at h
    rw [h, if_pos rfl]
    apply ByteArray.ext
    apply Array.toList_inj.1
    rw [Lib.extract_from_zero]
    have : s.data.toList.length - [(47 : UInt8)].length = a.length := by
      rw [Array.length_toList]
      show s.size - 1 = _
      omega
    rw [this]
theorem chk_right {u : ByteArray} (h : Right u) : chkV u = (u, false, 0) := by
  have hd : dirB u = false := by
    cases e : dirB u with
    | false => rfl
    | true =>
      obtain ⟨a, ha⟩ := (suffix_nums u).1 e
      have := h.2
      rw [harm_L, ha] at this
      exact absurd this (harm_last a)
  unfold chkV
  rw [path_false hd, hd, if_neg (by rw [h.1]; decide), if_neg (by rw [h.2]; decide)]
theorem chk_cases (s : ByteArray) : ((chkV s).2.2 = 0 ∧ (chkV s).1 = pathB s ∧ Right (pathB s)) ∨ ((chkV s).2.2 ≠ 0 ∧ (chkV s).1 = .empty) := by
  unfold chkV
  by_cases h1 : readN s = 0
  · rw [if_neg (by rw [h1]; decide)]
    by_cases h2 : harmN (pathB s) = 0
    · rw [if_neg (by rw [h2]; decide)]
      refine .inl ⟨rfl, rfl, ?_, h2⟩
      obtain ⟨a1, a2, a3⟩ := (read_zero s).1 h1
      have hn : nums (pathB s) ≠ [] := by
        rw [harm_L] at h2
        exact ((harm_zero _).1 h2).2.1
      refine (read_zero _).2 ⟨?_, hn, ?_⟩
      · have := path_le s; omega
      · cases e : dirB s with
        | false => rw [path_false e]; exact a3
        | true =>
          obtain ⟨k, hk, h47, _, hp⟩ := path_true e
          rw [hp]
          exact strays_cut s k hk h47 a3
    · rw [if_pos h2]
      exact .inr ⟨h2, rfl⟩
  · rw [if_pos h1]
    exact .inr ⟨h1, rfl⟩
theorem empty_of_size {s : ByteArray} (h : s.size = 0) : nums s = [] := List.length_eq_zero_iff.1 (by rw [nums_len]; exact h)
theorem right_parent {u : ByteArray} (h : Right u) : misB (baseB u) = false ∧ ((parB u).toList.isEmpty = true ∨ Right (parB u)) := by
  obtain ⟨h1, h2⟩ := h
  rw [harm_L] at h2
  obtain ⟨a1, a2, a3⟩ := (read_zero u).1 h1
  rcases last_cases u with ⟨b1, b2, b3⟩ | ⟨k, hk, h47, hp, hn, hb⟩
  · refine ⟨?_, .inl ?_⟩
    · rw [b2, misB_L]; exact harm_lone _ b3 h2
    · rw [isEmpty_nums2, empty_of_size b1]; rfl
  · rw [hn] at h2
    obtain ⟨c1, c2⟩ := harm_parent _ _ hb h2
    refine ⟨by rw [misB_L]; exact c1, ?_⟩
    by_cases he : nums (parB u) = []
    · left; rw [isEmpty_nums2, he]; rfl
    · right
      refine ⟨(read_zero _).2 ⟨?_, he, ?_⟩, by rw [harm_L]; exact c2 he⟩
      · rw [hp, ByteArray.size_extract]; omega
      · rw [hp]; exact strays_cut u k hk h47 a3
/-- One of a path's parents, or it. -/
def Ahead (p u : ByteArray) : Prop := nums p = nums u ∨ ∃ r, nums p = nums u ++ 47 :: r
theorem Ahead.up {p u : ByteArray} (h : Ahead p u) (hne : (parB u).toList.isEmpty = false) : Ahead p (parB u) := by
  rcases last_cases u with ⟨b1, _, _⟩ | ⟨k, hk, h47, hp, hn, hb⟩
  · rw [isEmpty_nums2, empty_of_size b1] at hne; cases hne
  · right
    rcases h with h | ⟨r, h⟩
    · exact ⟨_, h.trans hn⟩
    · exact ⟨nums (baseB u) ++ 47 :: r, by rw [h, hn]; simp⟩
theorem Ahead.order {p u : ByteArray} (h : Ahead p u) : ordT u p ≤ 0 := by
  unfold ordT
  rcases h with h | ⟨r, h⟩
  · rw [h, ordL_self]; decide
  · rw [h]; exact ordL_prefix _ _
theorem Ahead.under {p u : ByteArray} (h : Ahead p u) : undB p u = true := by
  have hd : ∃ t : List UInt8, p.data.toList = u.data.toList ++ t ∧ (t = [] ∨ ∃ q, t = 47 :: q) := by
    rcases h with h | ⟨r, h⟩
    · exact ⟨[], by rw [List.append_nil]; exact toNat_list_inj _ _ h, .inl rfl⟩
    · have h1 : p.data.toList.take u.data.toList.length = u.data.toList := toNat_list_inj _ _ (by
        rw [List.map_take]
        show (nums p).take _ = nums u
        rw [h, show u.data.toList.length = (nums u).length by simp [nums], List.take_left])
      have h2 : (p.data.toList.drop u.data.toList.length).map UInt8.toNat = 47 :: r := by
        rw [List.map_drop]
        show (nums p).drop _ = _
        rw [h, show u.data.toList.length = (nums u).length by simp [nums], List.drop_left]
      refine ⟨p.data.toList.drop u.data.toList.length, ?_, .inr ?_⟩
      · conv => lhs; rw [← List.take_append_drop u.data.toList.length p.data.toList, h1]
      · cases e : p.data.toList.drop u.data.toList.length with
        | nil => rw [e] at h2; cases h2
        | cons x q =>
          rw [e, List.map_cons] at h2
          injection h2 with h3 _
          exact ⟨q, by rw [show x = 47 from UInt8.toNat_inj.1 h3]⟩
  obtain ⟨t, ht, hq⟩ := hd
  unfold undB
  have h1 : Lib.hasPrefix p.data.toList u.data.toList = true := by
    unfold Lib.hasPrefix
    rw [List.isPrefixOf_iff_prefix]
    exact ⟨t, ht.symm⟩
  have h2 : Lib.trimPrefix p.data.toList u.data.toList = t := by
    unfold Lib.trimPrefix
    rw [h1, if_pos rfl, ht, List.drop_left]
  rw [h1, h2]
  rcases hq with rfl | ⟨q, rfl⟩
  · simp
  · have : Lib.hasPrefix (47 :: q) [47] = true := by unfold Lib.hasPrefix; rfl
    rw [this]
    simp
theorem parent_smaller {u : ByteArray} (h : u.toList.isEmpty = false) : (parB u).size < u.size := by
  have hu : u.size ≠ 0 := fun e => by rw [isEmpty_nums2, empty_of_size e] at h; cases h
  rcases last_cases u with ⟨b1, _, _⟩ | ⟨k, hk, h47, hp, hn, hb⟩
  · omega
  · rw [hp, ByteArray.size_extract]; omega
end Go.Proofs.YtpkhpaklhfomkaaDoor
