/-
  Mathematics of names that may be paths: what is wrong with a path, by its bytes; its parent's parts; a text cut at a slash has no stray that it had not.
  A path that was checked is right, and so are its parents; what Check answers of what is right.
  Contracts: the document's Parts.
  Contracts: the document's less, Order, Parent, Base, Under.
  The walk of NameOrders: it returns true, whatever the paths.
-/
import Derived.Test.YtmeapijckncoeaaGreatDoorPkAG
import Derived.Test.YtmeapijckncoeaaGreatDoorPkAC

namespace Go.Proofs.YtmeapijckncoeaaGreatDoor
set_option maxRecDepth 100000
open Go.RowKit Go.Lib

def misL (p : List Nat) : Bool := p.isEmpty || decide (p = [46]) || decide (p = [46, 46])
def longL (p : List Nat) : Bool := decide (255 < p.length)
def badL (l : List Nat) : Bool := l.any fun b => decide (b = 0) || decide (b = 92)
/-- What is wrong with a path, by its bytes. -/
def harmL (l : List Nat) : Int := if badL l || ((partsL l).length == 0) || (partsL l).any misL then 21 else if decide (32 < (partsL l).length) || (partsL l).any longL then 5 else 0
theorem toNat_list_inj : ∀ a b : List UInt8, a.map UInt8.toNat = b.map UInt8.toNat → a = b
  | [], [], _ => rfl
  | [], _ :: _, h => by cases h
  | _ :: _, [], h => by cases h
  | x :: xs, y :: ys, h => by
    rw [List.map_cons, List.map_cons] at h
    injection h with h1 h2
    rw [UInt8.toNat_inj.1 h1, toNat_list_inj xs ys h2]
theorem nums_eq_list (s : ByteArray) (t : List UInt8) : (s.toList == t) = decide (nums s = t.map UInt8.toNat) := by
  rw [Lib.toList_data]
  by_cases h : s.data.toList = t
  · rw [decide_eq_true (by unfold nums; rw [h])]; rw [h]; simp
  · rw [decide_eq_false, beq_eq_false_iff_ne]
    · exact h
    · intro e
      exact h (toNat_list_inj _ _ e)
theorem isEmpty_nums2 (s : ByteArray) : s.toList.isEmpty = (nums s).isEmpty := by
  rw [Lib.toList_data]; unfold nums; cases s.data.toList <;> rfl
theorem misB_L (p : ByteArray) : misB p = misL (nums p) := by
  unfold misB misL
  rw [isEmpty_nums2, nums_eq_list, nums_eq_list]
  rfl
theorem longB_L (p : ByteArray) : longB p = longL (nums p) := by unfold longB longL; rw [nums_len]
theorem any_map_nums (ss : List ByteArray) (f : ByteArray → Bool) (g : List Nat → Bool) (h : ∀ p, f p = g (nums p)) : ss.any f = (ss.map nums).any g := by
  rw [List.any_map]
  congr 1
  funext p
  exact h p
theorem harm_L (s : ByteArray) : harmN s = harmL (nums s) := by
  unfold harmN harmL
  rw [any_map_nums _ _ _ misB_L, any_map_nums _ _ _ longB_L, pts_nums, ← List.length_map (f := nums), pts_nums]
  rfl
theorem harm_zero (l : List Nat) : harmL l = 0 ↔ badL l = false ∧ l ≠ [] ∧ (∀ p ∈ splitL l, misL p = false ∧ p.length ≤ 255) ∧ (splitL l).length ≤ 32 := by
  unfold harmL partsL
  by_cases hl : l = []
  · subst hl
    simp
  · rw [if_neg hl]
    have hn : ((splitL l).length == 0) = false := by
      rw [beq_eq_false_iff_ne]
      exact fun e => splitL_ne l (List.length_eq_zero_iff.1 e)
    rw [hn]
    constructor
    · intro h
      cases hb : badL l with
      | true => rw [hb] at h; exact absurd h (by simp)
      | false =>
        cases hm : (splitL l).any misL with
        | true => rw [hb, hm] at h; exact absurd h (by simp)
        | false =>
          rw [hb, hm] at h
          by_cases h32 : 32 < (splitL l).length
          · rw [decide_eq_true h32] at h; exact absurd h (by simp)
          · cases hg : (splitL l).any longL with
            | true => rw [hg] at h; exact absurd h (by simp)
            | false =>
              refine ⟨rfl, hl, fun p hp => ⟨?_, ?_⟩, by omega⟩
              · have := List.any_eq_false.1 hm p hp
                simpa using this
              · have := List.any_eq_false.1 hg p hp
                unfold longL at this
                simp at this
                omega
    · rintro ⟨hb, _, hp, h32⟩
      have hm : (splitL l).any misL = false := List.any_eq_false.2 fun p h => by rw [(hp p h).1]; decide
      have hg : (splitL l).any longL = false := List.any_eq_false.2 fun p h => by
        have := (hp p h).2
        unfold longL
        rw [decide_eq_false (by omega)]
        decide
      rw [hb, hm, hg, decide_eq_false (by omega)]
      rfl
theorem splitL_none (b : List Nat) (h : ∀ x ∈ b, x ≠ 47) : splitL b = [b] := by
  induction b with
  | nil => rfl
  | cons c r ih => exact splitL_other (h c (.head _)) (ih fun x hx => h x (.tail _ hx))
theorem splitL_app (b : List Nat) (h : ∀ x ∈ b, x ≠ 47) : ∀ a, splitL (a ++ 47 :: b) = splitL a ++ [b]
  | [] => by
    rw [List.nil_append, splitL_slash, splitL_none b h]
    rfl
  | c :: r => by
    have ih := splitL_app b h r
    obtain ⟨p, t, e⟩ := splitL_form r
    by_cases hc : c = 47
    · subst hc
      rw [List.cons_append, splitL_slash, splitL_slash, ih]
      rfl
    · rw [e] at ih
      rw [List.cons_append, splitL_other hc ih, splitL_other hc e]
      rfl
/-- The last byte of a path that is right is no slash. -/
theorem harm_last (a : List Nat) : harmL (a ++ [47]) ≠ 0 := by
  intro h
  obtain ⟨_, _, hp, _⟩ := (harm_zero _).1 h
  rw [show a ++ [47] = a ++ 47 :: [] from rfl, splitL_app [] (fun x hx => by cases hx)] at hp
  have := (hp [] (by simp)).1
  exact absurd this (by decide)
/-- Of a path that is right the parent, too; and its last part leads nowhere else. -/
theorem harm_parent (a b : List Nat) (hb : ∀ x ∈ b, x ≠ 47) (h : harmL (a ++ 47 :: b) = 0) : misL b = false ∧ (a ≠ [] → harmL a = 0) := by
  obtain ⟨h1, _, h3, h4⟩ := (harm_zero _).1 h
  rw [splitL_app b hb] at h3 h4
  refine ⟨(h3 b (by simp)).1, fun ha => (harm_zero a).2 ⟨?_, ha, fun p hp => h3 p (List.mem_append_left _ hp), ?_⟩⟩
  · unfold badL at h1 ⊢
    rw [List.any_append] at h1
    cases e : a.any fun b => decide (b = 0) || decide (b = 92) with
    | true => rw [e] at h1; exact absurd h1 (by simp)
    | false => rfl
  · rw [List.length_append] at h4; omega
theorem harm_lone (b : List Nat) (hb : ∀ x ∈ b, x ≠ 47) (h : harmL b = 0) : misL b = false := by
  obtain ⟨_, _, h3, _⟩ := (harm_zero _).1 h
  rw [splitL_none b hb] at h3
  exact (h3 b (by simp)).1

/-! ### a text cut at a slash -/
set_option maxHeartbeats 4000000 in
theorem decodeN_cut (n m b0 b1 b2 b3 c1 c2 c3 : Nat) (h0 : 1 ≤ m) (hm : m < n) (e1 : 1 < m → c1 = b1) (e2 : 2 < m → c2 = b2) (e3 : 3 < m → c3 = b3) (g1 : m = 1 → b1 = 47) (g2 : m = 2 → b2 = 47) (g3 : m = 3 → b3 = 47) : decodeN m b0 c1 c2 c3 = decodeN n b0 b1 b2 b3 := by
  unfold decodeN
  by_cases h : b0 < 128
  · rw [if_pos h, if_pos h]
  · rw [if_neg h, if_neg h]
    rcases (by omega : m = 1 ∨ m = 2 ∨ m = 3 ∨ 3 < m) with rfl | rfl | rfl | h3
    · have := g1 rfl
      subst this
      simp
    · obtain rfl := e1 (by omega)
      have := g2 rfl
      subst this
      have d1 : (1 < n) = True := eq_true (by omega)
      simp [d1]
    · obtain rfl := e1 (by omega)
      obtain rfl := e2 (by omega)
      have := g3 rfl
      subst this
      have d1 : (1 < n) = True := eq_true (by omega)
      have d2 : (2 < n) = True := eq_true (by omega)
      simp [d1, d2]
    · obtain rfl := e1 (by omega)
      obtain rfl := e2 (by omega)
      obtain rfl := e3 (by omega)
      have d1 : (1 < n) = True := eq_true (by omega)
      have d2 : (2 < n) = True := eq_true (by omega)
      have d3 : (3 < n) = True := eq_true (by omega)
      have d4 : (1 < m) = True := eq_true (by omega)
      have d5 : (2 < m) = True := eq_true (by omega)
      have d6 : (3 < m) = True := eq_true (by omega)
      simp only [d1, d2, d3, d4, d5, d6]
theorem get_cut (s : ByteArray) (k j : Nat) (hk : k ≤ s.size) (hj : j < k) : (s.extract 0 k).get! j = s.get! j := by
  have hsz : (s.extract 0 k).size = k := by rw [ByteArray.size_extract]; omega
  have h1 := get_at (s.extract 0 k) j (by omega)
  have h2 := get_at s j (by omega)
  rw [Nat.add_zero] at h1 h2
  rw [h1, h2]
  simp only [ByteArray.getElem_extract, Nat.zero_add]
theorem decode_cut (s : ByteArray) (k : Nat) (hk : k < s.size) (h47 : s[k].toNat = 47) (p : Nat) (hp : p < k) : Utf8.decode (s.extract 0 k) p = Utf8.decode s p := by
  have hsz : (s.extract 0 k).size = k := by rw [ByteArray.size_extract]; omega
  rw [decode_at, decode_at, hsz, get_cut s k p (by omega) hp]
  have g : ∀ i, p + i < k → ((s.extract 0 k).get! (p + i)).toNat = (s.get! (p + i)).toNat := fun i hi => by rw [get_cut s k (p + i) (by omega) hi]
  have gk : ∀ i, p + i = k → (s.get! (p + i)).toNat = 47 := fun i hi => by
    rw [get_bang s (p + i) (by omega)]
    simp only [hi]
    exact h47
  exact decodeN_cut _ _ _ _ _ _ _ _ _ (by omega) (by omega) (fun h => g 1 (by omega)) (fun h => g 2 (by omega)) (fun h => g 3 (by omega)) (fun h => gk 1 (by omega)) (fun h => gk 2 (by omega)) (fun h => gk 3 (by omega))
theorem strayF_cut (s : ByteArray) (k : Nat) (hk : k < s.size) (h47 : s[k].toNat = 47) : ∀ f g p, f ≤ g → p ≤ k → strayF (s.extract 0 k) f p = true → strayF s g p = true
  | 0, _, _, _, _, h => by cases h
  | f + 1, 0, _, h, _, _ => by omega
  | f + 1, g + 1, p, hfg, hpk, h => by
    have hsz : (s.extract 0 k).size = k := by rw [ByteArray.size_extract]; omega
    unfold strayF at h ⊢
    rw [hsz] at h
    by_cases hp : p < k
    · rw [if_pos hp] at h
      rw [if_pos (by omega : p < s.size)]
      have hd := decode_cut s k hk h47 p hp
      unfold strayAt at h ⊢
      rw [hd] at h
      by_cases hs : Utf8.decode s p = (65533, 1)
      · rw [if_pos (decide_eq_true hs)]
      · rw [if_neg (by rw [decide_eq_false hs]; decide)] at h ⊢
        refine strayF_cut s k hk h47 f g _ (by omega) ?_ h
        rcases decode_run (s.extract 0 k) p (by omega) with ⟨_, h2⟩ | ⟨_, _, _, _, h2, _⟩
        · rw [hd] at h2; rw [h2]; show p + 1 ≤ k; omega
        · rw [hd, hsz] at h2; exact h2
    · rw [if_neg hp] at h; cases h
theorem strays_cut (s : ByteArray) (k : Nat) (hk : k < s.size) (h47 : s[k].toNat = 47) (h : straysB s = false) : straysB (s.extract 0 k) = false := by
  have hsz : (s.extract 0 k).size = k := by rw [ByteArray.size_extract]; omega
  cases e : straysB (s.extract 0 k) with
  | false => rfl
  | true =>
    unfold straysB at e
    rw [hsz] at e
    have := strayF_cut s k hk h47 k s.size 0 (by omega) (by omega) e
    unfold straysB at h
    rw [h] at this
    cases this
end Go.Proofs.YtmeapijckncoeaaGreatDoor

namespace Go.Proofs.YtmeapijckncoeaaGreatDoor
set_option maxRecDepth 100000
open Go.RowKit Go.Lib

theorem nums_take (s : ByteArray) (k : Nat) : nums (s.extract 0 k) = (nums s).take k := by unfold nums; rw [Lib.extract_from_zero, List.map_take]
theorem nums_drop_end (s : ByteArray) (k : Nat) : nums (s.extract k s.size) = (nums s).drop k := by unfold nums; rw [Lib.extract_to_end, List.map_drop]
theorem data_bang (s : ByteArray) (i : Nat) (h : i < s.size) : s.data[i]! = s[i] := by
  rw [getElem!_pos s.data i h]
  rfl
/-- The last slash. -/
theorem last_cases (s : ByteArray) : ((parB s).size = 0 ∧ baseB s = s ∧ ∀ x ∈ nums s, x ≠ 47) ∨
    (∃ (k : Nat) (hk : k < s.size), s[k].toNat = 47 ∧ parB s = s.extract 0 k ∧ nums s = nums (parB s) ++ 47 :: nums (baseB s) ∧ ∀ x ∈ nums (baseB s), x ≠ 47) := by
  rcases Lib.lastIdx_spec s 47 s.size with ⟨h, hn⟩ | ⟨i, hi, h, hc, hn⟩
  · left
    have hs : spl s = 0 := by unfold spl Lib.lastIndexByte; rw [h]; rfl
    refine ⟨?_, ?_, ?_⟩
    · unfold parB parN
      rw [hs, ByteArray.size_extract]
      omega
    · unfold baseB
      rw [hs]
      apply ByteArray.ext
      exact Array.toList_inj.1 (by rw [Lib.extract_to_end]; rfl)
    · intro x hx
      obtain ⟨j, hj, rfl⟩ := List.getElem_of_mem hx
      rw [nums_len] at hj
      have h2 := nums_get s j hj
      rw [List.getElem?_eq_getElem (by rw [nums_len]; exact hj)] at h2
      rw [Option.some.inj h2]
      have := hn j hj
      rw [data_bang s j hj] at this
      omega
  · right
    have hs : spl s = (i : Int) + 1 := by unfold spl Lib.lastIndexByte; rw [h]
    have hpn : parN s = i := by unfold parN; rw [hs]; omega
    have hpb : parB s = s.extract 0 i := by unfold parB; rw [hpn]
    have hbb : baseB s = s.extract (i + 1) s.size := by unfold baseB; rw [hs]; rfl
    have hc2 : s[i].toNat = 47 := by
      rw [data_bang s i hi] at hc
      omega
    refine ⟨i, hi, hc2, hpb, ?_, ?_⟩
    · rw [hpb, hbb, nums_take, nums_drop_end]
      have := nums_drop s i hi
      rw [hc2] at this
      rw [← this, List.take_append_drop]
    · rw [hbb, nums_drop_end]
      intro x hx
      obtain ⟨j, hj, rfl⟩ := List.getElem_of_mem hx
      rw [List.length_drop, nums_len] at hj
      rw [List.getElem_drop]
      have hj2 : i + 1 + j < s.size := by omega
      have h2 := nums_get s (i + 1 + j) hj2
      rw [List.getElem?_eq_getElem (by rw [nums_len]; exact hj2)] at h2
      rw [Option.some.inj h2]
      have := hn (i + 1 + j) (by omega) hj2
      rw [data_bang s _ hj2] at this
      omega
/-- A path that is right. -/
def Right (u : ByteArray) : Prop := readN u = 0 ∧ harmN u = 0
theorem read_zero (s : ByteArray) : readN s = 0 ↔ s.size ≤ 65535 ∧ nums s ≠ [] ∧ straysB s = false := by
  unfold readN
  by_cases h1 : 65535 < s.size
  · rw [decide_eq_true h1, if_pos rfl]
    constructor
    · intro h; exact absurd h (by decide)
    · intro h; omega
  · rw [decide_eq_false h1, if_neg (by decide), isEmpty_nums2]
    constructor
    · intro h
      refine ⟨by omega, ?_, ?_⟩
      · intro e; rw [e] at h; exact absurd h (by simp)
      · cases e : straysB s with
        | false => rfl
        | true => rw [e] at h; exact absurd h (by simp)
    · rintro ⟨_, h2, h3⟩
      rw [h3]
      cases e : nums s with
      | nil => exact absurd e h2
      | cons a b => rfl
theorem suffix_nums (s : ByteArray) : dirB s = true ↔ ∃ a, nums s = a ++ [47] := by
  unfold dirB hasSuffix
  rw [List.isSuffixOf_iff_suffix]
  constructor
  · rintro ⟨t, ht⟩
    exact ⟨t.map UInt8.toNat, by unfold nums; rw [← ht, List.map_append]; rfl⟩
  · rintro ⟨a, ha⟩
    refine ⟨s.data.toList.take a.length, toNat_list_inj _ _ ?_⟩
    rw [List.map_append, List.map_take]
    show (nums s).take a.length ++ [47] = nums s
    rw [ha, List.take_left]
theorem path_false {s : ByteArray} (h : dirB s = false) : pathB s = s := by
  unfold pathB trimSuffix
  unfold dirB at h
  rw [h, if_neg (by decide)]
theorem path_true {s : ByteArray} (h : dirB s = true) : ∃ (k : Nat) (hk : k < s.size), s[k].toNat = 47 ∧ k + 1 = s.size ∧ pathB s = s.extract 0 k := by
  obtain ⟨a, ha⟩ := (suffix_nums s).1 h
  have hl : s.size = a.length + 1 := by rw [← nums_len, ha]; simp
  have hk : a.length < s.size := by omega
  refine ⟨a.length, hk, ?_, hl.symm, ?_⟩
  · have h2 := nums_get s a.length hk
    rw [ha, List.getElem?_append_right (Nat.le_refl _)] at h2
    simpa using h2.symm
  · unfold pathB trimSuffix
    unfold dirB at h
    rw [h, if_pos rfl]
    apply ByteArray.ext
    apply Array.toList_inj.1
    rw [Lib.extract_from_zero]
    have : s.data.toList.length - [(47 : UInt8)].length = a.length := by
      rw [Array.length_toList]
      show s.size - 1 = _
      omega
    rw [this]
theorem chk_right {u : ByteArray} (h : Right u) : chkV u = (u, false, 0) := by
  have hd : dirB u = false := by
    cases e : dirB u with
    | false => rfl
    | true =>
      obtain ⟨a, ha⟩ := (suffix_nums u).1 e
      have := h.2
      rw [harm_L, ha] at this
      exact absurd this (harm_last a)
  unfold chkV
  rw [path_false hd, hd, if_neg (by rw [h.1]; decide), if_neg (by rw [h.2]; decide)]
theorem chk_cases (s : ByteArray) : ((chkV s).2.2 = 0 ∧ (chkV s).1 = pathB s ∧ Right (pathB s)) ∨ ((chkV s).2.2 ≠ 0 ∧ (chkV s).1 = .empty) := by
  unfold chkV
  by_cases h1 : readN s = 0
  · rw [if_neg (by rw [h1]; decide)]
    by_cases h2 : harmN (pathB s) = 0
    · rw [if_neg (by rw [h2]; decide)]
      refine .inl ⟨rfl, rfl, ?_, h2⟩
      obtain ⟨a1, a2, a3⟩ := (read_zero s).1 h1
      have hn : nums (pathB s) ≠ [] := by
        rw [harm_L] at h2
        exact ((harm_zero _).1 h2).2.1
      refine (read_zero _).2 ⟨?_, hn, ?_⟩
      · have := path_le s; omega
      · cases e : dirB s with
        | false => rw [path_false e]; exact a3
        | true =>
          obtain ⟨k, hk, h47, _, hp⟩ := path_true e
          rw [hp]
          exact strays_cut s k hk h47 a3
    · rw [if_pos h2]
      exact .inr ⟨h2, rfl⟩
  · rw [if_pos h1]
    exact .inr ⟨h1, rfl⟩
theorem empty_of_size {s : ByteArray} (h : s.size = 0) : nums s = [] := List.length_eq_zero_iff.1 (by rw [nums_len]; exact h)
theorem right_parent {u : ByteArray} (h : Right u) : misB (baseB u) = false ∧ ((parB u).toList.isEmpty = true ∨ Right (parB u)) := by
  obtain ⟨h1, h2⟩ := h
  rw [harm_L] at h2
  obtain ⟨a1, a2, a3⟩ := (read_zero u).1 h1
  rcases last_cases u with ⟨b1, b2, b3⟩ | ⟨k, hk, h47, hp, hn, hb⟩
  · refine ⟨?_, .inl ?_⟩
    · rw [b2, misB_L]; exact harm_lone _ b3 h2
    · rw [isEmpty_nums2, empty_of_size b1]; rfl
  · rw [hn] at h2
    obtain ⟨c1, c2⟩ := harm_parent _ _ hb h2
    refine ⟨by rw [misB_L]; exact c1, ?_⟩
    by_cases he : nums (parB u) = []
    · left; rw [isEmpty_nums2, he]; rfl
    · right
      refine ⟨(read_zero _).2 ⟨?_, he, ?_⟩, by rw [harm_L]; exact c2 he⟩
      · rw [hp, ByteArray.size_extract]; omega
      · rw [hp]; exact strays_cut u k hk h47 a3
/-- One of a path's parents, or it. -/
def Ahead (p u : ByteArray) : Prop := nums p = nums u ∨ ∃ r, nums p = nums u ++ 47 :: r
theorem Ahead.up {p u : ByteArray} (h : Ahead p u) (hne : (parB u).toList.isEmpty = false) : Ahead p (parB u) := by
  rcases last_cases u with ⟨b1, _, _⟩ | ⟨k, hk, h47, hp, hn, hb⟩
  · rw [isEmpty_nums2, empty_of_size b1] at hne; cases hne
  · right
    rcases h with h | ⟨r, h⟩
    · exact ⟨_, h.trans hn⟩
    · exact ⟨nums (baseB u) ++ 47 :: r, by rw [h, hn]; simp⟩
theorem Ahead.order {p u : ByteArray} (h : Ahead p u) : ordT u p ≤ 0 := by
  unfold ordT
  rcases h with h | ⟨r, h⟩
  · rw [h, ordL_self]; decide
  · rw [h]; exact ordL_prefix _ _
theorem Ahead.under {p u : ByteArray} (h : Ahead p u) : undB p u = true := by
  have hd : ∃ t : List UInt8, p.data.toList = u.data.toList ++ t ∧ (t = [] ∨ ∃ q, t = 47 :: q) := by
    rcases h with h | ⟨r, h⟩
    · exact ⟨[], by rw [List.append_nil]; exact toNat_list_inj _ _ h, .inl rfl⟩
    · have h1 : p.data.toList.take u.data.toList.length = u.data.toList := toNat_list_inj _ _ (by
        rw [List.map_take]
        show (nums p).take _ = nums u
        rw [h, show u.data.toList.length = (nums u).length by simp [nums], List.take_left])
      have h2 : (p.data.toList.drop u.data.toList.length).map UInt8.toNat = 47 :: r := by
        rw [List.map_drop]
        show (nums p).drop _ = _
        rw [h, show u.data.toList.length = (nums u).length by simp [nums], List.drop_left]
      refine ⟨p.data.toList.drop u.data.toList.length, ?_, .inr ?_⟩
      · conv => lhs; rw [← List.take_append_drop u.data.toList.length p.data.toList, h1]
      · cases e : p.data.toList.drop u.data.toList.length with
        | nil => rw [e] at h2; cases h2
        | cons x q =>
          rw [e, List.map_cons] at h2
          injection h2 with h3 _
          exact ⟨q, by rw [show x = 47 from UInt8.toNat_inj.1 h3]⟩
  obtain ⟨t, ht, hq⟩ := hd
  unfold undB
  have h1 : Lib.hasPrefix p.data.toList u.data.toList = true := by
    unfold Lib.hasPrefix
    rw [List.isPrefixOf_iff_prefix]
    exact ⟨t, ht.symm⟩
  have h2 : Lib.trimPrefix p.data.toList u.data.toList = t := by
    unfold Lib.trimPrefix
    rw [h1, if_pos rfl, ht, List.drop_left]
  rw [h1, h2]
  rcases hq with rfl | ⟨q, rfl⟩
  · simp
  · have : Lib.hasPrefix (47 :: q) [47] = true := by unfold Lib.hasPrefix; rfl
    rw [this]
    simp
theorem parent_smaller {u : ByteArray} (h : u.toList.isEmpty = false) : (parB u).size < u.size := by
  have hu : u.size ≠ 0 := fun e => by rw [isEmpty_nums2, empty_of_size e] at h; cases h
  rcases last_cases u with ⟨b1, _, _⟩ | ⟨k, hk, h47, hp, hn, hb⟩
  · omega
  · rw [hp, ByteArray.size_extract]; omega
end Go.Proofs.YtmeapijckncoeaaGreatDoor

namespace Go.Proofs.YtmeapijckncoeaaGreatDoor
set_option maxRecDepth 100000
open Go.RowKit Go.Deep Go.Joins Go.Lib

theorem row_slice {w : World} {B n z : Nat} {e : TypeId} {v : Value} {l : List Value} (h : w.ownsRow B e z v n l) : ∃ A c, v = .slice A n c := by
  rcases h.2 with ⟨rfl, rfl⟩ | ⟨g, cap, cur, rfl, _⟩
  · exact ⟨_, _, rfl⟩
  · exact ⟨_, _, rfl⟩
theorem own_below {w w' : World} {base size n : Nat} {e : TypeId} {v : Value} {xs : List Value} (h : w.ownsRow base e size v n xs) (hb : Below w.heap.size w w') : w'.ownsRow base e size v n xs :=
  h.kept (row := none) ⟨hb.os, hb.tape, hb.output, hb.size, fun i hi _ => hb.block i hi⟩ (by cases hv : v.ownBlock <;> simp)
def strC (ss : List (List Nat)) : List Value := ss.map fun l => Value.string (text l)
theorem info9 : (Tryz.prog.info? 9).map (fun i => (i.zero, i.size, i.bytes)) = some (some (.string ByteArray.empty), 1, 16) := by kernel_rfl
theorem text_snoc (l : List Nat) (s : ByteArray) (k : Nat) (h : k < s.size) : text l ++ s.extract k (k + 1) = text (l ++ [s[k].toNat]) := by
  have e : s.extract k (k + 1) = text [s[k].toNat] := by
    have h1 : nums (s.extract k (k + 1)) = [s[k].toNat] := by
      unfold nums
      rw [Lib.extract_data]
      rw [List.map_take, List.map_drop]
      show ((nums s).drop k).take _ = _
      rw [nums_drop s k h, show k + 1 - k = 1 by omega]
      rfl
    rw [← text_nums (s.extract k (k + 1)), h1]
  rw [e]
  apply ByteArray.ext
  simp [text]
theorem foldl_le : ∀ (l : List Nat) (x : List (List Nat) × List Nat), (l.foldl stepP x).1.length ≤ x.1.length + l.length
  | [], x => Nat.le_refl _
  | c :: r, x => by
    rw [List.foldl_cons]
    have h := foldl_le r (stepP x c)
    have h2 : (stepP x c).1.length ≤ x.1.length + 1 := by
      unfold stepP
      split
      · simp
      · show x.1.length ≤ _; omega
    rw [List.length_cons]
    omega
theorem ptS_le (l : List Nat) : (ptS l).1.length ≤ l.length := by
  have := foldl_le l ([], [])
  simpa [ptS] using this
theorem foldl_le2 : ∀ (l : List Nat) (x : List (List Nat) × List Nat), (l.foldl stepP x).2.length ≤ x.2.length + l.length
  | [], x => Nat.le_refl _
  | c :: r, x => by
    rw [List.foldl_cons]
    have h := foldl_le2 r (stepP x c)
    have h2 : (stepP x c).2.length ≤ x.2.length + 1 := by
      unfold stepP
      split
      · simp
      · simp
    rw [List.length_cons]
    omega
theorem ptS_le2 (l : List Nat) : (ptS l).2.length ≤ l.length := by
  have := foldl_le2 l ([], [])
  simpa [ptS] using this
theorem parts_done (l : List Nat) (h : l ≠ []) : (ptS l).1 ++ [(ptS l).2] = partsL l := by
  rw [ptS_end]; unfold partsL; rw [if_neg h]
set_option maxHeartbeats 8000000 in
theorem rparts_any (s : ByteArray) (w : World) (hs : s.size ≤ 100000) :
    Calls Tryz.prog 63 #[.string s] w fun e w' => ∃ v, e = .returned v ∧ w'.ownsRow w.heap.size 9 1 v (partsL (nums s)).length (strC (partsL (nums s))) ∧ Below w.heap.size w w' := by
  obtain ⟨i0, hi, hz0, hz1, hz2⟩ := info_parts info9
  by_cases h0 : s.size = 0
  · have g0 : ((s.size : Int) == 0) = true := by rw [beq_iff_eq]; omega
    have hp : partsL (nums s) = [] := by rw [empty_of_size h0]; rfl
    go_enter Tryz.func63, Tryz.ntmps63
    go_wp2
    go_ret
    rw [hp]
    exact ⟨_, rfl, World.ownsRow_nil _ _ _ _, Below.refl _ _⟩
  · have g0 : ((s.size : Int) == 0) = false := by rw [beq_eq_false_iff_ne]; omega
    have HPD := Lib.hid (parts_done (nums s) (fun e => h0 (by rw [← nums_len, e]; rfl)))
    clear h0
    go_enter Tryz.func63, Tryz.ntmps63
    go_wp2_with fail
    go_loopw [5, 3, 4] (fun i l p wr => ∃ k : Nat, k ≤ s.size ∧ i = .int .i64 (k : Nat) ∧ p = .string (text (ptS ((nums s).take k)).2) ∧ Hid (wr.ownsRow w.heap.size 9 1 l (ptS ((nums s).take k)).1.length (strC (ptS ((nums s).take k)).1)) ∧ Hid (Below w.heap.size w wr)) (fun i _ _ _ => s.size - (intOf i).toNat)
    case atStart => exact ⟨0, Nat.zero_le _, rfl, rfl, World.ownsRow_nil _ _ _ _, Below.refl _ _⟩
    case round =>
      obtain ⟨k, hk, rfl, rfl, HO, HB⟩ := hrel
      have hle : (ptS ((nums s).take k)).1.length ≤ 100000 := by
        have := ptS_le ((nums s).take k)
        rw [List.length_take, nums_len] at this
        omega
      have hle2 : (ptS ((nums s).take k)).2.length ≤ 100000 := by
        have := ptS_le2 ((nums s).take k)
        rw [List.length_take, nums_len] at this
        omega
      have HWS := Lib.hid HB.out.size
      by_cases hks : k < s.size
      · have hsn : ptS ((nums s).take (k + 1)) = stepP (ptS ((nums s).take k)) s[k].toNat := by rw [nums_snoc s k hks, ptS_snoc]
        have HSN := Lib.hid hsn
        clear hsn
        have HTX := Lib.hid (fun l => text_snoc l s k hks)
        generalize ptS ((nums s).take k) = P at *
        obtain ⟨L, p⟩ := P
        have ho := HO.out
        simp only at ho hle hle2
        by_cases h47 : s[k].toNat = 47
        · have hb47 : ((s[k].toNat : Int) == 47) = true := by rw [h47]; rfl
          have HS2 : Hid (ptS ((nums s).take (k + 1)) = (L ++ [p], [])) := by show _ = _; rw [HSN.out]; unfold stepP; rw [if_pos h47]
          clear h47
          obtain ⟨A2, cp2, rfl⟩ := row_slice ho
          clear ho
          go_wp2_with (at_builtin; refine wpList_append_own_at _ rfl (.tmp 19) (.tmp 21) _ rfl w.heap.size 9 i0 (.string ByteArray.empty) 1 16 Tryz.underlying32 hi hz0 hz1 hz2 rfl (by decide) _ L.length (strC L) rfl (HO.out.alloc _) ⟨wr.heap.size, 0, none⟩ 1 1 [.string (text p)] rfl rfl ?c1 ?c2 ?c3 ?c4 ?c5 ?_)
          case c2 => rfl
          case c3 => unfold maxLen; omega
          case c4 => omega
          case c5 => have := HWS.out; simp; omega
          intro v2 w3 hown hgrow _ hat
          have HB3 : Hid (Below w.heap.size w w3) := (HB.out.alloc HWS.out _).grown hgrow (by have := HWS.out; simp; omega) fun g hg => (HO.out.lt g hg).1
          have HO3 : Hid (w3.ownsRow w.heap.size 9 1 v2 (L ++ [p]).length (strC (L ++ [p]))) := by
            show World.ownsRow _ _ _ _ _ _ _
            rw [List.length_append]
            unfold strC
            rw [List.map_append]
            exact hown
          clear hown hgrow hat
          go_wp2_with fail
          go_roundw
          case rel =>
            refine ⟨k + 1, by omega, by go_num, ?_, ?_, HB3⟩
            · rw [HS2.out]; rfl
            · rw [HS2.out]; exact HO3
          case measure => simp [intOf]; omega
        · have hb47 : ((s[k].toNat : Int) == 47) = false := by rw [beq_eq_false_iff_ne]; omega
          have HS2 : Hid (ptS ((nums s).take (k + 1)) = (L, p ++ [s[k].toNat])) := by show _ = _; rw [HSN.out]; unfold stepP; rw [if_neg h47]
          obtain ⟨q, hq, hqi⟩ : ∃ q : Nat, k + 1 = q ∧ ((k : Int) + 1) = (q : Int) := ⟨k + 1, rfl, by omega⟩
          rw [hq] at HTX
          have HQ := Lib.hid hq
          have hkq : k ≤ q := by omega
          have hqs : q ≤ s.size := by omega
          have hcat : ¬ 9223372036854775807 < (text p).size + (q - k) := by rw [text_size]; omega
          clear h47 ho hq hle2
          go_wp2_with fail
          go_roundw
          case rel =>
            refine ⟨k + 1, by omega, by have := HQ.out; subst this; go_num, ?_, ?_, HB⟩
            · rw [HS2.out, HTX.out]
            · rw [HS2.out]; exact HO
          case measure => simp [intOf]; omega
      · obtain rfl : k = s.size := by omega
        have hall : (nums s).take s.size = nums s := by rw [← nums_len]; exact List.take_length
        rw [hall] at HO hle ⊢
        clear hle2
        generalize ptS (nums s) = P at *
        obtain ⟨L, p⟩ := P
        have ho := HO.out
        simp only at ho hle
        obtain ⟨A2, cp2, rfl⟩ := row_slice ho
        clear ho
        go_wp2_with (at_builtin; refine wpList_append_own_at _ rfl (.tmp 30) (.tmp 32) _ rfl w.heap.size 9 i0 (.string ByteArray.empty) 1 16 Tryz.underlying32 hi hz0 hz1 hz2 rfl (by decide) _ L.length (strC L) rfl (HO.out.alloc _) ⟨wr.heap.size, 0, none⟩ 1 1 [.string (text p)] rfl rfl ?d1 ?d2 ?d3 ?d4 ?d5 ?_)
        case d2 => rfl
        case d3 => unfold maxLen; omega
        case d4 => omega
        case d5 => have := HWS.out; simp; omega
        intro v2 w3 hown hgrow _ hat
        have HB3 : Hid (Below w.heap.size w w3) := (HB.out.alloc HWS.out _).grown hgrow (by have := HWS.out; simp; omega) fun g hg => (HO.out.lt g hg).1
        have HO3 : Hid (w3.ownsRow w.heap.size 9 1 v2 (L ++ [p]).length (strC (L ++ [p]))) := by
          show World.ownsRow _ _ _ _ _ _ _
          rw [List.length_append]
          unfold strC
          rw [List.map_append]
          exact hown
        clear hown hgrow hat
        go_wp2_with fail
        go_ret
        have hpd : L ++ [p] = partsL (nums s) := HPD.out
        rw [← hpd]
        exact ⟨v2, rfl, HO3.out, HB3.out⟩
end Go.Proofs.YtmeapijckncoeaaGreatDoor

namespace Go.Proofs.YtmeapijckncoeaaGreatDoor
set_option maxRecDepth 100000
open Go.RowKit Go.Deep Go.Joins Go.Lib

set_option maxHeartbeats 4000000 in
theorem rless_any (a b : ByteArray) (w : World) (ha : a.size ≤ 1000000) :
    Calls Tryz.prog 64 #[.string a, .string b] w fun e w' => e = .returned (.int .i64 (lessL (nums a) (nums b))) ∧ ∃ n, w' = w.drewN n := by
  go_enter Tryz.func64, Tryz.ntmps64
  go_wp2_with fail
  go_loopw [5] (fun i wr => ∃ k : Nat, k ≤ a.size ∧ k ≤ b.size ∧ i = .int .i64 (k : Nat) ∧ Hid (lessL ((nums a).drop k) ((nums b).drop k) = lessL (nums a) (nums b)) ∧ Hid (∃ n, wr = w.drewN n)) (fun i _ => a.size - (intOf i).toNat)
  case atStart => exact ⟨0, Nat.zero_le _, Nat.zero_le _, rfl, rfl, 0, rfl⟩
  case round =>
    obtain ⟨k, hka, hkb, rfl, HO, HD⟩ := hrel
    by_cases h1 : k < a.size
    · by_cases h2 : k < b.size
      · have HS : Hid (lessL ((nums a).drop k) ((nums b).drop k) = if a[k].toNat = b[k].toNat then lessL ((nums a).drop (k + 1)) ((nums b).drop (k + 1)) else if a[k].toNat < b[k].toNat then -1 else 1) := by
          show _ = _
          rw [nums_drop a k h1, nums_drop b k h2, lessL]
        have g1 : decide ((k : Int) < (a.size : Int)) = true := decide_eq_true (by omega)
        have g2 : decide ((k : Int) < (b.size : Int)) = true := decide_eq_true (by omega)
        rcases Nat.lt_trichotomy a[k].toNat b[k].toNat with hx | hx | hx
        · have g3 : decide (a[k].toNat < b[k].toNat) = true := decide_eq_true (by omega)
          have HE : Hid (lessL (nums a) (nums b) = -1) := by show _ = _; rw [← HO.out, HS.out, if_neg (by omega), if_pos hx]
          clear hx
          go_wp2_with fail
          go_quiet (fail)
          go_wp2_with fail
          go_ret
          rw [HE.out]
          obtain ⟨n, hn⟩ := HD.out
          exact ⟨rfl, n + nq, by rw [hn, World.drewN_drewN]⟩
        · have g3 : decide (a[k].toNat < b[k].toNat) = false := decide_eq_false (by omega)
          have g4 : decide (b[k].toNat < a[k].toNat) = false := decide_eq_false (by omega)
          have HE : Hid (lessL ((nums a).drop (k + 1)) ((nums b).drop (k + 1)) = lessL (nums a) (nums b)) := by show _ = _; rw [← HO.out, HS.out, if_pos hx]
          clear hx
          go_wp2_with fail
          go_quiet (fail)
          have HD2 : Hid (∃ n, wr.drewN nq = w.drewN n) := by
            obtain ⟨nd, hd⟩ := HD.out
            exact ⟨nd + nq, by rw [hd, World.drewN_drewN]⟩
          generalize wr.drewN nq = w2 at *
          go_wp2_with fail
          go_quiet (fail)
          go_wp2_with fail
          go_roundw
          case rel =>
            obtain ⟨nd, hd⟩ := HD2.out
            exact ⟨k + 1, by omega, by omega, by go_num, HE, nd + _, by rw [hd, World.drewN_drewN]⟩
          case measure => simp [intOf]; omega
        · have g3 : decide (a[k].toNat < b[k].toNat) = false := decide_eq_false (by omega)
          have g4 : decide (b[k].toNat < a[k].toNat) = true := decide_eq_true (by omega)
          have HE : Hid (lessL (nums a) (nums b) = 1) := by show _ = _; rw [← HO.out, HS.out, if_neg (by omega), if_neg (by omega)]
          clear hx
          go_wp2_with fail
          go_quiet (fail)
          have HD2 : Hid (∃ n, wr.drewN nq = w.drewN n) := by
            obtain ⟨nd, hd⟩ := HD.out
            exact ⟨nd + nq, by rw [hd, World.drewN_drewN]⟩
          generalize wr.drewN nq = w2 at *
          go_wp2_with fail
          go_quiet (fail)
          go_wp2_with fail
          go_ret
          rw [HE.out]
          obtain ⟨n, hn⟩ := HD2.out
          exact ⟨rfl, n + _, by rw [hn, World.drewN_drewN]⟩
      · obtain rfl : k = b.size := by omega
        have g1 : decide ((b.size : Int) < (a.size : Int)) = true := decide_eq_true (by omega)
        have g2 : decide ((a.size : Int) < (b.size : Int)) = false := decide_eq_false (by omega)
        have HE : Hid (lessL (nums a) (nums b) = 1) := by
          show _ = _
          rw [← HO.out, show (nums b).drop b.size = [] from List.drop_eq_nil_of_le (by rw [nums_len]; exact Nat.le_refl _), nums_drop a _ h1]
          rfl
        go_wp2_with fail
        go_ret
        rw [HE.out]
        exact ⟨rfl, HD.out⟩
    · obtain rfl : k = a.size := by omega
      have hn : (nums a).drop a.size = [] := List.drop_eq_nil_of_le (by rw [nums_len]; exact Nat.le_refl _)
      have g3 : decide ((b.size : Int) < (a.size : Int)) = false := decide_eq_false (by omega)
      by_cases h2 : a.size < b.size
      · have g2 : decide ((a.size : Int) < (b.size : Int)) = true := decide_eq_true (by omega)
        have HE : Hid (lessL (nums a) (nums b) = -1) := by
          show _ = _
          rw [← HO.out, hn, nums_drop b _ h2]
          rfl
        clear hn
        go_wp2_with fail
        go_ret
        rw [HE.out]
        exact ⟨rfl, HD.out⟩
      · have g2 : decide ((a.size : Int) < (b.size : Int)) = false := decide_eq_false (by omega)
        have HE : Hid (lessL (nums a) (nums b) = 0) := by
          show _ = _
          rw [← HO.out, hn, show (nums b).drop a.size = [] from List.drop_eq_nil_of_le (by rw [nums_len]; omega)]
          rfl
        clear hn
        go_wp2_with fail
        go_ret
        rw [HE.out]
        exact ⟨rfl, HD.out⟩

theorem splitL_mem : ∀ (l p : List Nat), p ∈ splitL l → ∀ x ∈ p, x ∈ l
  | [], p, hp, x, hx => by
    simp [splitL] at hp
    subst hp
    cases hx
  | c :: r, p, hp, x, hx => by
    obtain ⟨h, t, e⟩ := splitL_form r
    by_cases hc : c = 47
    · subst hc
      rw [splitL_slash] at hp
      rcases List.mem_cons.1 hp with rfl | hp
      · cases hx
      · exact .tail _ (splitL_mem r p hp x hx)
    · rw [splitL_other hc e] at hp
      rcases List.mem_cons.1 hp with rfl | hp
      · rcases List.mem_cons.1 hx with rfl | hx
        · exact .head _
        · exact .tail _ (splitL_mem r h (by rw [e]; exact .head _) x hx)
      · exact .tail _ (splitL_mem r p (by rw [e]; exact .tail _ hp) x hx)
theorem parts_lt (s : ByteArray) (p : List Nat) (hp : p ∈ partsL (nums s)) : ∀ x ∈ p, x < 256 := fun x hx => by
  unfold partsL at hp
  by_cases h : nums s = []
  · rw [if_pos h] at hp; cases hp
  · rw [if_neg h] at hp
    exact nums_lt s x (splitL_mem _ p hp x hx)
theorem parts_len (s : ByteArray) : (partsL (nums s)).length ≤ s.size + 1 := by
  unfold partsL
  split
  · simp
  · rw [splitL_count]
    have := List.count_le_length (a := 47) (l := nums s)
    rw [nums_len] at this
    omega
theorem splitL_size : ∀ (l p : List Nat), p ∈ splitL l → p.length ≤ l.length
  | [], p, hp => by
    simp [splitL] at hp
    subst hp
    simp
  | c :: r, p, hp => by
    obtain ⟨h, t, e⟩ := splitL_form r
    rw [List.length_cons]
    by_cases hc : c = 47
    · subst hc
      rw [splitL_slash] at hp
      rcases List.mem_cons.1 hp with rfl | hp
      · simp
      · have := splitL_size r p hp; omega
    · rw [splitL_other hc e] at hp
      rcases List.mem_cons.1 hp with rfl | hp
      · have := splitL_size r h (by rw [e]; exact .head _)
        rw [List.length_cons]; omega
      · have := splitL_size r p (by rw [e]; exact .tail _ hp); omega
theorem part_size (s : ByteArray) (p : List Nat) (hp : p ∈ partsL (nums s)) : p.length ≤ s.size := by
  unfold partsL at hp
  by_cases h : nums s = []
  · rw [if_pos h] at hp; cases hp
  · rw [if_neg h] at hp
    have := splitL_size _ p hp
    rw [nums_len] at this
    exact this
theorem own_str {w : World} {B c : Nat} {A : Option Addr} {ss : List (List Nat)} (h : w.ownsRow B 9 1 (.slice A ss.length c) ss.length (strC ss)) (h0 : 0 < ss.length) :
    ∃ g, A = some ⟨g, 0, none⟩ ∧ B ≤ g ∧ g < w.heap.size ∧ ∀ i (hi : i < ss.length), w.cell? ⟨g, i, none⟩ = some (.string (text ss[i])) := by
  have hl := h.lt
  rcases ownsRow_forms h with ⟨hv, hn⟩ | ⟨g2, cap, hv⟩
  · omega
  · injection hv with hA _ _
    subst hA
    refine ⟨g2, rfl, (hl g2 rfl).1, (hl g2 rfl).2, fun i hi => ?_⟩
    have := h.cellAt i (by omega)
    rw [this]
    simp only [strC, List.getElem?_map, List.getElem?_eq_getElem hi, Option.map_some]

theorem cmpL_drop {xs ys : List (List Nat)} {k : Nat} (h1 : k < xs.length) (h2 : k < ys.length) : cmpL (xs.drop k) (ys.drop k) = if lessL xs[k] ys[k] = 0 then cmpL (xs.drop (k + 1)) (ys.drop (k + 1)) else lessL xs[k] ys[k] := by
  rw [List.drop_eq_getElem_cons h1, List.drop_eq_getElem_cons h2, cmpL]
set_option maxHeartbeats 8000000 in
theorem rorder_any (a b : ByteArray) (w : World) (ha : a.size ≤ 100000) (hb : b.size ≤ 100000) :
    Calls Tryz.prog 45 #[.string a, .string b] w fun e w' => e = .returned (.int .i64 (ordT a b)) ∧ Below w.heap.size w w' := by
  have HPA := Lib.hid (fun w => rparts_any a w ha)
  have HPB := Lib.hid (fun w => rparts_any b w hb)
  have HC : Hid (cmpL (partsL (nums a)) (partsL (nums b)) = ordT a b) := cmp_parts _ _
  have hla := parts_len a
  have hlb := parts_len b
  have HMA : Hid (∀ p ∈ partsL (nums a), (text p).size ≤ 1000000 ∧ nums (text p) = p) := fun p hp => ⟨by rw [text_size]; have := part_size a p hp; omega, nums_text p (parts_lt a p hp)⟩
  have HMB : Hid (∀ p ∈ partsL (nums b), nums (text p) = p) := fun p hp => nums_text p (parts_lt b p hp)
  generalize partsL (nums a) = xs at *
  generalize partsL (nums b) = ys at *
  generalize ordT a b = O at *
  go_enter Tryz.func45, Tryz.ntmps45
  go_wp2_with fail
  refine (HPA.out _).mono ?_
  rintro e w1 ⟨v1, rfl, ho1, hb1⟩
  obtain ⟨A1, c1, rfl⟩ := row_slice ho1
  have HO1 := Lib.hid ho1
  have HB1 := Lib.hid hb1
  clear ho1 hb1
  go_wp2_with fail
  refine (HPB.out _).mono ?_
  rintro e w2 ⟨v2, rfl, ho2, hb2⟩
  obtain ⟨A2, c2, rfl⟩ := row_slice ho2
  have HO1' := Lib.hid (own_below HO1.out hb2)
  have HO2 := Lib.hid ho2
  have HB2 := Lib.hid (below_then HB1.out hb2)
  clear ho2 hb2 HO1 HB1
  go_wp2_with fail
  go_loopw [7] (fun i wr => ∃ k : Nat, k ≤ xs.length ∧ k ≤ ys.length ∧ i = .int .i64 (k : Nat) ∧ Hid (cmpL (xs.drop k) (ys.drop k) = O) ∧ Hid (∃ n, wr = w2.drewN n)) (fun i _ => xs.length - (intOf i).toNat)
  case atStart => exact ⟨0, Nat.zero_le _, Nat.zero_le _, rfl, HC.out, 0, rfl⟩
  case round =>
    obtain ⟨k, hka, hkb, rfl, HO, HD⟩ := hrel
    by_cases h1 : k < xs.length
    · by_cases h2 : k < ys.length
      · have HS := Lib.hid (cmpL_drop h1 h2)
        have g1 : decide ((k : Int) < (xs.length : Int)) = true := decide_eq_true (by omega)
        have g2 : decide ((k : Int) < (ys.length : Int)) = true := decide_eq_true (by omega)
        obtain ⟨g3, rfl, _, _, hc1⟩ := own_str HO1'.out (by omega)
        obtain ⟨g4, rfl, _, _, hc2⟩ := own_str HO2.out (by omega)
        have k1 : wr.cell? ⟨g3, k, none⟩ = some (.string (text xs[k])) := by
          obtain ⟨n, hn⟩ := HD.out
          rw [hn, World.cell?_drewN]
          exact hc1 k h1
        have k2 : wr.cell? ⟨g4, k, none⟩ = some (.string (text ys[k])) := by
          obtain ⟨n, hn⟩ := HD.out
          rw [hn, World.cell?_drewN]
          exact hc2 k h2
        obtain ⟨hm1, hm2⟩ := HMA.out xs[k] (List.getElem_mem h1)
        have hm3 := HMB.out ys[k] (List.getElem_mem h2)
        have HL := Lib.hid (fun w => rless_any (text xs[k]) (text ys[k]) w hm1)
        rw [hm2, hm3] at HL
        clear hc1 hc2 hm1 hm2 hm3
        generalize xs[k] = x at *
        generalize ys[k] = y at *
        by_cases hz : lessL x y = 0
        · have HE : Hid (cmpL (xs.drop (k + 1)) (ys.drop (k + 1)) = O) := by show _ = _; rw [← HO.out, HS.out, if_pos hz]
          rw [hz] at HL
          clear hz
          go_wp2_with fail
          go_quiet (first | (go_at_call 64; exact Calls.quiet_of (HL.out _)))
          go_wp2_with fail
          go_roundw
          case rel =>
            obtain ⟨nd, hd⟩ := HD.out
            exact ⟨k + 1, by omega, by omega, by go_num, HE, nd + _, by rw [hd, World.drewN_drewN]⟩
          case measure => simp [intOf]; omega
        · have HE : Hid (lessL x y = O) := by show _ = _; rw [← HO.out, HS.out, if_neg hz]
          have g3 : (lessL x y != 0) = true := by rw [bne_iff_ne]; exact hz
          clear hz
          go_wp2_with fail
          go_quiet (first | (go_at_call 64; exact Calls.quiet_of (HL.out _)))
          go_wp2_with fail
          go_ret
          obtain ⟨nd, hd⟩ := HD.out
          rw [HE.out, hd]
          exact ⟨rfl, below_drewN (below_drewN HB2.out _) _⟩
      · obtain rfl : k = ys.length := by omega
        have g1 : decide ((ys.length : Int) < (xs.length : Int)) = true := decide_eq_true (by omega)
        have g2 : decide ((xs.length : Int) < (ys.length : Int)) = false := decide_eq_false (by omega)
        have HE : Hid (O = 1) := by
          show _ = _
          rw [← HO.out, show ys.drop ys.length = [] from List.drop_length, List.drop_eq_getElem_cons h1]
          rfl
        go_wp2_with fail
        go_ret
        obtain ⟨nd, hd⟩ := HD.out
        rw [HE.out, hd]
        exact ⟨rfl, below_drewN HB2.out _⟩
    · obtain rfl : k = xs.length := by omega
      have hn : xs.drop xs.length = [] := List.drop_length
      have g3 : decide ((ys.length : Int) < (xs.length : Int)) = false := decide_eq_false (by omega)
      by_cases h2 : xs.length < ys.length
      · have g2 : decide ((xs.length : Int) < (ys.length : Int)) = true := decide_eq_true (by omega)
        have HE : Hid (O = -1) := by
          show _ = _
          rw [← HO.out, hn, List.drop_eq_getElem_cons h2]
          rfl
        clear hn
        go_wp2_with fail
        go_ret
        obtain ⟨nd, hd⟩ := HD.out
        rw [HE.out, hd]
        exact ⟨rfl, below_drewN HB2.out _⟩
      · have g2 : decide ((xs.length : Int) < (ys.length : Int)) = false := decide_eq_false (by omega)
        have HE : Hid (O = 0) := by
          show _ = _
          rw [← HO.out, hn, show ys.drop xs.length = [] from List.drop_eq_nil_of_le (by omega)]
          rfl
        clear hn
        go_wp2_with fail
        go_ret
        obtain ⟨nd, hd⟩ := HD.out
        rw [HE.out, hd]
        exact ⟨rfl, below_drewN HB2.out _⟩
end Go.Proofs.YtmeapijckncoeaaGreatDoor

namespace Go.Proofs.YtmeapijckncoeaaGreatDoor
set_option maxRecDepth 100000
open Go.RowKit Go.Deep Go.Joins Go.Lib

theorem ordT_neg (a b : ByteArray) : ordT b a = - ordT a b := ordL_neg _ _
theorem ordT_three (a b : ByteArray) : ordT a b = -1 ∨ ordT a b = 0 ∨ ordT a b = 1 := ordL_three _ _
theorem nums_inj {a b : ByteArray} (h : nums a = nums b) : a = b := by rw [← text_nums a, ← text_nums b, h]
theorem ordT_zero (a b : ByteArray) : ordT a b = 0 ↔ a = b := ⟨fun h => nums_inj ((ordL_zero _ _).1 h), fun h => by rw [h]; exact ordL_self _⟩
theorem eq_texts (a b : ByteArray) : (a.toList == b.toList) = decide (a = b) := by
  by_cases h : a = b
  · subst h; simp
  · rw [decide_eq_false h, beq_eq_false_iff_ne, Lib.toList_data, Lib.toList_data]
    intro e
    exact h (ByteArray.ext (Array.toList_inj.1 e))
theorem und_le (a b : ByteArray) (h : undB a b = true) : ordT b a ≤ 0 := by
  unfold undB at h
  have h1 : Lib.hasPrefix a.data.toList b.data.toList = true := by
    cases e : Lib.hasPrefix a.data.toList b.data.toList with
    | true => rfl
    | false => rw [e] at h; exact absurd h (by simp)
  unfold Lib.hasPrefix at h1
  rw [List.isPrefixOf_iff_prefix] at h1
  obtain ⟨t, ht⟩ := h1
  unfold ordT
  have e : nums a = nums b ++ t.map UInt8.toNat := by unfold nums; rw [← ht, List.map_append]
  rw [e]
  exact ordL_prefix _ _

end Go.Proofs.YtmeapijckncoeaaGreatDoor
