/-
  Items at odds (mathematics): what one pass over the items in order tells is the first place that is at odds with one ahead.
  Sorting by putting each item behind all that don't stand behind it (mathematics).
  Trees: the document's Sort.
-/
import Derived.Test.YtpkhpaklhfomkaaGreatDoorPkH
import Derived.Test.YtpkhpaklhfomkaaGreatDoorPkJ
import Derived.Test.YtpkhpaklhfomkaaGreatDoorPkK

namespace Go.Proofs.YtpkhpaklhfomkaaGreatDoor
set_option maxRecDepth 100000
set_option linter.unusedSimpArgs false
set_option linter.unusedVariables false
open Go.RowKit Go.Joins Go.Deep
open Go.Lib hiding intOf
/-! ### under -/
def undN (c r : List Nat) : Prop := r = [] ∨ c = r ∨ ∃ s, c = r ++ 47 :: s
theorem numsD (s : ByteArray) : nums s = s.data.toList.map UInt8.toNat := rfl
theorem undB_list (A R : List UInt8) : (Lib.hasPrefix A R && (R.isEmpty || (Lib.trimPrefix A R).isEmpty || Lib.hasPrefix (Lib.trimPrefix A R) [47])) = true ↔ (R = [] ∨ A = R ∨ ∃ s, A = R ++ 47 :: s) := by
  constructor
  · intro h
    rw [Bool.and_eq_true] at h
    obtain ⟨h1, h2⟩ := h
    obtain ⟨u, rfl⟩ := List.isPrefixOf_iff_prefix.1 (show R.isPrefixOf A = true from h1)
    have hp1 : Lib.hasPrefix (R ++ u) R = true := h1
    unfold Lib.trimPrefix at h2
    rw [if_pos hp1, List.drop_left'] at h2
    · cases u with
      | nil => right; left; simp
      | cons x u =>
        simp [Lib.hasPrefix] at h2
        rcases h2 with h2 | h2
        · left; simpa using h2
        · right; right; exact ⟨u, by rw [h2]⟩
    · rfl
  · have key : ∀ u, Lib.hasPrefix (R ++ u) R = true := fun u => by unfold Lib.hasPrefix; exact List.isPrefixOf_iff_prefix.2 ⟨u, rfl⟩
    have tr : ∀ u, Lib.trimPrefix (R ++ u) R = u := fun u => by unfold Lib.trimPrefix; rw [if_pos (key u)]; simp
    rintro (h | h | ⟨s, h⟩)
    · subst h
      have := key A
      have e : Lib.hasPrefix A [] = true := by simpa using (by unfold Lib.hasPrefix; simp : Lib.hasPrefix A [] = true)
      rw [e]
      rfl
    · subst h
      have k := key []
      have t := tr []
      rw [List.append_nil] at k t
      rw [k, t]
      simp
    · subst h
      rw [key, tr]
      simp [Lib.hasPrefix]
theorem und_iff (a r : ByteArray) : undB a r = true ↔ undN (nums a) (nums r) := by
  have inj : ∀ a b : List UInt8, a.map UInt8.toNat = b.map UInt8.toNat → a = b := fun a b h => (List.map_inj_right (fun x y h => UInt8.toNat_inj.1 h)).1 h
  unfold undB
  rw [undB_list, numsD, numsD]
  unfold undN
  constructor
  · rintro (h | h | ⟨s, h⟩)
    · left; rw [h]; rfl
    · right; left; rw [h]
    · right; right; exact ⟨s.map UInt8.toNat, by rw [h, List.map_append, List.map_cons]; rfl⟩
  · rintro (h | h | ⟨s, h⟩)
    · left; exact List.map_eq_nil_iff.1 h
    · right; left; exact inj _ _ h
    · obtain ⟨l1, l2, e, e1, e2⟩ := List.map_eq_append_iff.1 h
      obtain ⟨x, l3, e3, e4, e5⟩ := List.map_eq_cons_iff.1 e2
      right; right
      refine ⟨l3, ?_⟩
      rw [e, e3, inj _ _ e1, show x = 47 from UInt8.toNat_inj.1 e4]
theorem und_refl (a : List Nat) : undN a a := .inr (.inl rfl)
theorem und_trans {x a b : List Nat} (h1 : undN x a) (h2 : undN a b) : undN x b := by
  rcases h2 with h2 | h2 | ⟨s, h2⟩
  · exact .inl h2
  · subst h2; exact h1
  · subst h2
    rcases h1 with h1 | h1 | ⟨u, h1⟩
    · simp at h1
    · exact .inr (.inr ⟨s, h1⟩)
    · exact .inr (.inr ⟨s ++ 47 :: u, by rw [h1]; simp⟩)
theorem und_ord {x a : List Nat} (h : undN x a) : ordL a x ≤ 0 := by
  rcases h with h | h | ⟨s, h⟩
  · subst h
    cases x with
    | nil => exact Int.le_refl _
    | cons _ _ => show (-1 : Int) ≤ 0; decide
  · rw [h, ordL_self]; exact Int.le_refl _
  · rw [h]; exact ordL_prefix _ _
theorem und_mid : ∀ (r b s : List Nat), ordL r b ≤ 0 → ordL b (r ++ 47 :: s) ≤ 0 → undN b r
  | [], _, _, _, _ => .inl rfl
  | x :: r, [], _, h, _ => by simp [ordL] at h
  | x :: r, y :: b, s, h1, h2 => by
    rw [List.cons_append] at h2
    unfold ordL at h1 h2
    have e : x = y := by
      by_cases e : x = y
      · exact e
      · rw [if_neg e] at h1
        rw [if_neg (fun k => e k.symm)] at h2
        have l1 : rk x < rk y := by
          by_cases l : rk x < rk y
          · exact l
          · rw [if_neg l] at h1; omega
        have l2 : rk y < rk x := by
          by_cases l : rk y < rk x
          · exact l
          · rw [if_neg l] at h2; omega
        omega
    subst e
    rw [if_pos rfl] at h1 h2
    cases r with
    | nil =>
      cases b with
      | nil => exact .inr (.inl rfl)
      | cons z b =>
        rw [List.nil_append] at h2
        unfold ordL at h2
        have : z = 47 := by
          by_cases e : z = 47
          · exact e
          · rw [if_neg e] at h2
            have := rk_lt_47 e
            rw [if_neg (by omega)] at h2
            omega
        exact .inr (.inr ⟨b, by rw [this]; rfl⟩)
    | cons x2 r =>
      rcases und_mid (x2 :: r) b s h1 h2 with k | k | ⟨u, k⟩
      · cases k
      · exact .inr (.inl (by rw [k]))
      · exact .inr (.inr ⟨u, by rw [k]; rfl⟩)
theorem ord_anti {a b : List Nat} (h1 : ordL a b ≤ 0) (h2 : ordL b a ≤ 0) : a = b := (ordL_zero a b).1 (by rw [ordL_neg] at h2; omega)
/-- What stands between a path and what is under it is under it. -/
theorem und_contig {r b c : List Nat} (h1 : ordL r b ≤ 0) (h2 : ordL b c ≤ 0) (h : undN c r) : undN b r := by
  rcases h with h | h | ⟨s, h⟩
  · exact .inl h
  · subst h; exact .inr (.inl (ord_anti h2 h1))
  · subst h; exact und_mid r b s h1 h2
/-- Of two paths above one the later one is under the other one. -/
theorem und_chain {x a b : List Nat} (h1 : undN x a) (h2 : undN x b) (h : ordL a b ≤ 0) : undN b a := und_contig h (und_ord h2) h1
/-! ### the items, by their place in the order -/
/-- The place of the item that stands p-th. -/
def plc (t : List Itm) (p : Nat) : Nat := (idxI t)[p]?.getD 0
/-- The item that stands p-th. -/
def itP (t : List Itm) (p : Nat) : Itm := atL t (plc t p)
theorem idx_len (t : List Itm) : (idxI t).length = t.length := by rw [(idxI_perm t).length_eq, List.length_range]
theorem plc_get (t : List Itm) (p : Nat) (h : p < t.length) : ∃ h2 : p < (idxI t).length, (idxI t)[p] = plc t p := by
  have hp : p < (idxI t).length := by rw [idx_len]; exact h
  exact ⟨hp, by unfold plc; rw [List.getElem?_eq_getElem hp]; rfl⟩
theorem plc_lt (t : List Itm) (p : Nat) (h : p < t.length) : plc t p < t.length := by
  obtain ⟨h2, e⟩ := plc_get t p h
  rw [← e]
  exact List.mem_range.1 ((idxI_perm t).mem_iff.1 (List.getElem_mem h2))
theorem plc_onto (t : List Itm) (i : Nat) (h : i < t.length) : ∃ p, p < t.length ∧ plc t p = i := by
  obtain ⟨p, hp, e⟩ := List.getElem_of_mem ((idxI_perm t).mem_iff.2 (List.mem_range.2 h))
  rw [idx_len] at hp
  obtain ⟨_, e2⟩ := plc_get t p hp
  exact ⟨p, hp, by rw [← e2]; exact e⟩
theorem plc_rank (t : List Itm) (p q : Nat) (hpq : p < q) (hq : q < t.length) : ahd t (plc t p) (plc t q) = true := by
  obtain ⟨hp, e1⟩ := plc_get t p (by omega)
  obtain ⟨hq2, e2⟩ := plc_get t q hq
  have hle := List.pairwise_iff_getElem.1 (idxI_pw t) p q hp hq2 hpq
  have hnd : (idxI t).Nodup := (idxI_perm t).nodup_iff.2 List.nodup_range
  have hne := List.pairwise_iff_getElem.1 hnd p q hp hq2 hpq
  rw [e1, e2] at hle hne
  refine (rnk_iff (plc_lt t p (by omega)) (plc_lt t q hq)).1 ?_
  rcases Nat.lt_or_ge (rnk t (plc t p)) (rnk t (plc t q)) with h | h
  · exact h
  · exact absurd (rnk_inj (plc_lt t p (by omega)) (plc_lt t q hq) (by omega)) hne
theorem itP_ord (t : List Itm) (p q : Nat) (hpq : p ≤ q) (hq : q < t.length) : ordT (itP t p).s (itP t q).s ≤ 0 := by
  rcases Nat.lt_or_eq_of_le hpq with h | h
  · have := of_decide_eq_true (plc_rank t p q h hq)
    unfold itP
    omega
  · subst h; rw [ordT_self]; exact Int.le_refl _
theorem itP_same (t : List Itm) (p q : Nat) (hpq : p < q) (hq : q < t.length) (h : (itP t p).s = (itP t q).s) : plc t p < plc t q := by
  have := of_decide_eq_true (plc_rank t p q hpq hq)
  unfold itP at h
  rw [h, ordT_self] at this
  omega
theorem plc_ne (t : List Itm) (p q : Nat) (hp : p < t.length) (hq : q < t.length) (h : p ≠ q) : plc t p ≠ plc t q := by
  intro e
  rcases Nat.lt_or_gt_of_ne h with k | k
  · have := plc_rank t p q k hq
    rw [e, ahd_irr] at this
    cases this
  · have := plc_rank t q p k hp
    rw [e, ahd_irr] at this
    cases this
/-! ### at odds -/
/-- Are two items at odds? -/
def cfl (a b : Itm) : Bool := (a.s.toList == b.s.toList) || (undB a.s b.s && !(b.k == 1)) || (undB b.s a.s && !(a.k == 1))
theorem cfl_symm (a b : Itm) : cfl a b = cfl b a := by
  unfold cfl
  have e : (a.s.toList == b.s.toList) = (b.s.toList == a.s.toList) := by
    by_cases h : a.s.toList = b.s.toList
    · rw [h]
    · rw [beq_eq_false_iff_ne.2 h, beq_eq_false_iff_ne.2 (fun k => h k.symm)]
  rw [e]
  cases (b.s.toList == a.s.toList) <;> cases (undB a.s b.s && !(b.k == 1)) <;> cases (undB b.s a.s && !(a.k == 1)) <;> rfl
/-- Is an item at odds with one ahead? -/
def oddAt (t : List Itm) (i : Nat) : Bool := (List.range i).any fun k => cfl (atL t i) (atL t k)
theorem oddAt_of {t : List Itm} {i k : Nat} (h : i ≠ k) (hc : cfl (atL t i) (atL t k) = true) : oddAt t (max i k) = true := by
  unfold oddAt
  rw [List.any_eq_true]
  rcases Nat.lt_or_gt_of_ne h with e | e
  · rw [Nat.max_eq_right (by omega)]
    exact ⟨i, List.mem_range.2 e, by rw [cfl_symm]; exact hc⟩
  · rw [Nat.max_eq_left (by omega)]
    exact ⟨k, List.mem_range.2 e, hc⟩
/-- The first place of an item that is at odds with one ahead; how many there are, where there is none. -/
def oddN (t : List Itm) : Nat := (List.range t.length).findIdx (oddAt t)
theorem oddN_of {t : List Itm} {F : Nat} (hF : F ≤ t.length) (h1 : F < t.length → oddAt t F = true) (h2 : ∀ i, i < t.length → oddAt t i = true → F ≤ i) : oddN t = F := by
  unfold oddN
  rcases Nat.lt_or_eq_of_le hF with h | h
  · refine (List.findIdx_eq (by simpa using h)).2 ⟨by simpa using h1 h, fun j hj => ?_⟩
    rcases Bool.eq_false_or_eq_true (oddAt t j) with e | e
    · have := h2 j (by omega) e
      omega
    · simpa using e
  · have : (List.range t.length).findIdx (oddAt t) = (List.range t.length).length := List.findIdx_eq_length.2 fun x hx => by
      have hx := List.mem_range.1 hx
      rcases Bool.eq_false_or_eq_true (oddAt t x) with e | e
      · have := h2 x hx e
        omega
      · exact e
    rw [this, List.length_range]
    exact h.symm
/-! ### the pass -/
def ndP (t : List Itm) (p : Nat) : Bool := !((itP t p).k == 1)
/-- Of the first p those that are no directories and above an item. -/
def abvP (t : List Itm) (p : Nat) (x : ByteArray) : List Nat := (List.range p).filter fun r => ndP t r && undB x (itP t r).s
/-- The least place of these; how many items there are, where there is none. -/
def minP (t : List Itm) (l : List Nat) : Nat := l.foldr (fun r m => min (plc t r) m) t.length
theorem minP_le (t : List Itm) : ∀ (l : List Nat) (r : Nat), r ∈ l → minP t l ≤ plc t r
  | a :: l, r, h => by
    show min (plc t a) (minP t l) ≤ _
    rcases List.mem_cons.1 h with e | e
    · subst e; omega
    · have := minP_le t l r e; omega
theorem minP_at (t : List Itm) : ∀ (l : List Nat), minP t l = t.length ∨ ∃ r ∈ l, minP t l = plc t r
  | [] => .inl rfl
  | a :: l => by
    have h : minP t (a :: l) = min (plc t a) (minP t l) := rfl
    by_cases e : plc t a ≤ minP t l
    · exact .inr ⟨a, List.mem_cons_self, by omega⟩
    · rcases minP_at t l with k | ⟨r, hr, k⟩
      · exact .inl (by omega)
      · exact .inr ⟨r, List.mem_cons_of_mem _ hr, by omega⟩
theorem minP_app (t : List Itm) : ∀ (l : List Nat) (p : Nat), p < t.length → minP t (l ++ [p]) = min (plc t p) (minP t l)
  | [], p, hp => rfl
  | a :: l, p, hp => by
    show min (plc t a) (minP t (l ++ [p])) = min (plc t p) (min (plc t a) (minP t l))
    rw [minP_app t l p hp]
    omega
/-- The first place at odds, behind p items. -/
def oF (t : List Itm) : Nat → Nat
  | 0 => t.length
  | p + 1 => min (if 0 < p ∧ (itP t (p - 1)).s = (itP t p).s then min (oF t p) (plc t p) else oF t p) (max (plc t p) (minP t (abvP t p (itP t p).s)))
theorem oF_le (t : List Itm) : ∀ p, oF t p ≤ t.length
  | 0 => Nat.le_refl _
  | p + 1 => by
    have := oF_le t p
    unfold oF
    split <;> omega
theorem oF_mono (t : List Itm) (p : Nat) : oF t (p + 1) ≤ oF t p := by
  rw [oF]
  split <;> omega
theorem oF_mono_le (t : List Itm) {p q : Nat} (h : p ≤ q) : oF t q ≤ oF t p := by
  obtain ⟨d, rfl⟩ : ∃ d, q = p + d := ⟨q - p, by omega⟩
  clear h
  induction d with
  | zero => exact Nat.le_refl _
  | succ d ih => exact Nat.le_trans (oF_mono t _) ih
theorem abv_mem {t : List Itm} {p r : Nat} {x : ByteArray} : r ∈ abvP t p x ↔ r < p ∧ (itP t r).k ≠ 1 ∧ undB x (itP t r).s = true := by
  unfold abvP ndP
  rw [List.mem_filter, List.mem_range, Bool.and_eq_true]
  simp
theorem oF_sound (t : List Itm) : ∀ p, p ≤ t.length → oF t p < t.length → oddAt t (oF t p) = true
  | 0, _, h => absurd h (by show ¬ t.length < t.length; omega)
  | p + 1, hp, h => by
    have ih := oF_sound t p (by omega)
    have hA : 0 < p ∧ (itP t (p - 1)).s = (itP t p).s → oddAt t (plc t p) = true := fun ⟨h0, he⟩ => by
      have h1 := itP_same t (p - 1) p (by omega) (by omega) he
      have h2 : cfl (atL t (plc t p)) (atL t (plc t (p - 1))) = true := by
        unfold cfl
        have : (atL t (plc t p)).s = (atL t (plc t (p - 1))).s := he.symm
        rw [this]
        simp
      have := oddAt_of (by omega) h2
      rw [Nat.max_eq_left (by omega)] at this
      exact this
    have hB : max (plc t p) (minP t (abvP t p (itP t p).s)) < t.length → oddAt t (max (plc t p) (minP t (abvP t p (itP t p).s))) = true := fun hm => by
      rcases minP_at t (abvP t p (itP t p).s) with e | ⟨r, hr, e⟩
      · omega
      · rw [e]
        obtain ⟨h1, h2, h3⟩ := abv_mem.1 hr
        refine oddAt_of (plc_ne t p r (by omega) (by omega) (by omega)) ?_
        have h3 : undB (atL t (plc t p)).s (atL t (plc t r)).s = true := h3
        have h2 : ((atL t (plc t r)).k == 1) = false := beq_eq_false_iff_ne.2 h2
        unfold cfl
        rw [h3, h2]
        simp
    rw [oF] at h ⊢
    generalize max (plc t p) (minP t (abvP t p (itP t p).s)) = M at *
    by_cases hc : 0 < p ∧ (itP t (p - 1)).s = (itP t p).s
    · rw [if_pos hc] at h ⊢
      have hA := hA hc
      by_cases h1 : oF t p ≤ plc t p
      · by_cases h2 : oF t p ≤ M
        · rw [show min (min (oF t p) (plc t p)) M = oF t p by omega] at h ⊢
          exact ih h
        · rw [show min (min (oF t p) (plc t p)) M = M by omega] at h ⊢
          exact hB h
      · by_cases h2 : plc t p ≤ M
        · rw [show min (min (oF t p) (plc t p)) M = plc t p by omega]
          exact hA
        · rw [show min (min (oF t p) (plc t p)) M = M by omega] at h ⊢
          exact hB h
    · rw [if_neg hc] at h ⊢
      by_cases h2 : oF t p ≤ M
      · rw [show min (oF t p) M = oF t p by omega] at h ⊢
        exact ih h
      · rw [show min (oF t p) M = M by omega] at h ⊢
        exact hB h
theorem oF_same (t : List Itm) (r q : Nat) (hrq : r < q) (hq : q < t.length) (h : (itP t r).s = (itP t q).s) : oF t t.length ≤ plc t q := by
  have hs : (itP t r).s = (itP t (r + 1)).s := by
    have h1 := itP_ord t r (r + 1) (by omega) (by omega)
    have h2 := itP_ord t (r + 1) q (by omega) hq
    rw [← h] at h2
    refine ord_zero ?_
    rw [ordT_neg] at h2
    omega
  have h1 : oF t (r + 1 + 1) ≤ plc t (r + 1) := by
    rw [oF, if_pos ⟨by omega, by rw [Nat.add_sub_cancel]; exact hs⟩]
    omega
  have h2 : plc t (r + 1) ≤ plc t q := by
    rcases Nat.lt_or_eq_of_le (show r + 1 ≤ q by omega) with e | e
    · exact Nat.le_of_lt (itP_same t (r + 1) q e hq (by rw [← hs]; exact h))
    · rw [e]; exact Nat.le_refl _
  have h3 := oF_mono_le t (show r + 1 + 1 ≤ t.length by omega)
  omega
theorem oF_under (t : List Itm) (r q : Nat) (hne : r ≠ q) (hr : r < t.length) (hq : q < t.length) (hu : undB (itP t q).s (itP t r).s = true) (hk : (itP t r).k ≠ 1) : oF t t.length ≤ max (plc t q) (plc t r) := by
  rcases Nat.lt_or_gt_of_ne hne with e | e
  · have h1 : oF t (q + 1) ≤ max (plc t q) (minP t (abvP t q (itP t q).s)) := by
      rw [oF]
      omega
    have h2 := minP_le t (abvP t q (itP t q).s) r (abv_mem.2 ⟨e, hk, hu⟩)
    have h3 := oF_mono_le t (show q + 1 ≤ t.length by omega)
    omega
  · have h1 := itP_ord t q r (by omega) hr
    have h2 := und_ord ((und_iff _ _).1 hu)
    have h3 : (itP t q).s = (itP t r).s := by
      refine ord_zero ?_
      have h2 : ordT (itP t r).s (itP t q).s ≤ 0 := h2
      rw [ordT_neg] at h2
      omega
    have := oF_same t q r e hr h3
    omega
theorem oF_all (t : List Itm) : oF t t.length = oddN t := by
  refine (oddN_of (oF_le t _) (oF_sound t _ (Nat.le_refl _)) fun i hi h => ?_).symm
  unfold oddAt at h
  rw [List.any_eq_true] at h
  obtain ⟨k, hk, hc⟩ := h
  have hk := List.mem_range.1 hk
  obtain ⟨q, hq, rfl⟩ := plc_onto t i hi
  obtain ⟨r, hr, rfl⟩ := plc_onto t k (by omega)
  have hne : r ≠ q := by intro e; subst e; omega
  have hmx : max (plc t q) (plc t r) = plc t q := by omega
  have hmx2 : max (plc t r) (plc t q) = plc t q := by omega
  unfold cfl at hc
  rw [Bool.or_eq_true, Bool.or_eq_true, Bool.and_eq_true, Bool.and_eq_true] at hc
  rcases hc with (hc | ⟨h1, h2⟩) | ⟨h1, h2⟩
  · have he : (itP t q).s = (itP t r).s := toList_inj' (eq_of_beq hc)
    rcases Nat.lt_or_gt_of_ne hne with e | e
    · exact oF_same t r q e hq he.symm
    · have := itP_same t q r e hr he
      omega
  · have h2 : (!((itP t r).k == 1)) = true := h2
    have := oF_under t r q hne hr hq h1 (by simpa using h2)
    omega
  · have h2 : (!((itP t q).k == 1)) = true := h2
    have := oF_under t q r (Ne.symm hne) hq hr h1 (by simpa using h2)
    omega
/-! ### the barriers at hand -/
/-- The path and the least place of a barrier. -/
def barP (t : List Itm) (q : Nat) : ByteArray × Nat := ((itP t q).s, minP t (abvP t (q + 1) (itP t q).s))
def bars (t : List Itm) (l : List Nat) : List (ByteArray × Nat) := l.map (barP t)
/-- Without those at the end under which a path isn't. -/
def popB (x : ByteArray) (l : List (ByteArray × Nat)) : List (ByteArray × Nat) := (l.reverse.dropWhile fun b => !(undB x b.1)).reverse
theorem und_lift {t : List Itm} {x : ByteArray} {r q : Nat} (hrq : r ≤ q) (hq : q < t.length) (hx : undB x (itP t q).s = true) : undB x (itP t r).s = undB (itP t q).s (itP t r).s := by
  have ho := itP_ord t r q hrq hq
  rw [Bool.eq_iff_iff, und_iff, und_iff]
  rw [und_iff] at hx
  exact ⟨fun h => und_chain h hx ho, fun h => und_trans hx h⟩
theorem abv_cut {t : List Itm} {x : ByteArray} {q p : Nat} (hqp : q < p) (hp : p ≤ t.length) (hx : undB x (itP t q).s = true) (hl : ∀ r, q < r → r < p → ndP t r = true → undB x (itP t r).s = false) : abvP t p x = abvP t (q + 1) (itP t q).s := by
  unfold abvP
  obtain ⟨d, rfl⟩ : ∃ d, p = q + 1 + d := ⟨p - q - 1, by omega⟩
  rw [List.range_add, List.filter_append]
  have e1 : List.filter (fun r => ndP t r && undB x (itP t r).s) (List.map (fun k => q + 1 + k) (List.range d)) = [] := by
    rw [List.filter_eq_nil_iff]
    intro r hr h
    obtain ⟨k, hk, rfl⟩ := List.mem_map.1 hr
    have hk := List.mem_range.1 hk
    rw [Bool.and_eq_true] at h
    have := hl (q + 1 + k) (by omega) (by omega) h.1
    rw [this] at h
    cases h.2
  rw [e1, List.append_nil]
  refine List.filter_congr fun r hr => ?_
  have hr := List.mem_range.1 hr
  rw [und_lift (by omega) (by omega) hx]
theorem abv_snoc (t : List Itm) (p : Nat) (x : ByteArray) : abvP t (p + 1) x = abvP t p x ++ (if ndP t p = true ∧ undB x (itP t p).s = true then [p] else []) := by
  unfold abvP
  rw [List.range_succ, List.filter_append]
  congr 1
  by_cases h : ndP t p = true ∧ undB x (itP t p).s = true
  · rw [if_pos h, List.filter_cons_of_pos (by rw [h.1, h.2]; rfl)]
    rfl
  · rw [if_neg h, List.filter_cons_of_neg (by rw [Bool.and_eq_true]; exact h)]
    rfl
/-- The least place of the last barrier is the least of all. -/
theorem bar_last {t : List Itm} {p q : Nat} {x : ByteArray} {l : List Nat} (hp : p ≤ t.length) (h : abvP t p x = l ++ [q]) : (barP t q).2 = minP t (abvP t p x) := by
  have hq : q ∈ abvP t p x := by rw [h]; simp
  obtain ⟨h1, h2, h3⟩ := abv_mem.1 hq
  have : abvP t p x = abvP t (q + 1) (itP t q).s := abv_cut h1 hp h3 fun r hr1 hr2 hr3 => by
    rcases Bool.eq_false_or_eq_true (undB x (itP t r).s) with e | e
    · exfalso
      have hr : r ∈ abvP t p x := by
        unfold abvP
        rw [List.mem_filter, List.mem_range, hr3, e]
        exact ⟨hr2, rfl⟩
      have hs : (abvP t p x).Pairwise (· < ·) := List.pairwise_lt_range.sublist List.filter_sublist
      rw [h] at hs hr
      rw [List.pairwise_append] at hs
      rcases List.mem_append.1 hr with k | k
      · have := hs.2.2 r k q (by simp)
        omega
      · have := List.mem_singleton.1 k
        omega
    · exact e
  show minP t (abvP t (q + 1) (itP t q).s) = _
  rw [this]
theorem dropWhile_rev {α : Type} (f : α → Bool) : ∀ (l m : List α), (∀ x ∈ l, f x = false) → (∀ x ∈ m, f x = true) → ((l ++ m).reverse.dropWhile f).reverse = l := by
  intro l m h1 h2
  rw [List.reverse_append]
  have e : ∀ (a b : List α), (∀ x ∈ a, f x = true) → (a ++ b).dropWhile f = b.dropWhile f := by
    intro a
    induction a with
    | nil => intro b _; rfl
    | cons x a ih =>
      intro b h
      rw [List.cons_append, List.dropWhile_cons_of_pos (h x List.mem_cons_self)]
      exact ih b fun y hy => h y (List.mem_cons_of_mem _ hy)
  rw [e m.reverse l.reverse fun x hx => h2 x (List.mem_reverse.1 hx)]
  have e2 : l.reverse.dropWhile f = l.reverse := by
    cases hl : l.reverse with
    | nil => rfl
    | cons x k =>
      have : x ∈ l := List.mem_reverse.1 (by rw [hl]; exact List.mem_cons_self)
      rw [List.dropWhile_cons_of_neg (by rw [h1 x this]; decide)]
  rw [e2, List.reverse_reverse]
theorem split_at {α : Type} (f : α → Bool) : ∀ (l : List α), l.Pairwise (fun a b => f b = true → f a = true) → l = l.filter f ++ l.filter (fun x => !f x)
  | [], _ => rfl
  | a :: l, h => by
    rw [List.pairwise_cons] at h
    have ih := split_at f l h.2
    by_cases e : f a = true
    · rw [List.filter_cons_of_pos e, List.filter_cons_of_neg (by rw [e]; decide), List.cons_append, ← ih]
    · have e1 : l.filter f = [] := List.filter_eq_nil_iff.2 fun x hx k => e (h.1 x hx k)
      rw [List.filter_cons_of_neg e, List.filter_cons_of_pos (by rw [Bool.eq_false_iff.2 e]; rfl), e1, List.nil_append]
      rw [e1, List.nil_append] at ih
      rw [← ih]
/-- Behind the pass over p items the barriers above the last one are at hand; of these those above the next one are left. -/
theorem pop_next (t : List Itm) (p : Nat) (hp : p < t.length) (h0 : 0 < p) : popB (itP t p).s (bars t (abvP t p (itP t (p - 1)).s)) = bars t (abvP t p (itP t p).s) := by
  have hY : ∀ r, r < p → undB (itP t p).s (itP t r).s = true → undB (itP t (p - 1)).s (itP t r).s = true := fun r hr hu => by
    rw [und_iff] at hu ⊢
    exact und_contig (itP_ord t r (p - 1) (by omega) (by omega)) (itP_ord t (p - 1) p (by omega) hp) hu
  have hZ : abvP t p (itP t p).s = (abvP t p (itP t (p - 1)).s).filter fun r => undB (itP t p).s (itP t r).s := by
    unfold abvP
    rw [List.filter_filter]
    refine List.filter_congr fun r hr => ?_
    have hr := List.mem_range.1 hr
    rcases Bool.eq_false_or_eq_true (undB (itP t p).s (itP t r).s) with e | e
    · rw [e, hY r hr e, Bool.true_and]
    · rw [e, Bool.false_and, Bool.and_false]
  have hsp := split_at (fun r => undB (itP t p).s (itP t r).s) (abvP t p (itP t (p - 1)).s) (by
    have hs : (abvP t p (itP t (p - 1)).s).Pairwise (· < ·) := List.pairwise_lt_range.sublist List.filter_sublist
    refine hs.imp_of_mem fun {a b} ha hb hab h => ?_
    have ha := abv_mem.1 ha
    have hb := abv_mem.1 hb
    have h3 := und_lift (t := t) (x := (itP t (p - 1)).s) (Nat.le_of_lt hab) (by omega) hb.2.2
    rw [ha.2.2] at h3
    rw [und_iff] at h ⊢
    exact und_trans h ((und_iff _ _).1 h3.symm))
  rw [hZ]
  unfold popB bars
  generalize abvP t p (itP t (p - 1)).s = Y at *
  rw [← hZ]
  conv => lhs; rw [hsp, List.map_append]
  rw [hZ]
  refine dropWhile_rev (fun b : ByteArray × Nat => !(undB (itP t p).s b.1)) _ _ (fun b hb => ?_) (fun b hb => ?_)
  · obtain ⟨r, hr, rfl⟩ := List.mem_map.1 hb
    have := (List.mem_filter.1 hr).2
    show (!(undB (itP t p).s (itP t r).s)) = false
    rw [this]
    rfl
  · obtain ⟨r, hr, rfl⟩ := List.mem_map.1 hb
    exact (List.mem_filter.1 hr).2
end Go.Proofs.YtpkhpaklhfomkaaGreatDoor

namespace Go.Proofs.YtpkhpaklhfomkaaGreatDoor
set_option maxRecDepth 100000
set_option linter.unusedSimpArgs false
set_option linter.unusedVariables false
open Go.RowKit Go.Joins Go.Deep
open Go.Lib hiding intOf
/-- Stands an item behind another one? -/
def behI (x y : Itm) : Bool := decide (ordT x.s y.s < 0)
/-- An item ahead of the first one that stands behind it. -/
def putS (x : Itm) (l : List Itm) : List Itm := l.takeWhile (fun y => !behI x y) ++ x :: l.dropWhile (fun y => !behI x y)
theorem takeWhile_all {α : Type} (f : α → Bool) (l : List α) (h : ∀ x ∈ l, f x = true) : l.takeWhile f = l ∧ l.dropWhile f = [] := by
  induction l with
  | nil => exact ⟨rfl, rfl⟩
  | cons a l ih =>
    have := ih fun x hx => h x (List.mem_cons_of_mem _ hx)
    rw [List.takeWhile_cons_of_pos (h a List.mem_cons_self), List.dropWhile_cons_of_pos (h a List.mem_cons_self), this.1, this.2]
    exact ⟨rfl, rfl⟩
theorem takeWhile_snoc {α : Type} (f : α → Bool) (l : List α) (y : α) (h : ∃ x ∈ l, f x = false) : (l ++ [y]).takeWhile f = l.takeWhile f ∧ (l ++ [y]).dropWhile f = l.dropWhile f ++ [y] := by
  induction l with
  | nil => obtain ⟨x, hx, _⟩ := h; cases hx
  | cons a l ih =>
    by_cases e : f a = true
    · have := ih (by
        obtain ⟨x, hx, k⟩ := h
        rcases List.mem_cons.1 hx with q | q
        · subst q; rw [e] at k; cases k
        · exact ⟨x, q, k⟩)
      rw [List.cons_append, List.takeWhile_cons_of_pos e, List.takeWhile_cons_of_pos e, List.dropWhile_cons_of_pos e, List.dropWhile_cons_of_pos e, this.1, this.2]
      exact ⟨rfl, rfl⟩
    · rw [List.cons_append, List.takeWhile_cons_of_neg e, List.takeWhile_cons_of_neg e, List.dropWhile_cons_of_neg e, List.dropWhile_cons_of_neg e]
      exact ⟨rfl, rfl⟩
/-- What is laid down behind the items of a list: with the item, where one of them stands behind it. -/
def nxtS (x : Itm) (l : List Itm) : List Itm := if l.any (behI x) = true then putS x l else l
theorem nxtS_end (x : Itm) (l : List Itm) : (if l.any (behI x) = true then nxtS x l else nxtS x l ++ [x]) = putS x l := by
  unfold nxtS
  by_cases h : l.any (behI x) = true
  · rw [if_pos h, if_pos h]
  · rw [if_neg h, if_neg h]
    have h := Bool.eq_false_iff.2 h
    rw [List.any_eq_false] at h
    have := takeWhile_all (fun y => !behI x y) l fun y hy => by simpa using h y hy
    unfold putS
    rw [this.1, this.2]
theorem nxtS_snoc (x y : Itm) (l : List Itm) : nxtS x (l ++ [y]) = (if l.any (behI x) = true then nxtS x l else if behI x y = true then nxtS x l ++ [x] else nxtS x l) ++ [y] := by
  unfold nxtS
  rw [List.any_append, List.any_cons, List.any_nil, Bool.or_false]
  by_cases h : l.any (behI x) = true
  · rw [h, Bool.true_or, if_pos rfl, if_pos rfl]
    rw [List.any_eq_true] at h
    obtain ⟨z, hz, hb⟩ := h
    have := takeWhile_snoc (fun y => !behI x y) l y ⟨z, hz, by rw [hb]; rfl⟩
    unfold putS
    rw [this.1, this.2, if_pos rfl]
    simp
  · have h := Bool.eq_false_iff.2 h
    have e0 : (if l.any (behI x) = true then putS x l else l) = l := by rw [h]; rfl
    rw [e0, h, Bool.false_or, if_neg (show ¬ (false = true) by decide)]
    rw [List.any_eq_false] at h
    have ha := takeWhile_all (fun y => !behI x y) l fun y hy => by simpa using h y hy
    by_cases hy : behI x y = true
    · simp only [hy, if_true]
      unfold putS
      rw [List.takeWhile_append_of_pos (fun z hz => by simpa using h z hz), List.dropWhile_append_of_pos (fun z hz => by simpa using h z hz)]
      rw [List.takeWhile_cons_of_neg (by rw [hy]; decide), List.dropWhile_cons_of_neg (by rw [hy]; decide)]
      simp
    · simp only [hy, if_false]
      rfl
/-- All, one behind the other. -/
def insAll (l : List Itm) : List Itm := l.foldl (fun o x => putS x o) []
theorem insAll_snoc (l : List Itm) (x : Itm) : insAll (l ++ [x]) = putS x (insAll l) := by simp [insAll]
theorem putS_map (l : List Itm) (k : Nat) (S : List Nat) : putS (atL l k) (S.map (atL l)) = (S.takeWhile (fun j => !behI (atL l k) (atL l j)) ++ k :: S.dropWhile (fun j => !behI (atL l k) (atL l j))).map (atL l) := by
  unfold putS
  rw [List.takeWhile_map, List.dropWhile_map, List.map_append, List.map_cons]
  rfl
theorem ins_part (l : List Itm) : ∀ k, k ≤ l.length → ∃ S : List Nat, insAll (l.take k) = S.map (atL l) ∧ S.Perm (List.range k) ∧ S.Pairwise (fun a b => rnk l a ≤ rnk l b)
  | 0, _ => ⟨[], rfl, List.Perm.refl _, List.Pairwise.nil⟩
  | k + 1, hk => by
    obtain ⟨S, e, hp, hs⟩ := ins_part l k (by omega)
    have hlt : ∀ j ∈ S, j < k := fun j hj => List.mem_range.1 (hp.mem_iff.1 hj)
    obtain ⟨p, hpp⟩ : ∃ p : Nat → Bool, p = fun j => !behI (atL l k) (atL l j) := ⟨_, rfl⟩
    have hp1 : ∀ j ∈ S, p j = true → rnk l j ≤ rnk l k := fun j hj h => by
      rw [hpp] at h
      have h : ¬ ordT (atL l k).s (atL l j).s < 0 := by simpa [behI] using h
      have hj := hlt j hj
      rcases ahd_total (l := l) (show j ≠ k by omega) with q | q
      · exact Nat.le_of_lt (rnk_lt (by omega) q)
      · have := of_decide_eq_true q
        omega
    have hp0 : ∀ j ∈ S, p j = false → rnk l k ≤ rnk l j := fun j hj h => by
      rw [hpp] at h
      have h : ordT (atL l k).s (atL l j).s < 0 := by simpa [behI] using h
      exact Nat.le_of_lt (rnk_lt (by omega) (decide_eq_true (.inl h)))
    refine ⟨S.takeWhile p ++ k :: S.dropWhile p, ?_, ?_, ?_⟩
    · have e2 : l.take (k + 1) = l.take k ++ [atL l k] := by
        rw [List.take_add_one, List.getElem?_eq_getElem (by omega)]
        show _ = _ ++ [l[k]?.getD default]
        rw [List.getElem?_eq_getElem (by omega)]
        rfl
      rw [e2, insAll_snoc, e, putS_map, hpp]
    · refine (List.perm_middle).trans ?_
      rw [List.takeWhile_append_dropWhile, List.range_succ]
      exact (List.Perm.cons _ hp).trans (List.perm_append_singleton _ _).symm
    · have hsp : (S.takeWhile p ++ S.dropWhile p).Pairwise (fun a b => rnk l a ≤ rnk l b) := by rw [List.takeWhile_append_dropWhile]; exact hs
      rw [List.pairwise_append] at hsp ⊢
      obtain ⟨a1, a2, a3⟩ := hsp
      have htk : ∀ a ∈ S.takeWhile p, rnk l a ≤ rnk l k := fun a ha => hp1 a (List.takeWhile_subset _ ha) (List.all_eq_true.1 List.all_takeWhile a ha)
      refine ⟨a1, ?_, fun a ha b hb => ?_⟩
      · rw [List.pairwise_cons]
        refine ⟨fun b hb => ?_, a2⟩
        cases hd : S.dropWhile p with
        | nil => rw [hd] at hb; cases hb
        | cons c m =>
          have hc : p c = false := by
            have := List.head?_dropWhile_not p S
            rw [hd] at this
            simpa using this
          have hcS : c ∈ S := (List.dropWhile_sublist p).subset (by rw [hd]; exact List.mem_cons_self)
          have h1 := hp0 c hcS hc
          rw [hd] at hb a2
          rw [List.pairwise_cons] at a2
          rcases List.mem_cons.1 hb with q | q
          · subst q; exact h1
          · exact Nat.le_trans h1 (a2.1 b q)
      · rcases List.mem_cons.1 hb with q | q
        · subst q; exact htk a ha
        · exact a3 a ha b q
theorem insAll_sort (l : List Itm) : insAll l = sortI l := by
  obtain ⟨S, e, hp, hs⟩ := ins_part l l.length (Nat.le_refl _)
  rw [List.take_length] at e
  have := Is.fix_perm (rnk l) S (idxI l) (fun x hx y hy h => rnk_inj (List.mem_range.1 (hp.mem_iff.1 hx)) (List.mem_range.1 (hp.mem_iff.1 hy)) h) hs (idxI_pw l) (hp.trans (idxI_perm l).symm)
  rw [e, this]
  rfl
end Go.Proofs.YtpkhpaklhfomkaaGreatDoor

namespace Go.Proofs.YtpkhpaklhfomkaaGreatDoor
set_option maxRecDepth 100000
set_option linter.unusedSimpArgs false
set_option linter.unusedVariables false
open Go.RowKit Go.Joins Go.Deep
open Go.Lib hiding intOf
theorem putS_len (x : Itm) (l : List Itm) : (putS x l).length = l.length + 1 := by
  unfold putS
  have := congrArg List.length (List.takeWhile_append_dropWhile (p := fun y => !behI x y) (l := l))
  rw [List.length_append] at this
  simp
  omega
theorem nxtS_len (x : Itm) (l : List Itm) : (nxtS x l).length ≤ l.length + 1 := by
  unfold nxtS
  split
  · rw [putS_len]; omega
  · omega
theorem insAll_len (l : List Itm) : (insAll l).length = l.length := by rw [insAll_sort, sortI_len]
theorem insAll_mem {l : List Itm} {x : Itm} (h : x ∈ insAll l) : x ∈ l := by
  rw [insAll_sort] at h
  exact sortI_mem l x h
/-- The eight cells of an item in a block of its own. -/
theorem cells_of_box {w : World} {g : Nat} {X : Itm} (h : w.heap[g]? = some (.cells X.cells 33 (0, 0))) : w.cell? ⟨g, 0, none⟩ = some (.string X.s) ∧ w.cell? ⟨g, 1, none⟩ = some (.int .i64 X.k) ∧ w.cell? ⟨g, 2, none⟩ = some (.int .u32 X.m) ∧ w.cell? ⟨g, 3, none⟩ = some (.int .u32 X.u) ∧ w.cell? ⟨g, 4, none⟩ = some (.int .u32 X.g) ∧ w.cell? ⟨g, 5, none⟩ = some (.int .i64 X.t) ∧ w.cell? ⟨g, 6, none⟩ = some (.int .i64 X.a) ∧ w.cell? ⟨g, 7, none⟩ = some (.string X.d) :=
  ⟨(cell_of_row _ _ 0 _ _ _ h).trans rfl, (cell_of_row _ _ 1 _ _ _ h).trans rfl, (cell_of_row _ _ 2 _ _ _ h).trans rfl, (cell_of_row _ _ 3 _ _ _ h).trans rfl, (cell_of_row _ _ 4 _ _ _ h).trans rfl, (cell_of_row _ _ 5 _ _ _ h).trans rfl, (cell_of_row _ _ 6 _ _ _ h).trans rfl, (cell_of_row _ _ 7 _ _ _ h).trans rfl⟩
theorem news_box (w : World) (X : Itm) : ∀ j u, X.cellsL[j]? = some u → (w.alloc (.cells X.cells 33)).cell? ((⟨w.heap.size, 0, none⟩ : Addr).add j) = some u := fun j u hj => by
  rw [Addr.add_lit, Nat.zero_add, cell_of_row _ _ j _ _ _ (heap_alloc_new w _)]
  simpa [Itm.cells, Itm.cellsL] using hj
theorem own_belowI {w w' : World} {base size n : Nat} {e : TypeId} {v : Value} {xs : List Value} (h : w.ownsRow base e size v n xs) (hb : Below w.heap.size w w') : w'.ownsRow base e size v n xs :=
  h.kept (row := none) ⟨hb.os, hb.tape, hb.output, hb.size, fun i hi _ => hb.block i hi⟩ (by cases hv : v.ownBlock <;> simp)
theorem one_box (X : Itm) : ∀ u ∈ X.cellsL, u.oneCell' = true := fun u hu => cellsI_one [X] u (by rw [cellsI, cellsI, List.append_nil]; exact hu)
theorem cells_snoc (L : List Itm) (X : Itm) : cellsI L ++ X.cellsL = cellsI (L ++ [X]) := by rw [cellsI_app, cellsI, cellsI, List.append_nil]
set_option maxHeartbeats 16000000 in
theorem rsort_any (A : Option Addr) (c : Nat) (l : List Itm) (w : World) (hR : Itms w A l) (hl : l.length ≤ 1000) (hs : ∀ x ∈ l, x.s.size ≤ 100000) :
    Calls Tryz.prog 29 #[.slice A l.length c] w fun e w' => ∃ A' c', e = .returned (.slice A' l.length c') ∧ NewI w' w.heap.size A' (sortI l) ∧ Below w.heap.size w w' := by
  obtain ⟨i0, hi, hz0, hz1, hz2⟩ := partsI
  have hir := info_item
  have HR := Lib.hid hR
  have HS := Lib.hid hs
  clear hR hs
  go_enter Tryz.func29, Tryz.ntmps29
  go_wp2_with fail
  go_loopw [3, 12] (fun v3 v12 wr => ∃ (k : Nat) (A3 : Option Addr) (c3 : Nat), k ≤ l.length ∧ v12 = .int .i64 (k : Nat) ∧ v3 = .slice A3 k c3 ∧ Hid (NewI wr w.heap.size A3 (insAll (l.take k))) ∧ Hid (Below w.heap.size w wr)) (fun _ v _ => l.length - (intOf v).toNat)
  case atStart => exact ⟨0, none, 0, Nat.zero_le _, rfl, rfl, .inl rfl, Below.refl _ _⟩
  case round =>
    obtain ⟨k, A3, c3, hk, rfl, rfl, HN, HB⟩ := hrel
    by_cases hlt : k < l.length
    case neg =>
      obtain rfl : k = l.length := by omega
      have hd : decide ((l.length : Int) < (l.length : Int)) = false := decide_eq_false (by omega)
      have HE : Hid (insAll (l.take l.length) = sortI l) := by show _ = _; rw [List.take_length]; exact insAll_sort l
      go_wp2_with fail
      go_ret
      exact ⟨A3, c3, rfl, by rw [← HE.out]; exact HN.out, HB.out⟩
    have hd : decide ((k : Int) < (l.length : Int)) = true := decide_eq_true (by omega)
    obtain ⟨b, off, rfl, hb, hcc⟩ := (HR.out.below HB.out) (by omega)
    obtain ⟨c0, c1, c2, c3', c4, c5, c6, c7⟩ := hcc k l[k] (List.getElem?_eq_getElem hlt)
    have HSN : Hid (insAll (l.take (k + 1)) = putS l[k] (insAll (l.take k))) := by
      show _ = _
      rw [List.take_succ_eq_append_getElem hlt, insAll_snoc]
    have HSX := Lib.hid (HS.out l[k] (List.getElem_mem hlt))
    have HOL : Hid ((insAll (l.take k)).length = k) := by show _ = _; rw [insAll_len, List.length_take]; omega
    have HOS : Hid (∀ y ∈ insAll (l.take k), y.s.size ≤ 100000) := fun y hy => HS.out y (List.mem_of_mem_take (insAll_mem hy))
    obtain ⟨W2, hW2⟩ : ∃ W2, W2 = wr.alloc (.cells l[k].cells 33) := ⟨_, rfl⟩
    have hb2 : Below wr.heap.size wr W2 := by rw [hW2]; exact below_al wr _
    have HX2 : Hid (W2.heap[wr.heap.size]? = some (.cells l[k].cells 33 (0, 0))) := by show _ = _; rw [hW2]; exact heap_alloc_new wr _
    have HZ2 : Hid (W2.heap.size = wr.heap.size + 1) := by show _ = _; rw [hW2]; simp only [World.alloc, Array.size_push]
    have HI2 : Hid (Itms W2 A3 (insAll (l.take k))) := HN.out.itms.below hb2
    have HB2 := Lib.hid (below_then HB.out hb2)
    generalize insAll (l.take k) = O at *
    generalize l[k] = X at *
    simp only [Itm.cells] at hW2
    have HW2 := Lib.hid hW2
    clear hcc hb2 hW2 HN
    generalize hgx : wr.heap.size = gx at *
    go_wp2_with fail
    rw [← HW2.out]
    clear HW2 c0 c1 c2 c3' c4 c5 c6 c7
    go_loopw [6, 7, 18] (fun v6 v7 v18 wi => ∃ (j : Nat) (V : Value), j ≤ k ∧ V = v6 ∧ v18 = .int .i64 (j : Nat) ∧ v7 = .bool ((O.take j).any (behI X)) ∧ Hid (wi.ownsRow W2.heap.size 33 8 v6 (nxtS X (O.take j)).length (cellsI (nxtS X (O.take j)))) ∧ Hid (Below W2.heap.size W2 wi)) (fun _ _ v _ => k - (intOf v).toNat)
    case atStart => exact ⟨0, _, Nat.zero_le _, rfl, rfl, rfl, World.ownsRow_nil _ _ _ _, Below.refl _ _⟩
    case round =>
      obtain ⟨j, V, hj, rfl, rfl, rfl, HO, HBI⟩ := hrel
      have HXI : Hid (wr.heap[gx]? = some (.cells X.cells 33 (0, 0))) := (HBI.out.block _ (lt_of_block HX2.out)).trans HX2.out
      have HGX : Hid (gx < W2.heap.size) := by show _ < _; have := HZ2.out; omega
      by_cases hjk : j < k
      case neg =>
        obtain rfl : j = k := by omega
        have hd2 : decide ((j : Int) < (j : Int)) = false := decide_eq_false (by omega)
        have HTK : Hid (O.take j = O) := List.take_of_length_le (by have := HOL.out; omega)
        rw [HTK.out] at HO ⊢
        have HEND := Lib.hid (nxtS_end X O)
        have HPL : Hid ((putS X O).length = j + 1) := by show _ = _; rw [putS_len, HOL.out]
        have HNL : Hid ((nxtS X O).length ≤ 1001) := by show _ ≤ _; have := nxtS_len X O; have := HOL.out; omega
        have HBR := Lib.hid (HB2.out.trans (HBI.out.mono HB2.out.size))
        generalize hbd : O.any (behI X) = bd at *
        cases bd with
        | true =>
          have HEQ : Hid (nxtS X O = putS X O) := HEND.out
          rw [HEQ.out] at HO
          obtain ⟨A5, c5, rfl, hN5⟩ := nb_of_own V (by rw [HPL.out]; omega) HO.out
          have HN5 := Lib.hid hN5
          clear hN5 HEND HO
          rw [HPL.out]
          go_wp2_with fail
          go_roundw
          case rel =>
            refine ⟨j + 1, A5, c5, by omega, by go_num, rfl, ?_, HBR⟩
            show NewI _ _ _ _
            rw [HSN.out]
            rcases HN5.out with ⟨h, _⟩ | ⟨g, e, hg, hic⟩
            · exact .inl h
            · exact .inr ⟨g, e, Nat.le_trans HB2.out.size hg, hic.1⟩
          case measure => simp [intOf]; omega
        | false =>
          have HEQ : Hid (nxtS X O ++ [X] = putS X O) := HEND.out
          obtain ⟨x0, x1, x2, x3, x4, x5, x6, x7⟩ := cells_of_box HXI.out
          have HO5 := Lib.hid (HO.out.alloc (.cells X.cells 33))
          have HQ5 := Lib.hid (news_box wr X)
          have HB5 := Lib.hid (HBR.out.alloc HBR.out.size (.cells X.cells 33))
          have HSZ : Hid (W2.heap.size ≤ (wr.alloc (.cells X.cells 33)).heap.size) := Nat.le_trans HBI.out.size (below_al wr _).size
          have HBW : Hid (W2.heap.size ≥ w.heap.size) := HB2.out.size
          simp only [Itm.cells] at HO5 HQ5 HB5 HSZ
          clear HO HEND
          go_wp2_with (at_builtin; refine wpList_append_own _ rfl _ _ 22 rfl W2.heap.size 33 i0 (.agg #[.string ⟨#[]⟩, .int .i64 0, .int .u32 0, .int .u32 0, .int .u32 0, .int .i64 0, .int .i64 0, .string ⟨#[]⟩]) 8 72 Tryz.underlying22 hi hz0 hz1 hz2 rfl (by decide) _ _ _ rfl HO5.out ⟨wr.heap.size, 0, none⟩ 1 1 X.cellsL rfl ?qc1 ?qc2 ?qc3 ?qc4 ?qc5 ?qc6 ?_)
          case qc1 => rfl
          case qc2 => exact HQ5.out
          case qc3 => exact one_box X
          case qc4 => have := HNL.out; unfold maxLen; omega
          case qc5 => have := HNL.out; omega
          case qc6 => exact HSZ.out
          intro v7 w7 hown7 hgrow7 _
          have HB7 : Hid (Below w.heap.size w w7) := HB5.out.grown hgrow7 HB5.out.size (fun q hq => Nat.le_trans HBW.out (HO5.out.lt q hq).1)
          have hown7 : w7.ownsRow W2.heap.size 33 8 v7 (putS X O).length (cellsI (putS X O)) := by
            have h := hown7
            rw [cells_snoc, HEQ.out] at h
            rw [show (nxtS X O).length + 1 = (putS X O).length by rw [← HEQ.out, List.length_append]; rfl] at h
            exact h
          obtain ⟨A5, c5, rfl, hN5⟩ := nb_of_own v7 (by rw [HPL.out]; omega) hown7
          have HN5 := Lib.hid hN5
          clear hN5 hown7 hgrow7 HO5 HQ5 HB5
          rw [HPL.out]
          go_wp2_with fail
          go_roundw
          case rel =>
            refine ⟨j + 1, A5, c5, by omega, by go_num, rfl, ?_, HB7⟩
            show NewI _ _ _ _
            rw [HSN.out]
            rcases HN5.out with ⟨h, _⟩ | ⟨g, e, hg, hic⟩
            · exact .inl h
            · exact .inr ⟨g, e, Nat.le_trans HBW.out hg, hic.1⟩
          case measure => simp [intOf]; omega
      have hd2 : decide ((j : Int) < (k : Int)) = true := decide_eq_true (by omega)
      have hjO : j < O.length := by rw [HOL.out]; exact hjk
      obtain ⟨b3, off3, rfl, hb3, hcc3⟩ := (HI2.out.below HBI.out) (by omega)
      obtain ⟨f0, f1, f2, f3, f4, f5, f6, f7⟩ := hcc3 j O[j] (List.getElem?_eq_getElem hjO)
      have HNX : Hid (nxtS X (O.take (j + 1)) = (if (O.take j).any (behI X) = true then nxtS X (O.take j) else if behI X O[j] = true then nxtS X (O.take j) ++ [X] else nxtS X (O.take j)) ++ [O[j]]) := by
        show _ = _
        rw [List.take_succ_eq_append_getElem hjO, nxtS_snoc]
      have HAN : Hid ((O.take (j + 1)).any (behI X) = ((O.take j).any (behI X) || behI X O[j])) := any_take _ _ _ hjO
      have HNL : Hid ((nxtS X (O.take j)).length ≤ 1001) := by show _ ≤ _; have := nxtS_len X (O.take j); rw [List.length_take] at this; omega
      have HSY := Lib.hid (HOS.out O[j] (List.getElem_mem hjO))
      obtain ⟨W4, hW4⟩ : ∃ W4, W4 = wr.alloc (.cells O[j].cells 33) := ⟨_, rfl⟩
      have hb4 : Below wr.heap.size wr W4 := by rw [hW4]; exact below_al wr _
      have HY4 : Hid (W4.heap[wr.heap.size]? = some (.cells O[j].cells 33 (0, 0))) := by show _ = _; rw [hW4]; exact heap_alloc_new wr _
      have HX4 : Hid (W4.heap[gx]? = some (.cells X.cells 33 (0, 0))) := (hb4.block _ (lt_of_block HXI.out)).trans HXI.out
      have HO4 : Hid (W4.ownsRow W2.heap.size 33 8 V (nxtS X (O.take j)).length (cellsI (nxtS X (O.take j)))) := by show World.ownsRow _ _ _ _ _ _ _; rw [hW4]; exact HO.out.alloc _
      have HB4 := Lib.hid (below_then HBI.out hb4)
      have HLT : Hid (∀ q, V.ownBlock = some q → W2.heap.size ≤ q ∧ q < wr.heap.size) := fun q hq => HO.out.lt q hq
      generalize nxtS X (O.take j) = L at *
      generalize O[j] = Y at *
      generalize hbd : (O.take j).any (behI X) = bd at *
      simp only [Itm.cells] at hW4
      have HW4 := Lib.hid hW4
      clear hcc3 hb4 hW4 HO hbd
      generalize hgy : wr.heap.size = gy at *
      go_upto_region 10 with fail
      rw [← HW4.out]
      clear HW4 f0 f1 f2 f3 f4 f5 f6 f7
      cases bd with
      | true =>
        have HNE : Hid (nxtS X (O.take (j + 1)) = L ++ [Y]) := HNX.out
        have HAE : Hid ((O.take (j + 1)).any (behI X) = true) := HAN.out
        obtain ⟨y0, y1, y2, y3, y4, y5, y6, y7⟩ := cells_of_box HY4.out
        have HO5 := Lib.hid (HO4.out.alloc (.cells Y.cells 33))
        have HQ5 := Lib.hid (news_box W4 Y)
        have HB5 := Lib.hid (HB4.out.alloc HB4.out.size (.cells Y.cells 33))
        simp only [Itm.cells] at HO5 HQ5 HB5
        clear HNX HAN HO4
        go_wp2_with (at_builtin; refine wpList_append_own _ rfl _ _ 22 rfl W2.heap.size 33 i0 (.agg #[.string ⟨#[]⟩, .int .i64 0, .int .u32 0, .int .u32 0, .int .u32 0, .int .i64 0, .int .i64 0, .string ⟨#[]⟩]) 8 72 Tryz.underlying22 hi hz0 hz1 hz2 rfl (by decide) _ _ _ rfl HO5.out ⟨W4.heap.size, 0, none⟩ 1 1 Y.cellsL rfl ?qc1 ?qc2 ?qc3 ?qc4 ?qc5 ?qc6 ?_)
        case qc1 => rfl
        case qc2 => exact HQ5.out
        case qc3 => exact one_box Y
        case qc4 => have := HNL.out; unfold maxLen; omega
        case qc5 => have := HNL.out; omega
        case qc6 => exact HB5.out.size
        intro v7 w7 hown7 hgrow7 _
        have HB7 : Hid (Below W2.heap.size W2 w7) := HB5.out.grown hgrow7 HB5.out.size (fun q hq => (HLT.out q hq).1)
        have HO7 : Hid (w7.ownsRow W2.heap.size 33 8 v7 (nxtS X (O.take (j + 1))).length (cellsI (nxtS X (O.take (j + 1))))) := by
          show World.ownsRow _ _ _ _ _ _ _
          rw [HNE.out, ← cells_snoc, List.length_append]
          exact hown7
        clear hown7 hgrow7 HO5 HQ5 HB5
        go_wp2_with fail
        go_roundw
        case rel => exact ⟨j + 1, _, by omega, rfl, by go_num, by rw [HAE.out], HO7, HB7⟩
        case measure => simp [intOf]; omega
      | false =>
        have HORD := Lib.hid (fun w => rorder_any X.s Y.s w HSX.out HSY.out)
        obtain ⟨y0, _⟩ := cells_of_box HY4.out
        obtain ⟨x0, _⟩ := cells_of_box HX4.out
        go_wp2_with fail
        refine (HORD.out _).mono ?_; rintro e w5 ⟨rfl, hb5⟩
        have HY5 : Hid (w5.heap[gy]? = some (.cells Y.cells 33 (0, 0))) := (hb5.block _ (lt_of_block HY4.out)).trans HY4.out
        have HX5 : Hid (w5.heap[gx]? = some (.cells X.cells 33 (0, 0))) := (hb5.block _ (lt_of_block HX4.out)).trans HX4.out
        have HO5 := Lib.hid (own_belowI HO4.out hb5)
        have HB5 := Lib.hid (below_then HB4.out hb5)
        have HG5 : Hid (gy < w5.heap.size) := lt_of_block HY5.out
        clear hb5 HORD HO4 HB4 HY4 HX4 x0 y0
        by_cases hlt5 : ordT X.s Y.s < 0
        · have hbe : behI X Y = true := decide_eq_true hlt5
          have HNE : Hid (nxtS X (O.take (j + 1)) = (L ++ [X]) ++ [Y]) := by show _ = _; rw [HNX.out, if_neg (by decide), if_pos hbe]
          have HAE : Hid ((O.take (j + 1)).any (behI X) = true) := by show _ = _; rw [HAN.out, hbe]; rfl
          obtain ⟨x0, x1, x2, x3, x4, x5, x6, x7⟩ := cells_of_box HX5.out
          have HO6 := Lib.hid (HO5.out.alloc (.cells X.cells 33))
          have HQ6 := Lib.hid (news_box w5 X)
          have HB6 := Lib.hid (HB5.out.alloc HB5.out.size (.cells X.cells 33))
          have HY6 : Hid ((w5.alloc (.cells X.cells 33)).heap[gy]? = some (.cells Y.cells 33 (0, 0))) := ((below_al w5 (.cells X.cells 33)).block _ HG5.out).trans HY5.out
          simp only [Itm.cells] at HO6 HQ6 HB6
          have HY6 : Hid ((w5.alloc (.cells #[.string X.s, .int .i64 X.k, .int .u32 X.m, .int .u32 X.u, .int .u32 X.g, .int .i64 X.t, .int .i64 X.a, .string X.d] 33)).heap[gy]? = some (.cells Y.cells 33 (0, 0))) := HY6.out
          clear HNX HAN HO5 HB5 HY5 HX5 hbe
          go_upto_region 12 with (at_builtin; refine wpList_append_own _ rfl _ _ 22 rfl W2.heap.size 33 i0 (.agg #[.string ⟨#[]⟩, .int .i64 0, .int .u32 0, .int .u32 0, .int .u32 0, .int .i64 0, .int .i64 0, .string ⟨#[]⟩]) 8 72 Tryz.underlying22 hi hz0 hz1 hz2 rfl (by decide) _ _ _ rfl HO6.out ⟨w5.heap.size, 0, none⟩ 1 1 X.cellsL rfl ?qc1 ?qc2 ?qc3 ?qc4 ?qc5 ?qc6 ?_)
          case qc1 => rfl
          case qc2 => exact HQ6.out
          case qc3 => exact one_box X
          case qc4 => have := HNL.out; unfold maxLen; omega
          case qc5 => have := HNL.out; omega
          case qc6 => exact HB6.out.size
          intro v7 w7 hown7 hgrow7 _
          have HB7 : Hid (Below W2.heap.size W2 w7) := HB6.out.grown hgrow7 HB6.out.size (fun q hq => (HLT.out q hq).1)
          have HY7 : Hid (w7.heap[gy]? = some (.cells Y.cells 33 (0, 0))) := (hgrow7.block gy (lt_of_block HY6.out) (fun h => by have := (HLT.out gy h.symm).2; omega)).trans HY6.out
          have HL7 : Hid (∀ q, v7.ownBlock = some q → W2.heap.size ≤ q) := fun q hq => (hown7.lt q hq).1
          obtain ⟨z0, z1, z2, z3, z4, z5, z6, z7⟩ := cells_of_box HY7.out
          have HO8 := Lib.hid (hown7.alloc (.cells Y.cells 33))
          have HQ8 := Lib.hid (news_box w7 Y)
          have HB8 := Lib.hid (HB7.out.alloc HB7.out.size (.cells Y.cells 33))
          simp only [Itm.cells] at HO8 HQ8 HB8
          clear hown7 hgrow7 HO6 HQ6 HB6 HY6 HB7 HLT x0 x1 x2 x3 x4 x5 x6 x7
          go_wp2_with (at_builtin; refine wpList_append_own _ rfl _ _ 22 rfl W2.heap.size 33 i0 (.agg #[.string ⟨#[]⟩, .int .i64 0, .int .u32 0, .int .u32 0, .int .u32 0, .int .i64 0, .int .i64 0, .string ⟨#[]⟩]) 8 72 Tryz.underlying22 hi hz0 hz1 hz2 rfl (by decide) _ _ _ rfl HO8.out ⟨w7.heap.size, 0, none⟩ 1 1 Y.cellsL rfl ?qd1 ?qd2 ?qd3 ?qd4 ?qd5 ?qd6 ?_)
          case qd1 => rfl
          case qd2 => exact HQ8.out
          case qd3 => exact one_box Y
          case qd4 => have := HNL.out; unfold maxLen; omega
          case qd5 => have := HNL.out; omega
          case qd6 => exact HB8.out.size
          intro v9 w9 hown9 hgrow9 _
          have HB9 : Hid (Below W2.heap.size W2 w9) := HB8.out.grown hgrow9 HB8.out.size (fun q hq => HL7.out q hq)
          have HO9 : Hid (w9.ownsRow W2.heap.size 33 8 v9 (nxtS X (O.take (j + 1))).length (cellsI (nxtS X (O.take (j + 1))))) := by
            show World.ownsRow _ _ _ _ _ _ _
            rw [HNE.out, ← cells_snoc, ← cells_snoc, List.length_append, List.length_append, List.append_assoc]
            exact hown9
          clear hown9 hgrow9 HO8 HQ8 HB8
          go_wp2_with fail
          go_roundw
          case rel => exact ⟨j + 1, _, by omega, rfl, by go_num, by rw [HAE.out], HO9, HB9⟩
          case measure => simp [intOf]; omega
        · have hbe : behI X Y = false := decide_eq_false hlt5
          have hd5 : decide (ordT X.s Y.s < 0) = false := decide_eq_false hlt5
          have HNE : Hid (nxtS X (O.take (j + 1)) = L ++ [Y]) := by show _ = _; rw [HNX.out, if_neg (by decide), if_neg (by rw [hbe]; decide)]
          have HAE : Hid ((O.take (j + 1)).any (behI X) = false) := by show _ = _; rw [HAN.out, hbe]; rfl
          obtain ⟨y0, y1, y2, y3, y4, y5, y6, y7⟩ := cells_of_box HY5.out
          have HO6 := Lib.hid (HO5.out.alloc (.cells Y.cells 33))
          have HQ6 := Lib.hid (news_box w5 Y)
          have HB6 := Lib.hid (HB5.out.alloc HB5.out.size (.cells Y.cells 33))
          simp only [Itm.cells] at HO6 HQ6 HB6
          clear HNX HAN HO5 HB5 hbe
          go_wp2_with (at_builtin; refine wpList_append_own _ rfl _ _ 22 rfl W2.heap.size 33 i0 (.agg #[.string ⟨#[]⟩, .int .i64 0, .int .u32 0, .int .u32 0, .int .u32 0, .int .i64 0, .int .i64 0, .string ⟨#[]⟩]) 8 72 Tryz.underlying22 hi hz0 hz1 hz2 rfl (by decide) _ _ _ rfl HO6.out ⟨w5.heap.size, 0, none⟩ 1 1 Y.cellsL rfl ?qc1 ?qc2 ?qc3 ?qc4 ?qc5 ?qc6 ?_)
          case qc1 => rfl
          case qc2 => exact HQ6.out
          case qc3 => exact one_box Y
          case qc4 => have := HNL.out; unfold maxLen; omega
          case qc5 => have := HNL.out; omega
          case qc6 => exact HB6.out.size
          intro v7 w7 hown7 hgrow7 _
          have HB7 : Hid (Below W2.heap.size W2 w7) := HB6.out.grown hgrow7 HB6.out.size (fun q hq => (HLT.out q hq).1)
          have HO7 : Hid (w7.ownsRow W2.heap.size 33 8 v7 (nxtS X (O.take (j + 1))).length (cellsI (nxtS X (O.take (j + 1))))) := by
            show World.ownsRow _ _ _ _ _ _ _
            rw [HNE.out, ← cells_snoc, List.length_append]
            exact hown7
          clear hown7 hgrow7 HO6 HQ6 HB6
          go_wp2_with fail
          go_roundw
          case rel => exact ⟨j + 1, _, by omega, rfl, by go_num, by rw [HAE.out], HO7, HB7⟩
          case measure => simp [intOf]; omega
end Go.Proofs.YtpkhpaklhfomkaaGreatDoor
