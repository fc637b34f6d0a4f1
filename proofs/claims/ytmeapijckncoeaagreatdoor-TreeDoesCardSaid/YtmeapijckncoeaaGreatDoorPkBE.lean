/-
  Items at odds (mathematics): what one pass over the items in order tells is the first place that is at odds with one ahead.
  Sorting by putting each item behind all that don't stand behind it (mathematics).
-/
import Derived.Test.YtmeapijckncoeaaGreatDoorPkBD

namespace Go.Proofs.YtmeapijckncoeaaGreatDoor
set_option maxRecDepth 100000
set_option linter.unusedSimpArgs false
set_option linter.unusedVariables false
open Go.RowKit Go.Joins Go.Deep
open Go.Lib hiding intOf
/-! ### under -/
def undN (c r : List Nat) : Prop := r = [] ∨ c = r ∨ ∃ s, c = r ++ 47 :: s
theorem numsD (s : ByteArray) : nums s = s.data.toList.map UInt8.toNat := rfl
theorem undB_list (A R : List UInt8) : (Lib.hasPrefix A R && (R.isEmpty || (Lib.trimPrefix A R).isEmpty || Lib.hasPrefix (Lib.trimPrefix A R) [47])) = true ↔ (R = [] ∨ A = R ∨ ∃ s, A = R ++ 47 :: s) := by
  constructor
  · intro h
    rw [Bool.and_eq_true] at h
    obtain ⟨h1, h2⟩ := h
    obtain ⟨u, rfl⟩ := List.isPrefixOf_iff_prefix.1 (show R.isPrefixOf A = true from h1)
    have hp1 : Lib.hasPrefix (R ++ u) R = true := h1
    unfold Lib.trimPrefix at h2
    rw [if_pos hp1, List.drop_left'] at h2
    · cases u with
      | nil => right; left; simp
      | cons x u =>
        simp [Lib.hasPrefix] at h2
        rcases h2 with h2 | h2
        · left; simpa using h2
        · right; right; exact ⟨u, by rw [h2]⟩
    · rfl
  · have key : ∀ u, Lib.hasPrefix (R ++ u) R = true := fun u => by unfold Lib.hasPrefix; exact List.isPrefixOf_iff_prefix.2 ⟨u, rfl⟩
    have tr : ∀ u, Lib.trimPrefix (R ++ u) R = u := fun u => by unfold Lib.trimPrefix; rw [if_pos (key u)]; simp
    rintro (h | h | ⟨s, h⟩)
    · subst h
      have := key A
      have e : Lib.hasPrefix A [] = true := by simpa using (by unfold Lib.hasPrefix; simp : Lib.hasPrefix A [] = true)
      rw [e]
      rfl
    · subst h
      have k := key []
      have t := tr []
      rw [List.append_nil] at k t
      rw [k, t]
      simp
    · subst h
      rw [key, tr]
      simp [Lib.hasPrefix]
theorem und_iff (a r : ByteArray) : undB a r = true ↔ undN (nums a) (nums r) := by
  have inj : ∀ a b : List UInt8, a.map UInt8.toNat = b.map UInt8.toNat → a = b := fun a b h => (List.map_inj_right (fun x y h => UInt8.toNat_inj.1 h)).1 h
  unfold undB
  rw [undB_list, numsD, numsD]
  unfold undN
  constructor
  · rintro (h | h | ⟨s, h⟩)
    · left; rw [h]; rfl
    · right; left; rw [h]
    · right; right; exact ⟨s.map UInt8.toNat, by rw [h, List.map_append, List.map_cons]; rfl⟩
  · rintro (h | h | ⟨s, h⟩)
    · left; exact List.map_eq_nil_iff.1 h
    · right; left; exact inj _ _ h
    · obtain ⟨l1, l2, e, e1, e2⟩ := List.map_eq_append_iff.1 h
      obtain ⟨x, l3, e3, e4, e5⟩ := List.map_eq_cons_iff.1 e2
      right; right
      refine ⟨l3, ?_⟩
      rw [e, e3, inj _ _ e1, show x = 47 from UInt8.toNat_inj.1 e4]
theorem und_refl (a : List Nat) : undN a a := .inr (.inl rfl)
theorem und_trans {x a b : List Nat} (h1 : undN x a) (h2 : undN a b) : undN x b := by
  rcases h2 with h2 | h2 | ⟨s, h2⟩
  · exact .inl h2
  · subst h2; exact h1
  · subst h2
    rcases h1 with h1 | h1 | ⟨u, h1⟩
    · simp at h1
    · exact .inr (.inr ⟨s, h1⟩)
    · exact .inr (.inr ⟨s ++ 47 :: u, by rw [h1]; simp⟩)
theorem und_ord {x a : List Nat} (h : undN x a) : ordL a x ≤ 0 := by
  rcases h with h | h | ⟨s, h⟩
  · subst h
    cases x with
    | nil => exact Int.le_refl _
    | cons _ _ => show (-1 : Int) ≤ 0; decide
  · rw [h, ordL_self]; exact Int.le_refl _
  · rw [h]; exact ordL_prefix _ _
theorem und_mid : ∀ (r b s : List Nat), ordL r b ≤ 0 → ordL b (r ++ 47 :: s) ≤ 0 → undN b r
  | [], _, _, _, _ => .inl rfl
  | x :: r, [], _, h, _ => by simp [ordL] at h
  | x :: r, y :: b, s, h1, h2 => by
    rw [List.cons_append] at h2
    unfold ordL at h1 h2
    have e : x = y := by
      by_cases e : x = y
      · exact e
      · rw [if_neg e] at h1
        rw [if_neg (fun k => e k.symm)] at h2
        have l1 : rk x < rk y := by
          by_cases l : rk x < rk y
          · exact l
          · rw [if_neg l] at h1; omega
        have l2 : rk y < rk x := by
          by_cases l : rk y < rk x
          · exact l
          · rw [if_neg l] at h2; omega
        omega
    subst e
    rw [if_pos rfl] at h1 h2
    cases r with
    | nil =>
      cases b with
      | nil => exact .inr (.inl rfl)
      | cons z b =>
        rw [List.nil_append] at h2
        unfold ordL at h2
        have : z = 47 := by
          by_cases e : z = 47
          · exact e
          · rw [if_neg e] at h2
            have := rk_lt_47 e
            rw [if_neg (by omega)] at h2
            omega
        exact .inr (.inr ⟨b, by rw [this]; rfl⟩)
    | cons x2 r =>
      rcases und_mid (x2 :: r) b s h1 h2 with k | k | ⟨u, k⟩
      · cases k
      · exact .inr (.inl (by rw [k]))
      · exact .inr (.inr ⟨u, by rw [k]; rfl⟩)
theorem ord_anti {a b : List Nat} (h1 : ordL a b ≤ 0) (h2 : ordL b a ≤ 0) : a = b := (ordL_zero a b).1 (by rw [ordL_neg] at h2; omega)
/-- What stands between a path and what is under it is under it. -/
theorem und_contig {r b c : List Nat} (h1 : ordL r b ≤ 0) (h2 : ordL b c ≤ 0) (h : undN c r) : undN b r := by
  rcases h with h | h | ⟨s, h⟩
  · exact .inl h
  · subst h; exact .inr (.inl (ord_anti h2 h1))
  · subst h; exact und_mid r b s h1 h2
/-- Of two paths above one the later one is under the other one. -/
theorem und_chain {x a b : List Nat} (h1 : undN x a) (h2 : undN x b) (h : ordL a b ≤ 0) : undN b a := und_contig h (und_ord h2) h1
/-! ### the items, by their place in the order -/
/-- The place of the item that stands p-th. -/
def plc (t : List Itm) (p : Nat) : Nat := (idxI t)[p]?.getD 0
/-- The item that stands p-th. -/
def itP (t : List Itm) (p : Nat) : Itm := atL t (plc t p)
theorem idx_len (t : List Itm) : (idxI t).length = t.length := by rw [(idxI_perm t).length_eq, List.length_range]
theorem plc_get (t : List Itm) (p : Nat) (h : p < t.length) : ∃ h2 : p < (idxI t).length, (idxI t)[p] = plc t p := by
  have hp : p < (idxI t).length := by rw [idx_len]; exact h
  exact ⟨hp, by unfold plc; rw [List.getElem?_eq_getElem hp]; rfl⟩
theorem plc_lt (t : List Itm) (p : Nat) (h : p < t.length) : plc t p < t.length := by
  obtain ⟨h2, e⟩ := plc_get t p h
  rw [← e]
  exact List.mem_range.1 ((idxI_perm t).mem_iff.1 (List.getElem_mem h2))
theorem plc_onto (t : List Itm) (i : Nat) (h : i < t.length) : ∃ p, p < t.length ∧ plc t p = i := by
  obtain ⟨p, hp, e⟩ := List.getElem_of_mem ((idxI_perm t).mem_iff.2 (List.mem_range.2 h))
  rw [idx_len] at hp
  obtain ⟨_, e2⟩ := plc_get t p hp
  exact ⟨p, hp, by rw [← e2]; exact e⟩
theorem plc_rank (t : List Itm) (p q : Nat) (hpq : p < q) (hq : q < t.length) : ahd t (plc t p) (plc t q) = true := by
  obtain ⟨hp, e1⟩ := plc_get t p (by omega)
  obtain ⟨hq2, e2⟩ := plc_get t q hq
  have hle := List.pairwise_iff_getElem.1 (idxI_pw t) p q hp hq2 hpq
  have hnd : (idxI t).Nodup := (idxI_perm t).nodup_iff.2 List.nodup_range
  have hne := List.pairwise_iff_getElem.1 hnd p q hp hq2 hpq
  rw [e1, e2] at hle hne
  refine (rnk_iff (plc_lt t p (by omega)) (plc_lt t q hq)).1 ?_
  rcases Nat.lt_or_ge (rnk t (plc t p)) (rnk t (plc t q)) with h | h
  · exact h
  · exact absurd (rnk_inj (plc_lt t p (by omega)) (plc_lt t q hq) (by omega)) hne
theorem itP_ord (t : List Itm) (p q : Nat) (hpq : p ≤ q) (hq : q < t.length) : ordT (itP t p).s (itP t q).s ≤ 0 := by
  rcases Nat.lt_or_eq_of_le hpq with h | h
  · have := of_decide_eq_true (plc_rank t p q h hq)
    unfold itP
    omega
  · subst h; rw [ordT_self]; exact Int.le_refl _
theorem itP_same (t : List Itm) (p q : Nat) (hpq : p < q) (hq : q < t.length) (h : (itP t p).s = (itP t q).s) : plc t p < plc t q := by
  have := of_decide_eq_true (plc_rank t p q hpq hq)
  unfold itP at h
  rw [h, ordT_self] at this
  omega
theorem plc_ne (t : List Itm) (p q : Nat) (hp : p < t.length) (hq : q < t.length) (h : p ≠ q) : plc t p ≠ plc t q := by
  intro e
  rcases Nat.lt_or_gt_of_ne h with k | k
  · have := plc_rank t p q k hq
    rw [e, ahd_irr] at this
    cases this
  · have := plc_rank t q p k hp
    rw [e, ahd_irr] at this
    cases this
/-! ### at odds -/
/-- Are two items at odds? -/
def cfl (a b : Itm) : Bool := (a.s.toList == b.s.toList) || (undB a.s b.s && !(b.k == 1)) || (undB b.s a.s && !(a.k == 1))
theorem cfl_symm (a b : Itm) : cfl a b = cfl b a := by
  unfold cfl
  have e : (a.s.toList == b.s.toList) = (b.s.toList == a.s.toList) := by
    by_cases h : a.s.toList = b.s.toList
    · rw [h]
    · rw [beq_eq_false_iff_ne.2 h, beq_eq_false_iff_ne.2 (fun k => h k.symm)]
  rw [e]
  cases (b.s.toList == a.s.toList) <;> cases (undB a.s b.s && !(b.k == 1)) <;> cases (undB b.s a.s && !(a.k == 1)) <;> rfl
/-- Is an item at odds with one ahead? -/
def oddAt (t : List Itm) (i : Nat) : Bool := (List.range i).any fun k => cfl (atL t i) (atL t k)
theorem oddAt_of {t : List Itm} {i k : Nat} (h : i ≠ k) (hc : cfl (atL t i) (atL t k) = true) : oddAt t (max i k) = true := by
  unfold oddAt
  rw [List.any_eq_true]
  rcases Nat.lt_or_gt_of_ne h with e | e
  · rw [Nat.max_eq_right (by omega)]
    exact ⟨i, List.mem_range.2 e, by rw [cfl_symm]; exact hc⟩
  · rw [Nat.max_eq_left (by omega)]
    exact ⟨k, List.mem_range.2 e, hc⟩
/-- The first place of an item that is at odds with one ahead; how many there are, where there is none. -/
def oddN (t : List Itm) : Nat := (List.range t.length).findIdx (oddAt t)
theorem oddN_of {t : List Itm} {F : Nat} (hF : F ≤ t.length) (h1 : F < t.length → oddAt t F = true) (h2 : ∀ i, i < t.length → oddAt t i = true → F ≤ i) : oddN t = F := by
  unfold oddN
  rcases Nat.lt_or_eq_of_le hF with h | h
  · refine (List.findIdx_eq (by simpa using h)).2 ⟨by simpa using h1 h, fun j hj => ?_⟩
    rcases Bool.eq_false_or_eq_true (oddAt t j) with e | e
    · have := h2 j (by omega) e
      omega
    · simpa using e
  · have : (List.range t.length).findIdx (oddAt t) = (List.range t.length).length := List.findIdx_eq_length.2 fun x hx => by
      have hx := List.mem_range.1 hx
      rcases Bool.eq_false_or_eq_true (oddAt t x) with e | e
      · have := h2 x hx e
        omega
      · exact e
    rw [this, List.length_range]
    exact h.symm
/-! ### the pass -/
def ndP (t : List Itm) (p : Nat) : Bool := !((itP t p).k == 1)
/-- Of the first p those that are no directories and above an item. -/
def abvP (t : List Itm) (p : Nat) (x : ByteArray) : List Nat := (List.range p).filter fun r => ndP t r && undB x (itP t r).s
/-- The least place of these; how many items there are, where there is none. -/
def minP (t : List Itm) (l : List Nat) : Nat := l.foldr (fun r m => min (plc t r) m) t.length
theorem minP_le (t : List Itm) : ∀ (l : List Nat) (r : Nat), r ∈ l → minP t l ≤ plc t r
  | a :: l, r, h => by
    show min (plc t a) (minP t l) ≤ _
    rcases List.mem_cons.1 h with e | e
    · subst e; omega
    · have := minP_le t l r e; omega
theorem minP_at (t : List Itm) : ∀ (l : List Nat), minP t l = t.length ∨ ∃ r ∈ l, minP t l = plc t r
  | [] => .inl rfl
  | a :: l => by
    have h : minP t (a :: l) = min (plc t a) (minP t l) := rfl
    by_cases e : plc t a ≤ minP t l
    · exact .inr ⟨a, List.mem_cons_self, by omega⟩
    · rcases minP_at t l with k | ⟨r, hr, k⟩
      · exact .inl (by omega)
      · exact .inr ⟨r, List.mem_cons_of_mem _ hr, by omega⟩
theorem minP_app (t : List Itm) : ∀ (l : List Nat) (p : Nat), p < t.length → minP t (l ++ [p]) = min (plc t p) (minP t l)
  | [], p, hp => rfl
  | a :: l, p, hp => by
    show min (plc t a) (minP t (l ++ [p])) = min (plc t p) (min (plc t a) (minP t l))
    rw [minP_app t l p hp]
    omega
/-- The first place at odds, behind p items. -/
def oF (t : List Itm) : Nat → Nat
  | 0 => t.length
  | p + 1 => min (if 0 < p ∧ (itP t (p - 1)).s = (itP t p).s then min (oF t p) (plc t p) else oF t p) (max (plc t p) (minP t (abvP t p (itP t p).s)))
theorem oF_le (t : List Itm) : ∀ p, oF t p ≤ t.length
  | 0 => Nat.le_refl _
  | p + 1 => by
    have := oF_le t p
    unfold oF
    split <;> omega
theorem oF_mono (t : List Itm) (p : Nat) : oF t (p + 1) ≤ oF t p := by
  rw [oF]
  split <;> omega
theorem oF_mono_le (t : List Itm) {p q : Nat} (h : p ≤ q) : oF t q ≤ oF t p := by
  obtain ⟨d, rfl⟩ : ∃ d, q = p + d := ⟨q - p, by omega⟩
  clear h
  induction d with
  | zero => exact Nat.le_refl _
  | succ d ih => exact Nat.le_trans (oF_mono t _) ih
theorem abv_mem {t : List Itm} {p r : Nat} {x : ByteArray} : r ∈ abvP t p x ↔ r < p ∧ (itP t r).k ≠ 1 ∧ undB x (itP t r).s = true := by
  unfold abvP ndP
  rw [List.mem_filter, List.mem_range, Bool.and_eq_true]
  simp
theorem oF_sound (t : List Itm) : ∀ p, p ≤ t.length → oF t p < t.length → oddAt t (oF t p) = true
  | 0, _, h => absurd h (by show ¬ t.length < t.length; omega)
  | p + 1, hp, h => by
    have ih := oF_sound t p (by omega)
    have hA : 0 < p ∧ (itP t (p - 1)).s = (itP t p).s → oddAt t (plc t p) = true := fun ⟨h0, he⟩ => by
      have h1 := itP_same t (p - 1) p (by omega) (by omega) he
      have h2 : cfl (atL t (plc t p)) (atL t (plc t (p - 1))) = true := by
        unfold cfl
        have : (atL t (plc t p)).s = (atL t (plc t (p - 1))).s := he.symm
        rw [this]
        simp
      have := oddAt_of (by omega) h2
      rw [Nat.max_eq_left (by omega)] at this
      exact this
    have hB : max (plc t p) (minP t (abvP t p (itP t p).s)) < t.length → oddAt t (max (plc t p) (minP t (abvP t p (itP t p).s))) = true := fun hm => by
      rcases minP_at t (abvP t p (itP t p).s) with e | ⟨r, hr, e⟩
      · omega
      · rw [e]
        obtain ⟨h1, h2, h3⟩ := abv_mem.1 hr
        refine oddAt_of (plc_ne t p r (by omega) (by omega) (by omega)) ?_
        have h3 : undB (atL t (plc t p)).s (atL t (plc t r)).s = true := h3
        have h2 : ((atL t (plc t r)).k == 1) = false := beq_eq_false_iff_ne.2 h2
        unfold cfl
        rw [h3, h2]
        simp
    rw [oF] at h ⊢
    generalize max (plc t p) (minP t (abvP t p (itP t p).s)) = M at *
    by_cases hc : 0 < p ∧ (itP t (p - 1)).s = (itP t p).s
    · rw [if_pos hc] at h ⊢
      have hA := hA hc
      by_cases h1 : oF t p ≤ plc t p
      · by_cases h2 : oF t p ≤ M
        · rw [show min (min (oF t p) (plc t p)) M = oF t p by omega] at h ⊢
          exact ih h
        · rw [show min (min (oF t p) (plc t p)) M = M by omega] at h ⊢
          exact hB h
      · by_cases h2 : plc t p ≤ M
        · rw [show min (min (oF t p) (plc t p)) M = plc t p by omega]
          exact hA
        · rw [show min (min (oF t p) (plc t p)) M = M by omega] at h ⊢
          exact hB h
    · rw [if_neg hc] at h ⊢
      by_cases h2 : oF t p ≤ M
      · rw [show min (oF t p) M = oF t p by omega] at h ⊢
        exact ih h
      · rw [show min (oF t p) M = M by omega] at h ⊢
        exact hB h
theorem oF_same (t : List Itm) (r q : Nat) (hrq : r < q) (hq : q < t.length) (h : (itP t r).s = (itP t q).s) : oF t t.length ≤ plc t q := by
  have hs : (itP t r).s = (itP t (r + 1)).s := by
    have h1 := itP_ord t r (r + 1) (by omega) (by omega)
    have h2 := itP_ord t (r + 1) q (by omega) hq
    rw [← h] at h2
    refine ord_zero ?_
    rw [ordT_neg] at h2
    omega
  have h1 : oF t (r + 1 + 1) ≤ plc t (r + 1) := by
    rw [oF, if_pos ⟨by omega, by rw [Nat.add_sub_cancel]; exact hs⟩]
    omega
  have h2 : plc t (r + 1) ≤ plc t q := by
    rcases Nat.lt_or_eq_of_le (show r + 1 ≤ q by omega) with e | e
    · exact Nat.le_of_lt (itP_same t (r + 1) q e hq (by rw [← hs]; exact h))
    · rw [e]; exact Nat.le_refl _
  have h3 := oF_mono_le t (show r + 1 + 1 ≤ t.length by omega)
  omega
theorem oF_under (t : List Itm) (r q : Nat) (hne : r ≠ q) (hr : r < t.length) (hq : q < t.length) (hu : undB (itP t q).s (itP t r).s = true) (hk : (itP t r).k ≠ 1) : oF t t.length ≤ max (plc t q) (plc t r) := by
  rcases Nat.lt_or_gt_of_ne hne with e | e
  · have h1 : oF t (q + 1) ≤ max (plc t q) (minP t (abvP t q (itP t q).s)) := by
      rw [oF]
      omega
    have h2 := minP_le t (abvP t q (itP t q).s) r (abv_mem.2 ⟨e, hk, hu⟩)
    have h3 := oF_mono_le t (show q + 1 ≤ t.length by omega)
    omega
  · have h1 := itP_ord t q r (by omega) hr
    have h2 := und_ord ((und_iff _ _).1 hu)
    have h3 : (itP t q).s = (itP t r).s := by
      refine ord_zero ?_
      have h2 : ordT (itP t r).s (itP t q).s ≤ 0 := h2
      rw [ordT_neg] at h2
      omega
    have := oF_same t q r e hr h3
    omega
theorem oF_all (t : List Itm) : oF t t.length = oddN t := by
  refine (oddN_of (oF_le t _) (oF_sound t _ (Nat.le_refl _)) fun i hi h => ?_).symm
  unfold oddAt at h
  rw [List.any_eq_true] at h
  obtain ⟨k, hk, hc⟩ := h
  have hk := List.mem_range.1 hk
  obtain ⟨q, hq, rfl⟩ := plc_onto t i hi
  obtain ⟨r, hr, rfl⟩ := plc_onto t k (by omega)
  have hne : r ≠ q := by intro e; subst e; omega
  have hmx : max (plc t q) (plc t r) = plc t q := by omega
  have hmx2 : max (plc t r) (plc t q) = plc t q := by omega
  unfold cfl at hc
  rw [Bool.or_eq_true, Bool.or_eq_true, Bool.and_eq_true, Bool.and_eq_true] at hc
  rcases hc with (hc | ⟨h1, h2⟩) | ⟨h1, h2⟩
  · have he : (itP t q).s = (itP t r).s := toList_inj' (eq_of_beq hc)
    rcases Nat.lt_or_gt_of_ne hne with e | e
    · exact oF_same t r q e hq he.symm
    · have := itP_same t q r e hr he
      omega
  · have h2 : (!((itP t r).k == 1)) = true := h2
    have := oF_under t r q hne hr hq h1 (by simpa using h2)
    omega
  · have h2 : (!((itP t q).k == 1)) = true := h2
    have := oF_under t q r (Ne.symm hne) hq hr h1 (by simpa using h2)
    omega
/-! ### the barriers at hand -/
/-- The path and the least place of a barrier. -/
def barP (t : List Itm) (q : Nat) : ByteArray × Nat := ((itP t q).s, minP t (abvP t (q + 1) (itP t q).s))
def bars (t : List Itm) (l : List Nat) : List (ByteArray × Nat) := l.map (barP t)
/-- Without those at the end under which a path isn't. -/
def popB (x : ByteArray) (l : List (ByteArray × Nat)) : List (ByteArray × Nat) := (l.reverse.dropWhile fun b => !(undB x b.1)).reverse
theorem und_lift {t : List Itm} {x : ByteArray} {r q : Nat} (hrq : r ≤ q) (hq : q < t.length) (hx : undB x (itP t q).s = true) : undB x (itP t r).s = undB (itP t q).s (itP t r).s := by
  have ho := itP_ord t r q hrq hq
  rw [Bool.eq_iff_iff, und_iff, und_iff]
  rw [und_iff] at hx
  exact ⟨fun h => und_chain h hx ho, fun h => und_trans hx h⟩
theorem abv_cut {t : List Itm} {x : ByteArray} {q p : Nat} (hqp : q < p) (hp : p ≤ t.length) (hx : undB x (itP t q).s = true) (hl : ∀ r, q < r → r < p → ndP t r = true → undB x (itP t r).s = false) : abvP t p x = abvP t (q + 1) (itP t q).s := by
  unfold abvP
  obtain ⟨d, rfl⟩ : ∃ d, p = q + 1 + d := ⟨p - q - 1, by omega⟩
  rw [List.range_add, List.filter_append]
  have e1 : List.filter (fun r => ndP t r && undB x (itP t r).s) (List.map (fun k => q + 1 + k) (List.range d)) = [] := by
    rw [List.filter_eq_nil_iff]
    intro r hr h
    obtain ⟨k, hk, rfl⟩ := List.mem_map.1 hr
    have hk := List.mem_range.1 hk
    rw [Bool.and_eq_true] at h
    have := hl (q + 1 + k) (by omega) (by omega) h.1
    rw [this] at h
    cases h.2
  rw [e1, List.append_nil]
  refine List.filter_congr fun r hr => ?_
  have hr := List.mem_range.1 hr
  rw [und_lift (by omega) (by omega) hx]
theorem abv_snoc (t : List Itm) (p : Nat) (x : ByteArray) : abvP t (p + 1) x = abvP t p x ++ (if ndP t p = true ∧ undB x (itP t p).s = true then [p] else []) := by
  unfold abvP
  rw [List.range_succ, List.filter_append]
  congr 1
  by_cases h : ndP t p = true ∧ undB x (itP t p).s = true
  · rw [if_pos h, List.filter_cons_of_pos (by rw [h.1, h.2]; rfl)]
    rfl
  · rw [if_neg h, List.filter_cons_of_neg (by rw [Bool.and_eq_true]; exact h)]
    rfl
/-- The least place of the last barrier is the least of all. -/
theorem bar_last {t : List Itm} {p q : Nat} {x : ByteArray} {l : List Nat} (hp : p ≤ t.length) (h : abvP t p x = l ++ [q]) : (barP t q).2 = minP t (abvP t p x) := by
  have hq : q ∈ abvP t p x := by rw [h]; simp
  obtain ⟨h1, h2, h3⟩ := abv_mem.1 hq
  have : abvP t p x = abvP t (q + 1) (itP t q).s := abv_cut h1 hp h3 fun r hr1 hr2 hr3 => by
    rcases Bool.eq_false_or_eq_true (undB x (itP t r).s) with e | e
    · exfalso
      have hr : r ∈ abvP t p x := by
        unfold abvP
        rw [List.mem_filter, List.mem_range, hr3, e]
        exact ⟨hr2, rfl⟩
      have hs : (abvP t p x).Pairwise (· < ·) := List.pairwise_lt_range.sublist List.filter_sublist
      rw [h] at hs hr
      rw [List.pairwise_append] at hs
      rcases List.mem_append.1 hr with k | k
      · have := hs.2.2 r k q (by simp)
        omega
      · have := List.mem_singleton.1 k
        omega
    · exact e
  show minP t (abvP t (q + 1) (itP t q).s) = _
  rw [this]
theorem dropWhile_rev {α : Type} (f : α → Bool) : ∀ (l m : List α), (∀ x ∈ l, f x = false) → (∀ x ∈ m, f x = true) → ((l ++ m).reverse.dropWhile f).reverse = l := by
  intro l m h1 h2
  rw [List.reverse_append]
  have e : ∀ (a b : List α), (∀ x ∈ a, f x = true) → (a ++ b).dropWhile f = b.dropWhile f := by
    intro a
    induction a with
    | nil => intro b _; rfl
    | cons x a ih =>
      intro b h
      rw [List.cons_append, List.dropWhile_cons_of_pos (h x List.mem_cons_self)]
      exact ih b fun y hy => h y (List.mem_cons_of_mem _ hy)
  rw [e m.reverse l.reverse fun x hx => h2 x (List.mem_reverse.1 hx)]
  have e2 : l.reverse.dropWhile f = l.reverse := by
    cases hl : l.reverse with
    | nil => rfl
    | cons x k =>
      have : x ∈ l := List.mem_reverse.1 (by rw [hl]; exact List.mem_cons_self)
      rw [List.dropWhile_cons_of_neg (by rw [h1 x this]; decide)]
  rw [e2, List.reverse_reverse]
theorem split_at {α : Type} (f : α → Bool) : ∀ (l : List α), l.Pairwise (fun a b => f b = true → f a = true) → l = l.filter f ++ l.filter (fun x => !f x)
  | [], _ => rfl
  | a :: l, h => by
    rw [List.pairwise_cons] at h
    have ih := split_at f l h.2
    by_cases e : f a = true
    · rw [List.filter_cons_of_pos e, List.filter_cons_of_neg (by rw [e]; decide), List.cons_append, ← ih]
    · have e1 : l.filter f = [] := List.filter_eq_nil_iff.2 fun x hx k => e (h.1 x hx k)
      rw [List.filter_cons_of_neg e, List.filter_cons_of_pos (by rw [Bool.eq_false_iff.2 e]; rfl), e1, List.nil_append]
      rw [e1, List.nil_append] at ih
      rw [← ih]
/-- Behind the pass over p items the barriers above the last one are at hand; of these those above the next one are left. -/
theorem pop_next (t : List Itm) (p : Nat) (hp : p < t.length) (h0 : 0 < p) : popB (itP t p).s (bars t (abvP t p (itP t (p - 1)).s)) = bars t (abvP t p (itP t p).s) := by
  have hY : ∀ r, r < p → undB (itP t p).s (itP t r).s = true → undB (itP t (p - 1)).s (itP t r).s = true := fun r hr hu => by
    rw [und_iff] at hu ⊢
    exact und_contig (itP_ord t r (p - 1) (by omega) (by omega)) (itP_ord t (p - 1) p (by omega) hp) hu
  have hZ : abvP t p (itP t p).s = (abvP t p (itP t (p - 1)).s).filter fun r => undB (itP t p).s (itP t r).s := by
    unfold abvP
    rw [List.filter_filter]
    refine List.filter_congr fun r hr => ?_
    have hr := List.mem_range.1 hr
    rcases Bool.eq_false_or_eq_true (undB (itP t p).s (itP t r).s) with e | e
    · rw [e, hY r hr e, Bool.true_and]
    · rw [e, Bool.false_and, Bool.and_false]
  have hsp := split_at (fun r => undB (itP t p).s (itP t r).s) (abvP t p (itP t (p - 1)).s) (by
    have hs : (abvP t p (itP t (p - 1)).s).Pairwise (· < ·) := List.pairwise_lt_range.sublist List.filter_sublist
    refine hs.imp_of_mem fun {a b} ha hb hab h => ?_
    have ha := abv_mem.1 ha
    have hb := abv_mem.1 hb
    have h3 := und_lift (t := t) (x := (itP t (p - 1)).s) (Nat.le_of_lt hab) (by omega) hb.2.2
    rw [ha.2.2] at h3
    rw [und_iff] at h ⊢
    exact und_trans h ((und_iff _ _).1 h3.symm))
  rw [hZ]
  unfold popB bars
  generalize abvP t p (itP t (p - 1)).s = Y at *
  rw [← hZ]
  conv => lhs; rw [hsp, List.map_append]
  rw [hZ]
  refine dropWhile_rev (fun b : ByteArray × Nat => !(undB (itP t p).s b.1)) _ _ (fun b hb => ?_) (fun b hb => ?_)
  · obtain ⟨r, hr, rfl⟩ := List.mem_map.1 hb
    have := (List.mem_filter.1 hr).2
    show (!(undB (itP t p).s (itP t r).s)) = false
    rw [this]
    rfl
  · obtain ⟨r, hr, rfl⟩ := List.mem_map.1 hb
    exact (List.mem_filter.1 hr).2
end Go.Proofs.YtmeapijckncoeaaGreatDoor

namespace Go.Proofs.YtmeapijckncoeaaGreatDoor
set_option maxRecDepth 100000
set_option linter.unusedSimpArgs false
set_option linter.unusedVariables false
open Go.RowKit Go.Joins Go.Deep
open Go.Lib hiding intOf
/-- Stands an item behind another one? -/
def behI (x y : Itm) : Bool := decide (ordT x.s y.s < 0)
/-- An item ahead of the first one that stands behind it. -/
def putS (x : Itm) (l : List Itm) : List Itm := l.takeWhile (fun y => !behI x y) ++ x :: l.dropWhile (fun y => !behI x y)
theorem takeWhile_all {α : Type} (f : α → Bool) (l : List α) (h : ∀ x ∈ l, f x = true) : l.takeWhile f = l ∧ l.dropWhile f = [] := by
  induction l with
  | nil => exact ⟨rfl, rfl⟩
  | cons a l ih =>
    have := ih fun x hx => h x (List.mem_cons_of_mem _ hx)
    rw [List.takeWhile_cons_of_pos (h a List.mem_cons_self), List.dropWhile_cons_of_pos (h a List.mem_cons_self), this.1, this.2]
    exact ⟨rfl, rfl⟩
theorem takeWhile_snoc {α : Type} (f : α → Bool) (l : List α) (y : α) (h : ∃ x ∈ l, f x = false) : (l ++ [y]).takeWhile f = l.takeWhile f ∧ (l ++ [y]).dropWhile f = l.dropWhile f ++ [y] := by
  induction l with
  | nil => obtain ⟨x, hx, _⟩ := h; cases hx
  | cons a l ih =>
    by_cases e : f a = true
    · have := ih (by
        obtain ⟨x, hx, k⟩ := h
        rcases List.mem_cons.1 hx with q | q
        · subst q; rw [e] at k; cases k
        · exact ⟨x, q, k⟩)
      rw [List.cons_append, List.takeWhile_cons_of_pos e, List.takeWhile_cons_of_pos e, List.dropWhile_cons_of_pos e, List.dropWhile_cons_of_pos e, this.1, this.2]
      exact ⟨rfl, rfl⟩
    · rw [List.cons_append, List.takeWhile_cons_of_neg e, List.takeWhile_cons_of_neg e, List.dropWhile_cons_of_neg e, List.dropWhile_cons_of_neg e]
      exact ⟨rfl, rfl⟩
/-- What is laid down behind the items of a list: with the item, where one of them stands behind it. -/
def nxtS (x : Itm) (l : List Itm) : List Itm := if l.any (behI x) = true then putS x l else l
theorem nxtS_end (x : Itm) (l : List Itm) : (if l.any (behI x) = true then nxtS x l else nxtS x l ++ [x]) = putS x l := by
  unfold nxtS
  by_cases h : l.any (behI x) = true
  · rw [if_pos h, if_pos h]
  · rw [if_neg h, if_neg h]
    have h := Bool.eq_false_iff.2 h
    rw [List.any_eq_false] at h
    have := takeWhile_all (fun y => !behI x y) l fun y hy => by simpa using h y hy
    unfold putS
    rw [this.1, this.2]
theorem nxtS_snoc (x y : Itm) (l : List Itm) : nxtS x (l ++ [y]) = (if l.any (behI x) = true then nxtS x l else if behI x y = true then nxtS x l ++ [x] else nxtS x l) ++ [y] := by
  unfold nxtS
  rw [List.any_append, List.any_cons, List.any_nil, Bool.or_false]
  by_cases h : l.any (behI x) = true
  · rw [h, Bool.true_or, if_pos rfl, if_pos rfl]
    rw [List.any_eq_true] at h
    obtain ⟨z, hz, hb⟩ := h
    have := takeWhile_snoc (fun y => !behI x y) l y ⟨z, hz, by rw [hb]; rfl⟩
    unfold putS
    rw [this.1, this.2, if_pos rfl]
    simp
  · have h := Bool.eq_false_iff.2 h
    have e0 : (if l.any (behI x) = true then putS x l else l) = l := by rw [h]; rfl
    rw [e0, h, Bool.false_or, if_neg (show ¬ (false = true) by decide)]
    rw [List.any_eq_false] at h
    have ha := takeWhile_all (fun y => !behI x y) l fun y hy => by simpa using h y hy
    by_cases hy : behI x y = true
    · simp only [hy, if_true]
      unfold putS
      rw [List.takeWhile_append_of_pos (fun z hz => by simpa using h z hz), List.dropWhile_append_of_pos (fun z hz => by simpa using h z hz)]
      rw [List.takeWhile_cons_of_neg (by rw [hy]; decide), List.dropWhile_cons_of_neg (by rw [hy]; decide)]
      simp
    · simp only [hy, if_false]
      rfl
/-- All, one behind the other. -/
def insAll (l : List Itm) : List Itm := l.foldl (fun o x => putS x o) []
theorem insAll_snoc (l : List Itm) (x : Itm) : insAll (l ++ [x]) = putS x (insAll l) := by simp [insAll]
theorem putS_map (l : List Itm) (k : Nat) (S : List Nat) : putS (atL l k) (S.map (atL l)) = (S.takeWhile (fun j => !behI (atL l k) (atL l j)) ++ k :: S.dropWhile (fun j => !behI (atL l k) (atL l j))).map (atL l) := by
  unfold putS
  rw [List.takeWhile_map, List.dropWhile_map, List.map_append, List.map_cons]
  rfl
theorem ins_part (l : List Itm) : ∀ k, k ≤ l.length → ∃ S : List Nat, insAll (l.take k) = S.map (atL l) ∧ S.Perm (List.range k) ∧ S.Pairwise (fun a b => rnk l a ≤ rnk l b)
  | 0, _ => ⟨[], rfl, List.Perm.refl _, List.Pairwise.nil⟩
  | k + 1, hk => by
    obtain ⟨S, e, hp, hs⟩ := ins_part l k (by omega)
    have hlt : ∀ j ∈ S, j < k := fun j hj => List.mem_range.1 (hp.mem_iff.1 hj)
    obtain ⟨p, hpp⟩ : ∃ p : Nat → Bool, p = fun j => !behI (atL l k) (atL l j) := ⟨_, rfl⟩
    have hp1 : ∀ j ∈ S, p j = true → rnk l j ≤ rnk l k := fun j hj h => by
      rw [hpp] at h
      have h : ¬ ordT (atL l k).s (atL l j).s < 0 := by simpa [behI] using h
      have hj := hlt j hj
      rcases ahd_total (l := l) (show j ≠ k by omega) with q | q
      · exact Nat.le_of_lt (rnk_lt (by omega) q)
      · have := of_decide_eq_true q
        omega
    have hp0 : ∀ j ∈ S, p j = false → rnk l k ≤ rnk l j := fun j hj h => by
      rw [hpp] at h
      have h : ordT (atL l k).s (atL l j).s < 0 := by simpa [behI] using h
      exact Nat.le_of_lt (rnk_lt (by omega) (decide_eq_true (.inl h)))
    refine ⟨S.takeWhile p ++ k :: S.dropWhile p, ?_, ?_, ?_⟩
    · have e2 : l.take (k + 1) = l.take k ++ [atL l k] := by
        rw [List.take_add_one, List.getElem?_eq_getElem (by omega)]
        show _ = _ ++ [l[k]?.getD default]
        rw [List.getElem?_eq_getElem (by omega)]
        rfl
      rw [e2, insAll_snoc, e, putS_map, hpp]
    · refine (List.perm_middle).trans ?_
      rw [List.takeWhile_append_dropWhile, List.range_succ]
      exact (List.Perm.cons _ hp).trans (List.perm_append_singleton _ _).symm
    · have hsp : (S.takeWhile p ++ S.dropWhile p).Pairwise (fun a b => rnk l a ≤ rnk l b) := by rw [List.takeWhile_append_dropWhile]; exact hs
      rw [List.pairwise_append] at hsp ⊢
      obtain ⟨a1, a2, a3⟩ := hsp
      have htk : ∀ a ∈ S.takeWhile p, rnk l a ≤ rnk l k := fun a ha => hp1 a (List.takeWhile_subset _ ha) (List.all_eq_true.1 List.all_takeWhile a ha)
      refine ⟨a1, ?_, fun a ha b hb => ?_⟩
      · rw [List.pairwise_cons]
        refine ⟨fun b hb => ?_, a2⟩
        cases hd : S.dropWhile p with
        | nil => rw [hd] at hb; cases hb
        | cons c m =>
          have hc : p c = false := by
            have := List.head?_dropWhile_not p S
            rw [hd] at this
            simpa using this
          have hcS : c ∈ S := (List.dropWhile_sublist p).subset (by rw [hd]; exact List.mem_cons_self)
          have h1 := hp0 c hcS hc
          rw [hd] at hb a2
          rw [List.pairwise_cons] at a2
          rcases List.mem_cons.1 hb with q | q
          · subst q; exact h1
          · exact Nat.le_trans h1 (a2.1 b q)
      · rcases List.mem_cons.1 hb with q | q
        · subst q; exact htk a ha
        · exact a3 a ha b q
theorem insAll_sort (l : List Itm) : insAll l = sortI l := by
  obtain ⟨S, e, hp, hs⟩ := ins_part l l.length (Nat.le_refl _)
  rw [List.take_length] at e
  have := Is.fix_perm (rnk l) S (idxI l) (fun x hx y hy h => rnk_inj (List.mem_range.1 (hp.mem_iff.1 hx)) (List.mem_range.1 (hp.mem_iff.1 hy)) h) hs (idxI_pw l) (hp.trans (idxI_perm l).symm)
  rw [e, this]
  rfl
end Go.Proofs.YtmeapijckncoeaaGreatDoor
