/-
  Trees: Fill by the document's way: what it answers is what Fill answers (mathematics).
  Trees: where two differ (mathematics): strictly sorted paths are told by their members; what is collected from two maps.
  Paths: slices.SortFunc by name.Order, of any texts.
-/
import Derived.Test.YtmeapijckncoeaaGreatDoorFmC
import Derived.Test.YtmeapijckncoeaaGreatDoorPkBE
import Derived.Test.YtmeapijckncoeaaGreatDoorTdH
import Derived.Test.YtmeapijckncoeaaGreatDoorShelf
import Derived.Shelf.SlSortCmp.NoneTotal
import Derived.Sort.OwnSorted

namespace Go.Proofs.YtmeapijckncoeaaGreatDoor
set_option maxRecDepth 100000
set_option linter.unusedSimpArgs false
set_option linter.unusedVariables false
open Go.RowKit Go.Joins Go.Deep Go.WideMaps
open Go.Lib hiding intOf
theorem snoc_ind {P : List Itm → Prop} (h0 : P []) (h1 : ∀ l x, P l → P (l ++ [x])) (l : List Itm) : P l := by
  have h : ∀ r : List Itm, P r.reverse := fun r => by
    induction r with
    | nil => exact h0
    | cons x r ih => rw [List.reverse_cons]; exact h1 _ _ ih
  have := h l.reverse
  rwa [List.reverse_reverse] at this
theorem knB_iff (kn : List ByteArray) (a : ByteArray) : knB kn a = true ↔ a ∈ kn := by
  unfold knB
  rw [List.any_eq_true]
  constructor
  · rintro ⟨s, hs, h⟩; rw [← toList_inj' (eq_of_beq h)]; exact hs
  · intro h; exact ⟨a, h, by simp⟩
/-- Items of one path. -/
def pthI (p : ByteArray) (l : List Itm) : List Itm := l.filter fun x => x.s.toList == p.toList
theorem pth_cons (p : ByteArray) (a : Itm) (l : List Itm) : pthI p (a :: l) = (if (a.s.toList == p.toList) = true then a :: pthI p l else pthI p l) := by
  unfold pthI
  rw [List.filter_cons]
theorem pth_app (p : ByteArray) (l m : List Itm) : pthI p (l ++ m) = pthI p l ++ pthI p m := List.filter_append ..
theorem pth_self (a : Itm) (l : List Itm) : pthI a.s (a :: l) = a :: pthI a.s l := by rw [pth_cons, if_pos (by simp)]
theorem pth_mem {p : ByteArray} {a : Itm} {l : List Itm} (h : a ∈ pthI p l) : a ∈ l := (List.mem_filter.1 h).1
/-- In order, items are told by those of each path. -/
theorem srt_eq : ∀ (l m : List Itm), l.Pairwise (fun a b => ordT a.s b.s ≤ 0) → m.Pairwise (fun a b => ordT a.s b.s ≤ 0) → (∀ p, pthI p l = pthI p m) → l = m
  | [], [], _, _, _ => rfl
  | [], b :: m, _, _, h => by have := h b.s; rw [pth_self] at this; cases this
  | a :: l, [], _, _, h => by have := h a.s; rw [pth_self] at this; cases this
  | a :: l, b :: m, h1, h2, h => by
    rw [List.pairwise_cons] at h1 h2
    have hab : a.s = b.s := by
      have ha : a ∈ b :: m := pth_mem (p := a.s) (by rw [← h, pth_self]; exact List.mem_cons_self)
      have hb : b ∈ a :: l := pth_mem (p := b.s) (by rw [h, pth_self]; exact List.mem_cons_self)
      rcases List.mem_cons.1 ha with e | e
      · rw [e]
      rcases List.mem_cons.1 hb with e2 | e2
      · rw [e2]
      refine ord_zero ?_
      have x1 := h2.1 a e
      have x2 := h1.1 b e2
      rw [ordT_neg] at x1
      omega
    have e : a = b := by
      have := h a.s
      rw [pth_self, hab, pth_self] at this
      exact (List.cons.inj this).1
    subst e
    rw [srt_eq l m h1.2 h2.2 fun p => by
      have := h p
      rw [pth_cons, pth_cons] at this
      split at this
      · exact (List.cons.inj this).2
      · exact this]
theorem putS_pth (p : ByteArray) (x : Itm) (l : List Itm) (hs : l.Pairwise (fun a b => ordT a.s b.s ≤ 0)) : pthI p (putS x l) = pthI p l ++ (if (x.s.toList == p.toList) = true then [x] else []) := by
  have hl : l = l.takeWhile (fun y => !behI x y) ++ l.dropWhile (fun y => !behI x y) := List.takeWhile_append_dropWhile.symm
  have e0 : pthI p l = pthI p (l.takeWhile (fun y => !behI x y)) ++ pthI p (l.dropWhile (fun y => !behI x y)) := by rw [← pth_app, ← hl]
  unfold putS
  rw [pth_app, pth_cons, e0]
  by_cases h : (x.s.toList == p.toList) = true
  · rw [if_pos h, if_pos h]
    have hp : x.s = p := toList_inj' (eq_of_beq h)
    have hn : pthI p (l.dropWhile (fun y => !behI x y)) = [] := by
      rw [hl, List.pairwise_append] at hs
      obtain ⟨_, hs, _⟩ := hs
      cases hd : l.dropWhile (fun y => !behI x y) with
      | nil => rfl
      | cons c m =>
        have hc : ordT x.s c.s < 0 := by
          have := List.head?_dropWhile_not (fun y => !behI x y) l
          rw [hd] at this
          simpa [behI] using this
        rw [hd, List.pairwise_cons] at hs
        refine List.filter_eq_nil_iff.2 fun y hy k => ?_
        have hy2 : y.s = x.s := (toList_inj' (eq_of_beq k)).trans hp.symm
        rcases List.mem_cons.1 hy with q | q
        · rw [← q, hy2, ordT_self] at hc; omega
        · have := hs.1 y q
          rw [hy2, ordT_neg] at this
          omega
    rw [hn]
    simp
  · rw [if_neg h, if_neg h, List.append_nil]
theorem sort_snoc (l : List Itm) (x : Itm) : sortI (l ++ [x]) = putS x (sortI l) := by rw [← insAll_sort, ← insAll_sort, insAll_snoc]
theorem pth_sort (p : ByteArray) (l : List Itm) : pthI p (sortI l) = pthI p l := by
  refine snoc_ind (P := fun l => pthI p (sortI l) = pthI p l) ?_ ?_ l
  · rw [List.eq_nil_of_length_eq_zero (l := sortI []) (by rw [sortI_len]; rfl)]
  · intro l x ih
    rw [sort_snoc, putS_pth p x _ (sortI_pw l), ih, pth_app]
    rw [pth_cons]
    rfl
theorem fnd_pth (l : List Itm) (p : ByteArray) : fndQ l p = (pthI p l).head? := by
  unfold fndQ pthI
  rw [List.head?_filter]
theorem fnd_sort (l : List Itm) (p : ByteArray) : fndQ (sortI l) p = fndQ l p := by rw [fnd_pth, fnd_pth, pth_sort]
theorem hasP_fnd (l : List Itm) (p : ByteArray) : hasP l p = (fndQ l p).isSome := by
  unfold hasP fndQ
  rw [Bool.eq_iff_iff, List.find?_isSome, List.any_eq_true]
theorem hasP_sort (l : List Itm) (p : ByteArray) : hasP (sortI l) p = hasP l p := by rw [hasP_fnd, hasP_fnd, fnd_sort]
/-- What puts an item puts it ahead of the first one behind it, of those of other paths. -/
theorem putL_putS (l : List Itm) (y : Itm) : putL l y = putS y (putR l y.s) := by
  have hq : (fun x => !(!behI y x)) = putQ y.s := by
    funext x
    rw [Bool.not_not]
    unfold behI putQ
    refine decide_eq_decide.2 ?_
    rw [ordT_neg]
    omega
  unfold putL putS insI
  rw [List.takeWhile_eq_take_findIdx_not, List.dropWhile_eq_drop_findIdx_not, hq]
theorem putR_none {l : List Itm} {p : ByteArray} (h : fndQ l p = none) : putR l p = l := by
  unfold putR
  refine List.filter_eq_self.2 fun x hx => ?_
  have := List.find?_eq_none.1 h x hx
  simpa using this
/-- With directories of these paths. -/
def addD (D : Itm) (t : List Itm) (L : List ByteArray) : List Itm := sortI (t ++ L.map D.at)
theorem addD_nil (D : Itm) (t : List Itm) : addD D t [] = sortI t := by unfold addD; rw [List.map_nil, List.append_nil]
theorem pth_ats (D : Itm) (p : ByteArray) : ∀ L : List ByteArray, L.Nodup → pthI p (L.map D.at) = if knB L p = true then [D.at p] else []
  | [], _ => rfl
  | a :: L, h => by
    rw [List.nodup_cons] at h
    rw [List.map_cons, pth_cons, pth_ats D p L h.2]
    by_cases e : a = p
    · subst e
      rw [if_pos (show ((D.at a).s.toList == a.toList) = true from by simp [Itm.at]), if_neg (fun k => h.1 ((knB_iff _ _).1 k)), if_pos ((knB_iff _ _).2 (List.mem_cons_self))]
    · rw [if_neg (show ¬ ((D.at a).s.toList == p.toList) = true from fun k => e (toList_inj' (eq_of_beq k)))]
      by_cases hp : knB L p = true
      · rw [if_pos hp, if_pos ((knB_iff _ _).2 (List.mem_cons_of_mem _ ((knB_iff _ _).1 hp)))]
      · rw [if_neg hp, if_neg (fun k => by rcases List.mem_cons.1 ((knB_iff _ _).1 k) with q | q; exact e q.symm; exact hp ((knB_iff _ _).2 q))]
theorem addD_eq (D : Itm) (t : List Itm) {L M : List ByteArray} (hL : L.Nodup) (hM : M.Nodup) (h : ∀ p, p ∈ L ↔ p ∈ M) : addD D t L = addD D t M := by
  refine srt_eq _ _ (sortI_pw _) (sortI_pw _) fun p => ?_
  unfold addD
  rw [pth_sort, pth_sort, pth_app, pth_app, pth_ats D p L hL, pth_ats D p M hM]
  by_cases hp : p ∈ L
  · rw [if_pos ((knB_iff _ _).2 hp), if_pos ((knB_iff _ _).2 ((h p).1 hp))]
  · rw [if_neg (fun k => hp ((knB_iff _ _).1 k)), if_neg (fun k => hp ((h p).2 ((knB_iff _ _).1 k)))]
theorem addD_fnd (D : Itm) (t : List Itm) {L : List ByteArray} (hL : L.Nodup) (p : ByteArray) : fndQ (addD D t L) p = match fndQ t p with | some X => some X | none => if knB L p = true then some (D.at p) else none := by
  unfold addD
  rw [fnd_sort]
  unfold fndQ
  rw [List.find?_append]
  have h2 : (L.map D.at).find? (fun X => X.s.toList == p.toList) = if knB L p = true then some (D.at p) else none := by
    show fndQ _ _ = _
    rw [fnd_pth, pth_ats D p L hL]
    split <;> rfl
  rw [h2]
  cases t.find? (fun X => X.s.toList == p.toList) with
  | some X => rfl
  | none => rfl
theorem addD_put (D : Itm) (t : List Itm) (L : List ByteArray) (a : ByteArray) (h : fndQ (addD D t L) a = none) : putL (addD D t L) (D.at a) = addD D t (L ++ [a]) := by
  rw [putL_putS, show (D.at a).s = a from rfl, putR_none h]
  unfold addD
  rw [← sort_snoc, List.map_append, List.append_assoc]
  rfl
/-! ### the document's way -/
/-- The directories of one path's chain. -/
def rfW (s : List Itm) (D : Itm) : List ByteArray → List Itm → Option (List Itm)
  | [], out => some out
  | a :: r, out => match fndQ out a with
    | some X => if X.k ≠ 1 ∧ hasP s a = true then none else rfW s D r out
    | none => rfW s D r (putL out (D.at a))
def rfA (s : List Itm) (D : Itm) (l : List Itm) : Option (List Itm) := l.foldl (fun o x => o.bind (rfW s D (chn (parB x.s)))) (some s)
theorem rfA_snoc (s : List Itm) (D : Itm) (l : List Itm) (x : Itm) : rfA s D (l ++ [x]) = (rfA s D l).bind (rfW s D (chn (parB x.s))) := by simp [rfA]
theorem rf_none (s : List Itm) (D : Itm) : ∀ l : List Itm, l.foldl (fun o x => o.bind (rfW s D (chn (parB x.s)))) (none : Option (List Itm)) = none
  | [] => rfl
  | x :: l => by rw [List.foldl_cons]; exact rf_none s D l
theorem rfA_none {s : List Itm} {D : Itm} {l m : List Itm} (h : rfA s D l = none) : rfA s D (l ++ m) = none := by
  unfold rfA at h ⊢
  rw [List.foldl_append, h]
  exact rf_none s D m
/-- Is a path one of something else than a directory? -/
def badP (t : List Itm) (a : ByteArray) : Prop := ∃ X, fndQ t a = some X ∧ X.k ≠ 1
theorem rfW_spec (D : Itm) (t : List Itm) : ∀ (r L : List ByteArray), L.Nodup → (∀ a ∈ L, hasP t a = false) →
    (rfW (sortI t) D r (addD D t L) = none ∧ ∃ a ∈ r, badP t a) ∨
    (∃ M, rfW (sortI t) D r (addD D t L) = some (addD D t M) ∧ M.Nodup ∧ (∀ a, a ∈ M ↔ a ∈ L ∨ (hasP t a = false ∧ a ∈ r)) ∧ ∀ a ∈ r, ¬ badP t a)
  | [], L, hL, _ => .inr ⟨L, rfl, hL, fun a => ⟨.inl, fun h => by rcases h with h | h; exact h; cases h.2⟩, fun a h => by cases h⟩
  | a :: r, L, hL, hn => by
    have hf := addD_fnd D t hL a
    unfold rfW
    rw [hasP_sort]
    cases e : fndQ t a with
    | some X =>
      rw [e] at hf
      rw [hf]
      have hh : hasP t a = true := by rw [hasP_fnd, e]; rfl
      show (if X.k ≠ 1 ∧ hasP t a = true then none else rfW (sortI t) D r (addD D t L)) = none ∧ _ ∨ _
      by_cases hk : X.k = 1
      · simp only [if_neg (show ¬ (X.k ≠ 1 ∧ hasP t a = true) from fun k => k.1 hk)]
        rcases rfW_spec D t r L hL hn with ⟨h, b, hb, hbad⟩ | ⟨M, h, hM, hm, hg⟩
        · exact .inl ⟨h, b, List.mem_cons_of_mem _ hb, hbad⟩
        · refine .inr ⟨M, h, hM, fun b => ?_, fun b hb => ?_⟩
          · rw [hm]
            constructor
            · rintro (q | q)
              · exact .inl q
              · exact .inr ⟨q.1, List.mem_cons_of_mem _ q.2⟩
            · rintro (q | ⟨q, w⟩)
              · exact .inl q
              · rcases List.mem_cons.1 w with w | w
                · subst w; rw [hh] at q; cases q
                · exact .inr ⟨q, w⟩
          · rcases List.mem_cons.1 hb with q | q
            · subst q
              rintro ⟨Y, h1, h2⟩
              rw [e] at h1
              injection h1 with h1
              subst h1
              exact h2 hk
            · exact hg b q
      · exact .inl ⟨if_pos ⟨hk, hh⟩, a, List.mem_cons_self, X, e, hk⟩
    | none =>
      rw [e] at hf
      have hh : hasP t a = false := by rw [hasP_fnd, e]; rfl
      have hnb : ¬ badP t a := by rintro ⟨Y, h1, _⟩; rw [e] at h1; cases h1
      by_cases hp : a ∈ L
      · rw [hf]
        rw [if_pos ((knB_iff _ _).2 hp)]
        show (if (D.at a).k ≠ 1 ∧ hasP t a = true then none else rfW (sortI t) D r (addD D t L)) = none ∧ _ ∨ ∃ M, (if (D.at a).k ≠ 1 ∧ hasP t a = true then none else rfW (sortI t) D r (addD D t L)) = _ ∧ _
        rw [if_neg (show ¬ ((D.at a).k ≠ 1 ∧ hasP t a = true) from fun k => by rw [hh] at k; cases k.2)]
        rcases rfW_spec D t r L hL hn with ⟨h, b, hb, hbad⟩ | ⟨M, h, hM, hm, hg⟩
        · exact .inl ⟨h, b, List.mem_cons_of_mem _ hb, hbad⟩
        · refine .inr ⟨M, h, hM, fun b => ?_, fun b hb => ?_⟩
          · rw [hm]
            constructor
            · rintro (q | q)
              · exact .inl q
              · exact .inr ⟨q.1, List.mem_cons_of_mem _ q.2⟩
            · rintro (q | ⟨q, w⟩)
              · exact .inl q
              · rcases List.mem_cons.1 w with w | w
                · subst w; exact .inl hp
                · exact .inr ⟨q, w⟩
          · rcases List.mem_cons.1 hb with q | q
            · subst q; exact hnb
            · exact hg b q
      · have hf2 : fndQ (addD D t L) a = none := by rw [hf]; exact if_neg (fun k => hp ((knB_iff _ _).1 k))
        rw [hf2]
        simp only [addD_put D t L a hf2]
        have hL2 : (L ++ [a]).Nodup := List.nodup_append.2 ⟨hL, by simp, fun x hx y hy => by rw [List.mem_singleton] at hy; subst hy; intro k; subst k; exact hp hx⟩
        rcases rfW_spec D t r (L ++ [a]) hL2 (fun b hb => by
          rcases List.mem_append.1 hb with q | q
          · exact hn b q
          · rw [List.mem_singleton] at q; subst q; exact hh) with ⟨h, b, hb, hbad⟩ | ⟨M, h, hM, hm, hg⟩
        · exact .inl ⟨h, b, List.mem_cons_of_mem _ hb, hbad⟩
        · refine .inr ⟨M, h, hM, fun b => ?_, fun b hb => ?_⟩
          · rw [hm, List.mem_append, List.mem_singleton, List.mem_cons]
            constructor
            · rintro ((q | q) | q)
              · exact .inl q
              · subst q; exact .inr ⟨hh, .inl rfl⟩
              · exact .inr ⟨q.1, .inr q.2⟩
            · rintro (q | ⟨q, w | w⟩)
              · exact .inl (.inl q)
              · exact .inl (.inr w)
              · exact .inr ⟨q, w⟩
          · rcases List.mem_cons.1 hb with q | q
            · subst q; exact hnb
            · exact hg b q
theorem rfA_spec (D : Itm) (t : List Itm) (l : List Itm) :
    (rfA (sortI t) D l = none ∧ ∃ x ∈ l, ∃ a ∈ chn (parB x.s), badP t a) ∨
    (∃ L, rfA (sortI t) D l = some (addD D t L) ∧ L.Nodup ∧ (∀ a, a ∈ L ↔ hasP t a = false ∧ ∃ x ∈ l, a ∈ chn (parB x.s)) ∧ ∀ x ∈ l, ∀ a ∈ chn (parB x.s), ¬ badP t a) := by
  refine snoc_ind (P := fun l => (rfA (sortI t) D l = none ∧ ∃ x ∈ l, ∃ a ∈ chn (parB x.s), badP t a) ∨
    (∃ L, rfA (sortI t) D l = some (addD D t L) ∧ L.Nodup ∧ (∀ a, a ∈ L ↔ hasP t a = false ∧ ∃ x ∈ l, a ∈ chn (parB x.s)) ∧ ∀ x ∈ l, ∀ a ∈ chn (parB x.s), ¬ badP t a)) ?_ ?_ l
  · exact .inr ⟨[], by rw [addD_nil]; rfl, List.nodup_nil, fun a => ⟨fun h => (by cases h), fun h => by obtain ⟨_, x, hx, _⟩ := h; cases hx⟩, fun x hx => by cases hx⟩
  · intro l x ih
    rcases ih with ⟨h, y, hy, hb⟩ | ⟨L, h, hL, hm, hg⟩
    · exact .inl ⟨rfA_none h, y, List.mem_append_left _ hy, hb⟩
    · rw [rfA_snoc, h]
      show rfW _ _ _ _ = none ∧ _ ∨ ∃ M, rfW _ _ _ _ = _ ∧ _
      rcases rfW_spec D t (chn (parB x.s)) L hL (fun a ha => ((hm a).1 ha).1) with ⟨h2, hb⟩ | ⟨M, h2, hM, hm2, hg2⟩
      · exact .inl ⟨h2, x, List.mem_append_right _ (List.mem_singleton.2 rfl), hb⟩
      · refine .inr ⟨M, h2, hM, fun a => ?_, fun y hy => ?_⟩
        · rw [hm2, hm]
          constructor
          · rintro (⟨q, y, hy, w⟩ | ⟨q, w⟩)
            · exact ⟨q, y, List.mem_append_left _ hy, w⟩
            · exact ⟨q, x, List.mem_append_right _ (List.mem_singleton.2 rfl), w⟩
          · rintro ⟨q, y, hy, w⟩
            rcases List.mem_append.1 hy with hy | hy
            · exact .inl ⟨q, y, hy, w⟩
            · rw [List.mem_singleton] at hy; subst hy; exact .inr ⟨q, w⟩
        · rcases List.mem_append.1 hy with hy | hy
          · exact hg y hy
          · rw [List.mem_singleton] at hy; subst hy; exact hg2
/-! ### Fill's way -/
theorem chn_sub : ∀ (n : Nat) (q a b : ByteArray), q.size ≤ n → a ∈ chn q → b ∈ chn a → b ∈ chn q
  | 0, q, a, b, hn, ha, _ => by rw [chn_nil (by omega)] at ha; cases ha
  | n + 1, q, a, b, hn, ha, hb => by
    by_cases h : q.size = 0
    · rw [chn_nil h] at ha; cases ha
    · have hs := par_size q h
      rw [chn_cons h] at ha ⊢
      rcases List.mem_cons.1 ha with e | e
      · subst e; rw [chn_cons h] at hb; exact hb
      · exact List.mem_cons_of_mem _ (chn_sub n (parB q) a b (by omega) e hb)
def ClsP (kn : List ByteArray) : Prop := ∀ a ∈ kn, ∀ b ∈ chn a, b ∈ kn
def newP (t : List Itm) (kn : List ByteArray) : List ByteArray := kn.filter fun a => !hasP t a
theorem newP_app (t : List Itm) (k l : List ByteArray) : newP t (k ++ l) = newP t k ++ newP t l := List.filter_append ..
theorem impW_spec (t : List Itm) : ∀ (n : Nat) (q : ByteArray), q.size ≤ n → ∀ (k0 pre out : List ByteArray), ClsP k0 → (∀ p ∈ pre, q.size < p.size) →
    (impW t (chn q) (k0 ++ pre, out) = none ∧ ∃ a ∈ chn q, badP t a) ∨
    (∃ new, impW t (chn q) (k0 ++ pre, out) = some (k0 ++ (pre ++ new), out ++ newP t new) ∧ new.Nodup ∧ (∀ a ∈ new, a ∉ k0 ∧ a.size ≤ q.size ∧ a ∈ chn q ∧ ¬ badP t a) ∧ ∀ a ∈ chn q, a ∈ k0 ∨ a ∈ new) := by
  intro n
  induction n with
  | zero =>
    intro q hn k0 pre out _ _
    rw [chn_nil (by omega)]
    exact .inr ⟨[], by simp [impW, newP], List.nodup_nil, fun a h => (by cases h), fun a h => by cases h⟩
  | succ n ih =>
    intro q hn k0 pre out hc hpre
    by_cases hq : q.size = 0
    · rw [chn_nil hq]
      exact .inr ⟨[], by simp [impW, newP], List.nodup_nil, fun a h => (by cases h), fun a h => by cases h⟩
    · have hs := par_size q hq
      rw [chn_cons hq]
      unfold impW
      by_cases hk : q ∈ k0
      · rw [if_pos ((knB_iff _ _).2 (List.mem_append_left _ hk))]
        refine .inr ⟨[], by simp [newP], List.nodup_nil, fun a h => (by cases h), fun a h => .inl ?_⟩
        exact hc q hk a (by rw [chn_cons hq]; exact h)
      · have hk2 : q ∉ k0 ++ pre := fun k => by
          rcases List.mem_append.1 k with k | k
          · exact hk k
          · have := hpre q k; omega
        rw [if_neg (fun k => hk2 ((knB_iff _ _).1 k))]
        have hpre2 : ∀ p ∈ pre ++ [q], (parB q).size < p.size := fun p hp => by
          rcases List.mem_append.1 hp with h | h
          · have := hpre p h; omega
          · rw [List.mem_singleton] at h; subst h; exact hs
        have fin : ∀ out2, newP t [q] = out2 → ¬ badP t q →
            (impW t (chn (parB q)) (k0 ++ pre ++ [q], out ++ out2) = none ∧ ∃ a ∈ q :: chn (parB q), badP t a) ∨
            (∃ new, impW t (chn (parB q)) (k0 ++ pre ++ [q], out ++ out2) = some (k0 ++ (pre ++ new), out ++ newP t new) ∧ new.Nodup ∧ (∀ a ∈ new, a ∉ k0 ∧ a.size ≤ q.size ∧ a ∈ q :: chn (parB q) ∧ ¬ badP t a) ∧ ∀ a ∈ q :: chn (parB q), a ∈ k0 ∨ a ∈ new) := by
          intro out2 ho hnb
          rw [List.append_assoc]
          rcases ih (parB q) (by omega) k0 (pre ++ [q]) (out ++ out2) hc hpre2 with ⟨h, a, ha, hb⟩ | ⟨new, h, hnd, h1, h2⟩
          · exact .inl ⟨h, a, List.mem_cons_of_mem _ ha, hb⟩
          · refine .inr ⟨q :: new, ?_, ?_, ?_, ?_⟩
            · rw [h, ← ho, List.append_assoc, List.append_assoc, List.singleton_append]
              have : newP t (q :: new) = newP t [q] ++ newP t new := newP_app t [q] new
              rw [this]
            · rw [List.nodup_cons]
              exact ⟨fun k => by have := (h1 q k).2.1; omega, hnd⟩
            · intro a ha
              rcases List.mem_cons.1 ha with e | e
              · subst e; exact ⟨hk, Nat.le_refl _, List.mem_cons_self, hnb⟩
              · obtain ⟨x1, x2, x3, x4⟩ := h1 a e
                exact ⟨x1, by omega, List.mem_cons_of_mem _ x3, x4⟩
            · intro a ha
              rcases List.mem_cons.1 ha with e | e
              · subst e; exact .inr List.mem_cons_self
              · rcases h2 a e with h | h
                · exact .inl h
                · exact .inr (List.mem_cons_of_mem _ h)
        cases e : fndQ t q with
        | some X =>
          have hh : hasP t q = true := by rw [hasP_fnd, e]; rfl
          by_cases hk1 : X.k = 1
          · simp only [if_pos hk1]
            have := fin [] (by unfold newP; rw [List.filter_cons, hh]; rfl) (by rintro ⟨Y, h1, h2⟩; rw [e] at h1; injection h1 with h1; subst h1; exact h2 hk1)
            rw [List.append_nil] at this
            exact this
          · simp only [if_neg hk1]
            exact .inl ⟨trivial, q, List.mem_cons_self, X, e, hk1⟩
        | none =>
          have hh : hasP t q = false := by rw [hasP_fnd, e]; rfl
          exact fin [q] (by unfold newP; rw [List.filter_cons, hh]; rfl) (by rintro ⟨Y, h1, _⟩; rw [e] at h1; cases h1)
theorem impA_spec (t l : List Itm) :
    (impA t l = none ∧ ∃ x ∈ l, ∃ a ∈ chn (parB x.s), badP t a) ∨
    (∃ kn, impA t l = some (kn, newP t kn) ∧ kn.Nodup ∧ ClsP kn ∧ (∀ a, a ∈ kn ↔ ∃ x ∈ l, a ∈ chn (parB x.s)) ∧ ∀ a ∈ kn, ¬ badP t a) := by
  refine snoc_ind (P := fun l => (impA t l = none ∧ ∃ x ∈ l, ∃ a ∈ chn (parB x.s), badP t a) ∨
    (∃ kn, impA t l = some (kn, newP t kn) ∧ kn.Nodup ∧ ClsP kn ∧ (∀ a, a ∈ kn ↔ ∃ x ∈ l, a ∈ chn (parB x.s)) ∧ ∀ a ∈ kn, ¬ badP t a)) ?_ ?_ l
  · exact .inr ⟨[], rfl, List.nodup_nil, fun a h => (by cases h), fun a => ⟨fun h => (by cases h), fun h => by obtain ⟨x, hx, _⟩ := h; cases hx⟩, fun x hx => by cases hx⟩
  · intro l x ih
    rcases ih with ⟨h, y, hy, hb⟩ | ⟨kn, h, hL, hc, hm, hg⟩
    · exact .inl ⟨impA_none h, y, List.mem_append_left _ hy, hb⟩
    · rw [impA_snoc, h]
      show impW _ _ _ = none ∧ _ ∨ ∃ M, impW _ _ _ = _ ∧ _
      have := impW_spec t _ (parB x.s) (Nat.le_refl _) kn [] (newP t kn) hc (fun p hp => by cases hp)
      rw [List.append_nil] at this
      rcases this with ⟨h2, hb⟩ | ⟨new, h2, hnd, h3, h4⟩
      · exact .inl ⟨h2, x, List.mem_append_right _ (List.mem_singleton.2 rfl), hb⟩
      · have hmem : ∀ a, a ∈ kn ++ new ↔ ∃ y ∈ l ++ [x], a ∈ chn (parB y.s) := fun a => by
          rw [List.mem_append, hm]
          constructor
          · rintro (⟨y, hy, w⟩ | w)
            · exact ⟨y, List.mem_append_left _ hy, w⟩
            · exact ⟨x, List.mem_append_right _ (List.mem_singleton.2 rfl), (h3 a w).2.2.1⟩
          · rintro ⟨y, hy, w⟩
            rcases List.mem_append.1 hy with hy | hy
            · exact .inl ⟨y, hy, w⟩
            · rw [List.mem_singleton] at hy; subst hy
              rcases h4 a w with q | q
              · exact .inl ((hm a).1 q)
              · exact .inr q
        refine .inr ⟨kn ++ new, ?_, ?_, ?_, hmem, ?_⟩
        · rw [h2, List.nil_append, newP_app]
        · refine List.nodup_append.2 ⟨hL, hnd, fun a ha b hb k => ?_⟩
          subst k
          exact (h3 a hb).1 ha
        · intro a ha b hb
          rw [hmem] at ha ⊢
          obtain ⟨y, hy, w⟩ := ha
          exact ⟨y, hy, chn_sub _ _ a b (Nat.le_refl _) w hb⟩
        · intro a ha
          rcases List.mem_append.1 ha with q | q
          · exact hg a q
          · exact (h3 a q).2.2.2
/-- What the document's Fill answers. -/
def rfV (D : Itm) (t : List Itm) : List Itm × Bool := match rfA (sortI t) D (sortI t) with
  | some o => (o, true)
  | none => (sortI t, false)
theorem rfV_eq (D : Itm) (t : List Itm) : rfV D t = (filL D t, impB t) := by
  have hp : ∀ x, x ∈ sortI t ↔ x ∈ t := fun x => (sortI_perm t).mem_iff
  unfold rfV filL impL impB impO
  rcases rfA_spec D t (sortI t) with ⟨h, x, hx, a, ha, hb⟩ | ⟨L, h, hL, hm, hg⟩
  · rcases impA_spec t t with ⟨h2, _⟩ | ⟨kn, h2, _, _, hm2, hg2⟩
    · rw [h, h2]
      simp
    · exact absurd hb (hg2 a ((hm2 a).2 ⟨x, (hp x).1 hx, ha⟩))
  · rcases impA_spec t t with ⟨h2, x, hx, a, ha, hb⟩ | ⟨kn, h2, hk, _, hm2, hg2⟩
    · exact absurd hb (hg x ((hp x).2 hx) a ha)
    · rw [h, h2]
      show (addD D t L, true) = (sortI (t ++ (newP t kn).map D.at), true)
      rw [addD_eq D t hL (M := newP t kn) (hk.filter _) fun a => ?_]
      · rfl
      · rw [hm]
        unfold newP
        rw [List.mem_filter, hm2]
        constructor
        · rintro ⟨q, x, hx, w⟩; exact ⟨⟨x, (hp x).1 hx, w⟩, by rw [q]; rfl⟩
        · rintro ⟨⟨x, hx, w⟩, q⟩; exact ⟨by simpa using q, x, (hp x).2 hx, w⟩
end Go.Proofs.YtmeapijckncoeaaGreatDoor

namespace Go.Proofs.YtmeapijckncoeaaGreatDoor
set_option maxRecDepth 100000
set_option linter.unusedSimpArgs false
set_option linter.unusedVariables false
open Go.RowKit Go.Joins Go.Deep Go.WideMaps
open Go.Lib hiding intOf
/-- Strictly sorted paths with the same members are one list. -/
theorem strict_eq : ∀ (l m : List ByteArray), l.Pairwise (fun a b => ordT a b < 0) → m.Pairwise (fun a b => ordT a b < 0) → (∀ p, p ∈ l ↔ p ∈ m) → l = m
  | [], [], _, _, _ => rfl
  | [], b :: m, _, _, h => by cases (h b).2 (List.mem_cons_self)
  | a :: l, [], _, _, h => by cases (h a).1 (List.mem_cons_self)
  | a :: l, b :: m, h1, h2, h => by
    rw [List.pairwise_cons] at h1 h2
    have hab : a = b := by
      rcases List.mem_cons.1 ((h a).1 List.mem_cons_self) with e | e
      · exact e
      rcases List.mem_cons.1 ((h b).2 List.mem_cons_self) with e2 | e2
      · exact e2.symm
      have x := h2.1 a e
      have y := h1.1 b e2
      rw [ordT_neg] at y
      omega
    subst hab
    rw [strict_eq l m h1.2 h2.2 fun p => ?_]
    have hp := h p
    rw [List.mem_cons, List.mem_cons] at hp
    constructor
    · intro k
      rcases hp.1 (.inr k) with e | e
      · subst e
        have := h1.1 _ k
        rw [ordT_self] at this
        omega
      · exact e
    · intro k
      rcases hp.2 (.inr k) with e | e
      · subst e
        have := h2.1 _ k
        rw [ordT_self] at this
        omega
      · exact e
theorem lst_snoc (l : List ByteArray) (p : ByteArray) : lstT (l ++ [p]) = p := by
  unfold lstT
  rw [List.length_append, List.length_singleton, Nat.add_sub_cancel, List.getElem?_append_right (Nat.le_refl _), Nat.sub_self]
  rfl
/-- The last of what is strictly sorted stands at or behind each. -/
theorem lst_ge {l : List ByteArray} (h : l.Pairwise (fun a b => ordT a b < 0)) {p : ByteArray} (hp : p ∈ l) : 0 < l.length ∧ lstT l ∈ l ∧ ordT p (lstT l) ≤ 0 := by
  obtain ⟨i, hi, rfl⟩ := List.getElem_of_mem hp
  have e : lstT l = l[l.length - 1]'(by omega) := by
    unfold lstT
    rw [List.getElem?_eq_getElem (by omega)]
    rfl
  refine ⟨by omega, by rw [e]; exact List.getElem_mem _, ?_⟩
  rw [e]
  rcases Nat.lt_or_ge i (l.length - 1) with h1 | h1
  · exact Int.le_of_lt (List.pairwise_iff_getElem.1 h i (l.length - 1) hi (by omega) h1)
  · have : i = l.length - 1 := by omega
    subst this
    rw [ordT_self]
    omega
theorem dif_spec (a b : List Itm) (S : List Itm) : S.Pairwise (fun a b => ordT a.s b.s ≤ 0) → (difS a b S).Pairwise (fun a b => ordT a b < 0) ∧ ∀ p, p ∈ difS a b S ↔ (∃ x ∈ S, x.s = p) ∧ alkB a b p = false := by
  refine snoc_ind (P := fun S => S.Pairwise (fun a b => ordT a.s b.s ≤ 0) → (difS a b S).Pairwise (fun a b => ordT a b < 0) ∧ ∀ p, p ∈ difS a b S ↔ (∃ x ∈ S, x.s = p) ∧ alkB a b p = false) ?_ ?_ S
  · intro _
    refine ⟨List.Pairwise.nil, fun p => ?_⟩
    constructor
    · intro h; cases h
    · rintro ⟨⟨x, hx, _⟩, _⟩; cases hx
  · intro l x ih hs
    rw [List.pairwise_append] at hs
    obtain ⟨h1, h2⟩ := ih hs.1
    have hle : ∀ y ∈ l, ordT y.s x.s ≤ 0 := fun y hy => hs.2.2 y hy x (List.mem_singleton.2 rfl)
    rw [dif_snoc]
    unfold difT
    by_cases hA : alkB a b x.s = true
    · rw [if_pos (by rw [hA]; rfl)]
      refine ⟨h1, fun p => ?_⟩
      rw [h2 p]
      constructor
      · rintro ⟨⟨y, hy, e⟩, k⟩
        exact ⟨⟨y, List.mem_append_left _ hy, e⟩, k⟩
      · rintro ⟨⟨y, hy, e⟩, k⟩
        rcases List.mem_append.1 hy with hy | hy
        · exact ⟨⟨y, hy, e⟩, k⟩
        · rw [List.mem_singleton] at hy
          subst hy
          subst e
          rw [hA] at k
          cases k
    have hA : alkB a b x.s = false := Bool.eq_false_iff.2 hA
    by_cases hL : lstB (difS a b l) x.s = true
    · rw [if_pos (by rw [hL, Bool.or_true])]
      refine ⟨h1, fun p => ?_⟩
      unfold lstB at hL
      rw [Bool.and_eq_true, decide_eq_true_eq] at hL
      have hx : lstT (difS a b l) = x.s := toList_inj' (eq_of_beq hL.2)
      have hin : x.s ∈ difS a b l := by
        have h0 : (difS a b l)[0]'hL.1 ∈ difS a b l := List.getElem_mem _
        rw [← hx]
        exact (lst_ge h1 h0).2.1
      rw [h2 p]
      constructor
      · rintro ⟨⟨y, hy, e⟩, k⟩
        exact ⟨⟨y, List.mem_append_left _ hy, e⟩, k⟩
      · rintro ⟨⟨y, hy, e⟩, k⟩
        rcases List.mem_append.1 hy with hy | hy
        · exact ⟨⟨y, hy, e⟩, k⟩
        · rw [List.mem_singleton] at hy
          subst hy
          subst e
          exact (h2 _).1 hin
    have hL : lstB (difS a b l) x.s = false := Bool.eq_false_iff.2 hL
    rw [if_neg (by rw [hA, hL]; decide)]
    have hlt : ∀ d ∈ difS a b l, ordT d x.s < 0 := by
      intro d hd
      obtain ⟨⟨y, hy, e⟩, _⟩ := (h2 d).1 hd
      have hdx : ordT d x.s ≤ 0 := by rw [← e]; exact hle y hy
      obtain ⟨h0, hm, hg⟩ := lst_ge h1 hd
      obtain ⟨⟨z, hz, e2⟩, _⟩ := (h2 _).1 hm
      have hlx : ordT (lstT (difS a b l)) x.s ≤ 0 := by rw [← e2]; exact hle z hz
      have hne : lstT (difS a b l) ≠ x.s := fun k => by
        unfold lstB at hL
        rw [k, decide_eq_true h0] at hL
        simp at hL
      have hne2 : ordT d x.s ≠ 0 := fun k => by
        have e3 := ord_zero k
        rw [e3] at hg
        have h5 : ordT (lstT (difS a b l)) x.s = 0 := by
          rw [ordT_neg] at hg
          omega
        exact hne (ord_zero h5)
      omega
    refine ⟨List.pairwise_append.2 ⟨h1, List.pairwise_singleton _ _, fun d hd y hy => ?_⟩, fun p => ?_⟩
    · rw [List.mem_singleton] at hy
      subst hy
      exact hlt d hd
    · rw [List.mem_append, h2 p, List.mem_singleton]
      constructor
      · rintro (⟨⟨y, hy, e⟩, k⟩ | rfl)
        · exact ⟨⟨y, List.mem_append_left _ hy, e⟩, k⟩
        · exact ⟨⟨x, List.mem_append_right _ (List.mem_singleton.2 rfl), rfl⟩, hA⟩
      · rintro ⟨⟨y, hy, e⟩, k⟩
        rcases List.mem_append.1 hy with hy | hy
        · exact .inl ⟨⟨y, hy, e⟩, k⟩
        · rw [List.mem_singleton] at hy
          subst hy
          exact .inr e.symm
/-- What differs, told by its members. -/
theorem dif_eq (a b : List Itm) (L : List ByteArray) (hL : L.Pairwise (fun a b => ordT a b < 0)) (hm : ∀ p, p ∈ L ↔ (∃ x ∈ a ++ b, x.s = p) ∧ alkB a b p = false) : difS a b (sortI (a ++ b)) = L := by
  obtain ⟨h1, h2⟩ := dif_spec a b (sortI (a ++ b)) (sortI_pw _)
  refine strict_eq _ _ h1 hL fun p => ?_
  rw [h2 p, hm p]
  have : (∃ x ∈ sortI (a ++ b), x.s = p) ↔ (∃ x ∈ a ++ b, x.s = p) := by
    constructor
    · rintro ⟨x, hx, e⟩; exact ⟨x, (sortI_perm _).mem_iff.1 hx, e⟩
    · rintro ⟨x, hx, e⟩; exact ⟨x, (sortI_perm _).mem_iff.2 hx, e⟩
  rw [this]
theorem same_keyT (p x : ByteArray) : (keyT p).sameKey (keyT x) = (p.toList == x.toList) := by
  show (p.data.toList == x.data.toList) = _
  rw [← Lib.toList_data, ← Lib.toList_data]
theorem has_mem {l : List Itm} {p : ByteArray} : (fndQ l p).isSome = true ↔ ∃ x ∈ l, x.s = p := by
  rw [← hasP_fnd, hasP_iff]
theorem alk_none {a b : List Itm} {p : ByteArray} (h : (fndQ a p).isSome = false) : alkB a b p = false := by
  unfold alkB
  rw [h, Bool.false_and]
/-- What was collected of the first map. -/
def Out1 (a b : List Itm) (left : Lit → Bool) (out : List ByteArray) : Prop := out.Nodup ∧ ∀ p, p ∈ out ↔ ((fndQ a p).isSome = true ∧ left (keyT p) = false) ∧ alkB a b p = false
theorem Out1.start (a b : List Itm) : Out1 a b (Maps.has (idxD a)) [] := by
  refine ⟨List.nodup_nil, fun p => ?_⟩
  rw [idx_has]
  constructor
  · intro h; cases h
  · rintro ⟨⟨h1, h2⟩, _⟩
    rw [h1] at h2
    cases h2
theorem Out1.skip {a b : List Itm} {left : Lit → Bool} {out : List ByteArray} (h : Out1 a b left out) {x : ByteArray} (hl : left (keyT x) = true) (ha : alkB a b x = true) : Out1 a b (fun z => left z && !z.sameKey (keyT x)) out := by
  refine ⟨h.1, fun p => ?_⟩
  rw [h.2 p]
  simp only [same_keyT]
  by_cases e : p = x
  · subst e
    rw [ha]
    simp
  · have : (p.toList == x.toList) = false := beq_eq_false_iff_ne.2 fun k => e (toList_inj' k)
    rw [this]
    simp
theorem Out1.more {a b : List Itm} {left : Lit → Bool} {out : List ByteArray} (h : Out1 a b left out) {x : ByteArray} (hs : (fndQ a x).isSome = true) (hl : left (keyT x) = true) (ha : alkB a b x = false) : Out1 a b (fun z => left z && !z.sameKey (keyT x)) (out ++ [x]) := by
  have hx : x ∉ out := fun k => by
    have := ((h.2 x).1 k).1.2
    rw [hl] at this
    cases this
  refine ⟨List.nodup_append.2 ⟨h.1, by simp, fun u hu v hv e => by
    rw [List.mem_singleton] at hv
    rw [e, hv] at hu
    exact hx hu⟩, fun p => ?_⟩
  rw [List.mem_append, h.2 p, List.mem_singleton]
  simp only [same_keyT]
  by_cases e : p = x
  · subst e
    rw [ha, hs]
    simp
  · have : (p.toList == x.toList) = false := beq_eq_false_iff_ne.2 fun k => e (toList_inj' k)
    rw [this]
    simp [e]
/-- What was collected of both. -/
def Out2 (a b : List Itm) (left : Lit → Bool) (out : List ByteArray) : Prop := out.Nodup ∧ ∀ p, p ∈ out ↔ ((fndQ a p).isSome = true ∧ alkB a b p = false) ∨ ((fndQ a p).isSome = false ∧ (fndQ b p).isSome = true ∧ left (keyT p) = false)
theorem Out2.start {a b : List Itm} {left : Lit → Bool} {out : List ByteArray} (h : Out1 a b left out) (hl : ∀ k, left k = false) : Out2 a b (Maps.has (idxD b)) out := by
  refine ⟨h.1, fun p => ?_⟩
  rw [h.2 p, hl, idx_has]
  cases (fndQ a p).isSome <;> cases (fndQ b p).isSome <;> simp
theorem Out2.skip {a b : List Itm} {left : Lit → Bool} {out : List ByteArray} (h : Out2 a b left out) {x : ByteArray} (hl : left (keyT x) = true) (ha : (fndQ a x).isSome = true) : Out2 a b (fun z => left z && !z.sameKey (keyT x)) out := by
  refine ⟨h.1, fun p => ?_⟩
  rw [h.2 p]
  simp only [same_keyT]
  by_cases e : p = x
  · subst e
    rw [ha]
    simp
  · have : (p.toList == x.toList) = false := beq_eq_false_iff_ne.2 fun k => e (toList_inj' k)
    rw [this]
    simp
theorem Out2.more {a b : List Itm} {left : Lit → Bool} {out : List ByteArray} (h : Out2 a b left out) {x : ByteArray} (hb : (fndQ b x).isSome = true) (hl : left (keyT x) = true) (ha : (fndQ a x).isSome = false) : Out2 a b (fun z => left z && !z.sameKey (keyT x)) (out ++ [x]) := by
  have hx : x ∉ out := fun k => by
    rcases (h.2 x).1 k with h | h
    · rw [ha] at h; cases h.1
    · rw [hl] at h; cases h.2.2
  refine ⟨List.nodup_append.2 ⟨h.1, by simp, fun u hu v hv e => by
    rw [List.mem_singleton] at hv
    rw [e, hv] at hu
    exact hx hu⟩, fun p => ?_⟩
  rw [List.mem_append, h.2 p, List.mem_singleton]
  simp only [same_keyT]
  by_cases e : p = x
  · subst e
    rw [ha, hb]
    simp
  · have : (p.toList == x.toList) = false := beq_eq_false_iff_ne.2 fun k => e (toList_inj' k)
    rw [this]
    simp [e]
/-- Sorted, what was collected is where the two differ. -/
theorem Out2.sorted {a b : List Itm} {left : Lit → Bool} {out L : List ByteArray} (h : Out2 a b left out) (hl : ∀ k, left k = false) (hp : L.Perm out) (hs : L.Pairwise (fun a b => ordT a b ≤ 0)) : difS a b (sortI (a ++ b)) = L := by
  have hn : L.Nodup := hp.nodup_iff.2 h.1
  refine dif_eq a b L ?_ fun p => ?_
  · have h2 : L.Pairwise (fun a b => a ≠ b ∧ ordT a b ≤ 0) := List.Pairwise.and hn hs
    refine h2.imp fun {x y} ⟨h3, h4⟩ => ?_
    have : ordT x y ≠ 0 := fun k => h3 (ord_zero k)
    omega
  · rw [hp.mem_iff, h.2 p, hl]
    have e : (∃ x ∈ a ++ b, x.s = p) ↔ ((fndQ a p).isSome = true ∨ (fndQ b p).isSome = true) := by
      rw [has_mem, has_mem]
      constructor
      · rintro ⟨x, hx, rfl⟩
        rcases List.mem_append.1 hx with h | h
        · exact .inl ⟨x, h, rfl⟩
        · exact .inr ⟨x, h, rfl⟩
      · rintro (⟨x, hx, rfl⟩ | ⟨x, hx, rfl⟩)
        · exact ⟨x, List.mem_append_left _ hx, rfl⟩
        · exact ⟨x, List.mem_append_right _ hx, rfl⟩
    rw [e]
    cases ha : (fndQ a p).isSome with
    | true => simp
    | false => rw [alk_none ha]; cases (fndQ b p).isSome <;> simp
theorem Out2.mem {a b : List Itm} {left : Lit → Bool} {out : List ByteArray} (h : Out2 a b left out) {p : ByteArray} (hp : p ∈ out) : ∃ x ∈ a ++ b, x.s = p := by
  rcases (h.2 p).1 hp with h | h
  · obtain ⟨x, hx, e⟩ := has_mem.1 h.1
    exact ⟨x, List.mem_append_left _ hx, e⟩
  · obtain ⟨x, hx, e⟩ := has_mem.1 h.2.1
    exact ⟨x, List.mem_append_right _ hx, e⟩
end Go.Proofs.YtmeapijckncoeaaGreatDoor

namespace Go.Proofs.YtmeapijckncoeaaGreatDoor
set_option maxRecDepth 100000
set_option linter.unusedSimpArgs false
set_option linter.unusedVariables false
open Go.RowKit Go.Joins Go.Deep Go.WideMaps
open Go.Lib hiding intOf
/-- A text of at most 100,000 bytes. -/
abbrev BS := {s : ByteArray // s.size ≤ 100000}
instance : Inhabited BS := ⟨⟨⟨#[]⟩, by decide⟩⟩
def encB (s : BS) : Value := .string s.1
def cfB (x y : BS) : Int := ordT x.1 y.1
theorem ltB (x y : BS) : ltOf cfB x y = decide (ordT x.1 y.1 < 0) := rfl
theorem ordT_leB {a b c : ByteArray} (h1 : ordT a b ≤ 0) (h2 : ordT b c ≤ 0) : ordT a c ≤ 0 := ordL_trans _ _ _ h1 h2
theorem swoB : Go.Sort.SWO (ltOf cfB) where
  irrefl x := by rw [ltB, ordT_self]; rfl
  trans x y z h1 h2 := by
    rw [ltB, decide_eq_true_eq] at *
    exact ordT_trans h1 h2
  ntrans x y z h1 h2 := by
    rw [ltB, decide_eq_false_iff_not] at *
    have a : ordT y.1 x.1 ≤ 0 := by rw [ordT_neg]; omega
    have b : ordT z.1 y.1 ≤ 0 := by rw [ordT_neg]; omega
    have c := ordT_leB b a
    rw [ordT_neg] at c
    omega
theorem totB (x y : BS) (h1 : ltOf cfB x y = false) (h2 : ltOf cfB y x = false) : x = y := by
  rw [ltB, decide_eq_false_iff_not] at *
  rw [ordT_neg] at h2
  exact Subtype.ext (ord_zero (by omega))
theorem cmpB (blk off size : Nat) (w : World) : CmpReads Tryz.prog 31 #[] encB cfB blk off size w := fun _ _ _ _ x y => order_any x.1 y.1 _ (by have := x.2; omega)
/-- Texts as such. -/
def liftB (l : List ByteArray) : List BS := l.map fun s => if h : s.size ≤ 100000 then ⟨s, h⟩ else default
theorem lift_len (l : List ByteArray) : (liftB l).length = l.length := List.length_map _
theorem lift_val {l : List ByteArray} (h : ∀ s ∈ l, s.size ≤ 100000) : (liftB l).map Subtype.val = l := by
  unfold liftB
  rw [List.map_map]
  conv => rhs; rw [← List.map_id l]
  refine List.map_congr_left fun s hs => ?_
  show (if h : s.size ≤ 100000 then (⟨s, h⟩ : BS) else default).val = s
  rw [dif_pos (h s hs)]
theorem heap_sortedB {w : World} {g n : Nat} {os : Array Obj} {cur : Array Value} {e : TypeId} {fr : Nat × Nat} (d : Array BS) (hb : w.heap[g]? = some (.cells cur e fr)) :
    (sortWorld encB w g 0 n d os).heap[g]? = some (.cells (Go.Sort.putCells encB 0 d cur) e fr) := by
  have hg : g < w.heap.size := (Array.getElem?_eq_some_iff.1 hb).1
  unfold sortWorld
  rw [Go.Sort.heap_grow_old _ _ (by simpa using hg)]
  simp [Go.Sort.putRow, Go.Sort.mapBlock, Go.Sort.ahead, Array.getElem?_modify, hb, Go.Sort.onCells]
theorem grownBy_sortedB {w : World} {g n : Nat} {os : Array Obj} (d : Array BS) : w.grownBy (sortWorld encB w g 0 n d os) (some g) := by
  unfold sortWorld
  refine ⟨rfl, rfl, rfl, by simp, fun k hk hne => ?_⟩
  rw [Go.Sort.heap_grow_old _ _ (by simpa using hk)]
  have : g ≠ k := fun e => hne (by rw [e])
  simp [Go.Sort.putRow, Go.Sort.mapBlock, Go.Sort.ahead, Array.getElem?_modify, this]
theorem take_putB (cur : Array Value) (ts : List BS) (h : ts.length ≤ cur.size) : (Go.Sort.putCells encB 0 ts.toArray cur).toList.take ts.length = ts.map encB := by
  apply List.ext_getElem?
  intro j
  by_cases hj : j < ts.length
  · rw [List.getElem?_take_of_lt hj, Array.getElem?_toList]
    simp [Go.Sort.putCells, hj, show j < cur.size by omega]
  · rw [List.getElem?_take_eq_none (by omega), List.getElem?_eq_none (by simp; omega)]
set_option maxHeartbeats 4000000 in
theorem sortF_any (V : Value) (out : List ByteArray) (base : Nat) (w : World) (hO : w.ownsRow base 9 1 V out.length (out.map .string)) (hs : ∀ p ∈ out, p.size ≤ 100000) (hl : out.length ≤ 100000) :
    Calls Tryz.prog 30 #[V, .func (.func 31) #[] #[]] w fun e w' => e = .returned (.tuple #[]) ∧ ∃ L : List ByteArray, L.Perm out ∧ L.Pairwise (fun a b => ordT a b ≤ 0) ∧ w'.ownsRow base 9 1 V L.length (L.map .string) ∧ w.grownBy w' V.ownBlock := by
  have hO' := hO
  rcases hO.2 with ⟨rfl, h0⟩ | ⟨g, cap, cur, rfl, hbase, hb, h1, h2, h3, h4⟩
  · have h := sh_slices_SortFunc_none (α := BS) none 0 (.func (.func 31) #[] #[]) w
    refine h.mono ?_
    rintro e w' ⟨rfl, rfl⟩
    have e0 : out = [] := List.length_eq_zero_iff.1 h0
    subst e0
    exact ⟨rfl, [], List.Perm.refl _, List.Pairwise.nil, hO', ⟨rfl, rfl, rfl, Nat.le_refl _, fun _ _ _ => rfl⟩⟩
  · have hd : (liftB out).toArray.size = out.length := by rw [List.size_toArray, lift_len]
    have eg : ∀ args w, (callFunc 31 args).run Tryz.prog w = .ok (.enter 31 args) w := enters_of Tryz.func31 (by kernel_rfl) rfl
    have hH : Go.Sort.Holds encB w g 0 (liftB out).toArray := by
      intro j hj
      rw [hd] at hj
      refine ⟨?_, by simp [World.frozen?, hb]⟩
      rw [Nat.zero_add]
      have hc := hO'.cellAt j (by omega)
      rw [hc, List.getElem?_map, List.getElem?_eq_getElem hj]
      have hsz := hs _ (List.getElem_mem hj)
      rw [getElem!_pos _ j (by rw [hd]; exact hj)]
      simp only [List.getElem_toArray]
      unfold liftB encB
      simp only [List.getElem_map]
      rw [dif_pos hsz]
      rfl
    have h := sh_slices_SortFunc_total encB (fun _ => rfl) cfB swoB 31 #[] g 0 cap (liftB out).toArray w eg (cmpB g 0 (liftB out).toArray.size w).lays hH (Array.getElem?_eq_some_iff.1 hb).1 (by rw [hd]; omega) totB
    rw [hd] at h
    refine h.mono ?_
    rintro e w' ⟨rfl, n, os, rfl⟩
    refine ⟨rfl, ((liftB out).mergeSort fun x y => !(ltOf cfB) y x).map Subtype.val, ?_, ?_, ?_, ?_⟩
    · have hp := (List.mergeSort_perm (liftB out) fun x y => !(ltOf cfB) y x).map Subtype.val
      rw [lift_val hs] at hp
      exact hp
    · refine List.pairwise_map.2 ?_
      have tr : ∀ a b c : BS, (!(ltOf cfB) b a) = true → (!(ltOf cfB) c b) = true → (!(ltOf cfB) c a) = true := fun a b c k1 k2 => by
        rw [Bool.not_eq_true'] at *
        exact swoB.ntrans _ _ _ k2 k1
      have tot : ∀ a b : BS, ((!(ltOf cfB) b a) || (!(ltOf cfB) a b)) = true := fun a b => by
        rw [ltB, ltB]
        have := ordT_neg a.1 b.1
        by_cases k : ordT a.1 b.1 < 0
        · have : ¬ ordT b.1 a.1 < 0 := by omega
          simp [this]
        · simp [k]
      refine (List.pairwise_mergeSort tr tot (liftB out)).imp fun {x y} k => ?_
      rw [ltB, Bool.not_eq_true', decide_eq_false_iff_not, ordT_neg] at k
      omega
    · have hlen : ((liftB out).mergeSort fun x y => !(ltOf cfB) y x).length = out.length := by rw [List.length_mergeSort, lift_len]
      rw [List.length_map, hlen, List.map_map]
      refine ⟨by simp [hlen, lift_len], .inr ⟨g, cap, _, rfl, hbase, heap_sortedB _ hb, h1, h2, by simp [Go.Sort.putCells, h3], ?_⟩⟩
      rw [Nat.mul_one, ← hlen]
      have := take_putB cur ((liftB out).mergeSort fun x y => !(ltOf cfB) y x) (by rw [hlen]; omega)
      exact this
    · exact grownBy_sortedB _
end Go.Proofs.YtmeapijckncoeaaGreatDoor
