/-
  The walk of MatchFinds: it returns true, whatever the text and the level.
  The walk of MatchSame: it returns true, whatever the texts and the level.
  What comes again in a text that begins with a triple, three times in a row.
-/
import Derived.Test.YtfhbkidceombbaaPkF

namespace Go.Proofs.Ytfhbkidceombbaa
set_option maxRecDepth 100000
open Go.Joins Go.RowKit Go.Deep

theorem preT_all (s : ByteArray) : text (preT (bt s) s.size) = s := by
  have h : preT (bt s) s.size = nums s := by
    apply List.ext_getElem?
    intro i
    unfold preT
    by_cases hi : i < s.size
    · rw [List.getElem?_map, List.getElem?_range hi]
      have := nums_get s i hi
      rw [this]
      show some (bt s i) = _
      unfold bt
      rw [List.getD_eq_getElem?_getD, this]
      rfl
    · rw [List.getElem?_eq_none (by simp; omega), List.getElem?_eq_none (by rw [nums_len]; omega)]
  rw [h, text_nums]
theorem tok_zero (a : Nat → Nat) (n : Nat) (E : Nat → Int) (p : Nat) : (tokT a n E 0 p).l = 0 := by
  unfold tokT
  rw [long_zero]
  rfl
/-- What is found is the text. -/
theorem found_ok (s : ByteArray) (t k : Nat) (hs : s.size ≤ 10000) (h : Found s t k) : expE (tkT (bt s) s.size (befT (bt s) s.size) t) k = 0 ∧ text (expT (tkT (bt s) s.size (befT (bt s) s.size) t) k) = s ∧ k ≤ s.size := by
  obtain ⟨h1, h2, h3, _⟩ := run_ok (bt s) s.size t (by omega) k h.2
  refine ⟨h1, ?_, by rw [h.1] at h3; exact h3⟩
  rw [expT_ok h1, h2, h.1, preT_all]

end Go.Proofs.Ytfhbkidceombbaa

namespace Go.Proofs.Ytfhbkidceombbaa
set_option maxRecDepth 100000
open Go.Joins Go.RowKit Go.Deep

theorem found_one (s : ByteArray) (t j k : Nat) (h1 : Found s t j) (h2 : Found s t k) : j = k := by
  rcases Nat.lt_trichotomy j k with h | h | h
  · have := h2.2 j h; have := h1.1; omega
  · exact h
  · have := h1.2 k h; have := h2.1; omega
/-- Find of any level: it answers, and nothing of old memory is turned. -/
theorem find_all (s : ByteArray) (lv : Int) (hs : s.size ≤ 10000) (w : World) : Calls Try.prog 42 #[.string s, .int .i64 lv] w fun e w' =>
    ∃ A k c x, e = .returned (.tuple #[.slice A k c, .int .i64 x]) ∧ Below w.heap.size w w' := by
  by_cases hl : lv < 0 ∨ 9 < lv
  · refine (find_arg s lv hl w).mono ?_
    rintro e w' ⟨rfl, rfl⟩
    exact ⟨none, 0, 0, 2, rfl, Below.refl _ _⟩
  · obtain ⟨n, rfl⟩ : ∃ n : Nat, lv = (n : Nat) := ⟨lv.toNat, by omega⟩
    refine (find_any s n hs (by omega) w).mono ?_
    rintro e w' ⟨k, A, c, rfl, _, _, hb⟩
    exact ⟨A, k, c, 0, rfl, hb⟩
end Go.Proofs.Ytfhbkidceombbaa

namespace Go.Proofs.Ytfhbkidceombbaa
set_option maxRecDepth 100000
open Go.Joins Go.RowKit Go.Deep

theorem lg_mono (a : Nat → Nat) (E : Nat → Int) (p most : Nat) : ∀ (t : Nat) (s : Lg), s.bl ≤ (lgF a E p most t s).1
  | 0, s => Nat.le_refl _
  | t + 1, s => by
    rw [lgF]
    split
    · exact Nat.le_refl _
    · split
      · exact lg_mono a E p most t ⟨(E s.fr).toNat, s.bl, s.bd⟩
      · split
        · rename_i h
          exact Nat.le_trans (Nat.le_of_lt h) (lg_mono a E p most t ⟨_, _, _⟩)
        · exact lg_mono a E p most t ⟨(E s.fr).toNat, s.bl, s.bd⟩
theorem alF_ge (q : Nat → Bool) (m k : Nat) (h : ∀ i, i < k → q i = true) (hk : k ≤ m) : k ≤ alF q m := by
  have h1 := alF_le q m
  by_cases hh : alF q m < k
  · exfalso
    have hstop : ∀ m, alF q m < k → k ≤ m → False := fun m => by
      induction m with
      | zero => intro h1 h2; omega
      | succ m ih =>
        intro h1 h2
        by_cases e : k = m + 1
        · have := alF_eq q (m + 1) k h (by omega) (.inl e)
          omega
        · rw [alF] at h1
          split at h1
          · omega
          · exact ih h1 (by omega)
    exact hstop m hh hk
  · omega
/-- A copy of at least so many bytes is found. -/
theorem long_ge (a : Nat → Nat) (n t p q k : Nat) (ht : 1 ≤ t) (hp : p + 2 < n) (hn : n ≤ 10000) (hq : prevT a p = some q) (hk : ∀ i, i < k → a (q + i) = a (p + i)) (hk1 : 1 ≤ k) (hkm : k ≤ min (n - p) 258) :
    k ≤ (longT a n (befT a n) t p).1 := by
  obtain ⟨h1, h2, h3, h4⟩ := prev_spec hq
  have hE : befT a n p = (q : Int) := by unfold befT; rw [if_pos hp, hq]
  unfold longT
  rw [if_neg (by omega)]
  obtain ⟨t', rfl⟩ : ∃ t', t = t' + 1 := ⟨t - 1, by omega⟩
  rw [lgF]
  simp only [hE, Int.toNat_natCast]
  rw [if_neg (by omega), if_neg (by simpa using h2)]
  have hge : k ≤ alF (fun i => decide (a (q + i) = a (p + i))) (min (n - p) 258) := alF_ge _ _ k (fun i hi => by simpa using hk i hi) hkm
  rw [if_pos (by omega)]
  exact Nat.le_trans hge (lg_mono a _ p _ t' ⟨_, _, _⟩)
theorem long_none (a : Nat → Nat) (n t p : Nat) (hq : prevT a p = none) : (longT a n (befT a n) t p).1 = 0 := by
  have hE : befT a n p = -1 := by unfold befT; rw [hq]; split <;> rfl
  unfold longT
  split
  · rfl
  · cases t with
    | zero => rfl
    | succ t => rw [lgF]; simp only [hE]; rw [if_pos (by omega)]
theorem long_le (a : Nat → Nat) (n t p : Nat) : (longT a n (befT a n) t p).1 ≤ n - p := by
  rcases long_ok a n t p with ⟨h, _⟩ | ⟨_, h, _⟩ <;> omega
/-- A text that begins with a triple three times has a copy. -/
theorem has_copy (s : ByteArray) (t k : Nat) (hs : s.size ≤ 10000) (h9 : 9 ≤ s.size) (ht : 1 ≤ t) (hper : ∀ i, i < 6 → bt s (i + 3) = bt s i) (hf : Found s t k) :
    ∃ i, i < k ∧ 0 < (tkT (bt s) s.size (befT (bt s) s.size) t i).l := by
  by_cases hc : ∃ i, i < k ∧ 0 < (tkT (bt s) s.size (befT (bt s) s.size) t i).l
  · exact hc
  · exfalso
    have hz : ∀ i, i < k → (tkT (bt s) s.size (befT (bt s) s.size) t i).l = 0 := fun i hi => by
      obtain ⟨g1, _⟩ := tok_ok (bt s) s.size t _ (hf.2 i hi) (by omega)
      have g2 := (right_pos (fits_zero g1).1).1
      have g3 : ¬ 0 < (tkT (bt s) s.size (befT (bt s) s.size) t i).l := fun h => hc ⟨i, hi, h⟩
      have g4 : 0 ≤ (tkT (bt s) s.size (befT (bt s) s.size) t i).l := g2
      omega
    have hpos : ∀ i, i ≤ k → posT (bt s) s.size (befT (bt s) s.size) t i = i := fun i hi => by
      induction i with
      | zero => rfl
      | succ i ih =>
        have h1 := ih (by omega)
        have h2 := hz i (by omega)
        rw [posT, h1]
        have h3 : (tokT (bt s) s.size (befT (bt s) s.size) t i).l = 0 := by
          have : tkT (bt s) s.size (befT (bt s) s.size) t i = tokT (bt s) s.size (befT (bt s) s.size) t i := by unfold tkT; rw [h1]
          rw [← this]; exact h2
        have h4 : widT (tokT (bt s) s.size (befT (bt s) s.size) t i) = 1 := by unfold widT; rw [h3]; rfl
        rw [h4]; rfl
    have hkn : k = s.size := by have := hpos k (Nat.le_refl _); have := hf.1; omega
    have hbyte : ∀ p, p < s.size → (longT (bt s) s.size (befT (bt s) s.size) t p).1 = 0 ∨ (longT (bt s) s.size (befT (bt s) s.size) t p).1 < (longT (bt s) s.size (befT (bt s) s.size) t (p + 1)).1 := fun p hp => by
      have h2 := hz p (by omega)
      unfold tkT at h2
      rw [hpos p (by omega)] at h2
      unfold tokT at h2
      split at h2
      · assumption
      · rename_i hh
        exact absurd (.inl (by simpa using h2)) hh
    have hL : ∀ p, 3 ≤ p → p < s.size → p ≤ (longT (bt s) s.size (befT (bt s) s.size) t p).1 := fun p h3 hp => by
      induction p with
      | zero => omega
      | succ p ih =>
        by_cases e : p = 2
        · subst e
          have hs3 : same3 (bt s) 0 3 = true := by
            unfold same3
            exact decide_eq_true ⟨(hper 0 (by omega)).symm, (hper 1 (by omega)).symm, (hper 2 (by omega)).symm⟩
          obtain ⟨q, hq⟩ := lastB_at (q := fun i => same3 (bt s) i 3) (show 0 < 3 by omega) hs3
          obtain ⟨_, a0, a1, a2⟩ := prev_spec (p := 3) hq
          exact long_ge (bt s) s.size t 3 q 3 ht (by omega) hs hq (fun i hi => by
            match i, hi with
            | 0, _ => exact a0
            | 1, _ => exact a1
            | 2, _ => exact a2) (by omega) (by omega)
        · have h4 := ih (by omega) (by omega)
          rcases hbyte p (by omega) with h | h <;> omega
    have h1 := hL (s.size - 2) (by omega) (by omega)
    have h2 := long_le (bt s) s.size t (s.size - 2)
    omega
/-- A copy that goes on to the end is taken. -/
theorem tok_full (a : Nat → Nat) (n t p q : Nat) (ht : 1 ≤ t) (hp : p + 2 < n) (hn : n - p ≤ 258) (hn2 : n ≤ 10000) (hq : prevT a p = some q) (hk : ∀ i, i < n - p → a (q + i) = a (p + i)) :
    p + (widT (tokT a n (befT a n) t p)).toNat = n := by
  have h1 := long_ge a n t p q (n - p) ht hp hn2 hq hk (by omega) (by omega)
  have h2 := long_le a n t p
  have h3 := long_le a n t (p + 1)
  unfold tokT
  rw [if_neg (by omega)]
  unfold widT
  simp only
  omega
theorem tok_byte (a : Nat → Nat) (n t p : Nat) (hq : prevT a p = none) : (widT (tokT a n (befT a n) t p)).toNat = 1 := by
  unfold tokT
  rw [if_pos (.inl (long_none a n t p hq))]
  rfl
theorem few_tokens (s : ByteArray) (t k : Nat) (hs : s.size = 27) (ht : 1 ≤ t) (hper : ∀ i, i < 24 → bt s (i + 3) = bt s i) (hf : Found s t k) : k ≤ 8 := by
  obtain ⟨h1, h2⟩ := hf
  by_cases hall : bt s 0 = bt s 1 ∧ bt s 1 = bt s 2
  · have hsame : ∀ i, i < 27 → bt s i = bt s 0 := fun i => by
      induction i using Nat.strongRecOn with
      | _ i ih =>
        intro hi
        by_cases h3 : i < 3
        · match i, h3 with
          | 0, _ => rfl
          | 1, _ => exact hall.1.symm
          | 2, _ => exact (hall.1.trans hall.2).symm
        · have := hper (i - 3) (by omega)
          rw [show i - 3 + 3 = i by omega] at this
          rw [this]
          exact ih (i - 3) (by omega) (by omega)
    have hp1 : prevT (bt s) 1 = some 0 := by
      unfold prevT
      rw [lastB, if_pos]
      unfold same3
      exact decide_eq_true ⟨by rw [hsame 1 (by omega)], by rw [hsame (0 + 1) (by omega), hsame (1 + 1) (by omega)], by rw [hsame (0 + 2) (by omega), hsame (1 + 2) (by omega)]⟩
    have e1 : posT (bt s) s.size (befT (bt s) s.size) t 1 = 1 := by
      rw [posT, posT, tok_byte _ _ _ _ rfl]
    have e2 : posT (bt s) s.size (befT (bt s) s.size) t 2 = 27 := by
      rw [posT, e1]
      have := tok_full (bt s) s.size t 1 0 ht (by omega) (by omega) (by omega) hp1 (fun i hi => by rw [hsame (0 + i) (by omega), hsame (1 + i) (by omega)])
      omega
    by_cases hk : k ≤ 2
    · omega
    · have := h2 2 (by omega); omega
  · have r0 := hper 0 (by omega)
    have r1 := hper 1 (by omega)
    have r2 := hper 2 (by omega)
    simp only [Nat.zero_add, Nat.reduceAdd] at r0 r1 r2
    have np : ∀ i j, ¬ same3 (bt s) i j = true → same3 (bt s) i j = false := fun i j h => by simpa using h
    have n01 : ¬ same3 (bt s) 0 1 = true := fun h => by
      have := of_decide_eq_true h
      simp only [Nat.zero_add, Nat.reduceAdd] at this
      exact hall (by omega)
    have n12 : ¬ same3 (bt s) 1 2 = true := fun h => by
      have := of_decide_eq_true h
      simp only [Nat.reduceAdd] at this
      exact hall (by omega)
    have n02 : ¬ same3 (bt s) 0 2 = true := fun h => by
      have := of_decide_eq_true h
      simp only [Nat.zero_add, Nat.reduceAdd] at this
      exact hall (by omega)
    have n23 : ¬ same3 (bt s) 2 3 = true := fun h => by
      have := of_decide_eq_true h
      simp only [Nat.reduceAdd] at this
      exact hall (by omega)
    have n13 : ¬ same3 (bt s) 1 3 = true := fun h => by
      have := of_decide_eq_true h
      simp only [Nat.reduceAdd] at this
      exact hall (by omega)
    have n03 : same3 (bt s) 0 3 = true := by
      unfold same3
      exact decide_eq_true ⟨r0.symm, r1.symm, r2.symm⟩
    have p1 : prevT (bt s) 1 = none := by unfold prevT; simp only [lastB, n01, if_false, Bool.false_eq_true]
    have p2 : prevT (bt s) 2 = none := by unfold prevT; simp only [lastB, n02, n12, if_false, Bool.false_eq_true]
    have p3 : prevT (bt s) 3 = some 0 := by unfold prevT; simp only [lastB, n23, n13, n03, if_false, if_true, Bool.false_eq_true]
    have e1 : posT (bt s) s.size (befT (bt s) s.size) t 1 = 1 := by rw [posT, posT, tok_byte _ _ _ _ rfl]
    have e2 : posT (bt s) s.size (befT (bt s) s.size) t 2 = 2 := by rw [posT, e1, tok_byte _ _ _ _ p1]
    have e3 : posT (bt s) s.size (befT (bt s) s.size) t 3 = 3 := by rw [posT, e2, tok_byte _ _ _ _ p2]
    have e4 : posT (bt s) s.size (befT (bt s) s.size) t 4 = 27 := by
      rw [posT, e3]
      have := tok_full (bt s) s.size t 3 0 ht (by omega) (by omega) (by omega) p3 (fun i hi => by
        have := hper i (by omega)
        rw [Nat.zero_add, Nat.add_comm 3 i, this])
      omega
    by_cases hk : k ≤ 4
    · omega
    · have := h2 4 (by omega); omega
theorem nums_append (x y : ByteArray) : nums (x ++ y) = nums x ++ nums y := by simp [nums]
/-- A triple as a text. -/
def tri (x y z : Nat) : ByteArray := text [x, y, z]
theorem nums_tri (x y z : Nat) (hx : x < 256) (hy : y < 256) (hz : z < 256) : nums (tri x y z) = [x, y, z] := nums_text _ fun u hu => by
  simp at hu
  omega
theorem tri_size (x y z : Nat) : (tri x y z).size = 3 := text_size _
theorem per3 (x y z : Nat) (hx : x < 256) (hy : y < 256) (hz : z < 256) (b : ByteArray) : ∀ i, i < 6 → bt (tri x y z ++ tri x y z ++ tri x y z ++ b) (i + 3) = bt (tri x y z ++ tri x y z ++ tri x y z ++ b) i := fun i hi => by
  unfold bt
  rw [nums_append, nums_append, nums_append, nums_tri x y z hx hy hz]
  match i, hi with
    | 0, _ => rfl
    | 1, _ => rfl
    | 2, _ => rfl
    | 3, _ => rfl
    | 4, _ => rfl
    | 5, _ => rfl
def nine (T : ByteArray) : ByteArray := T ++ T ++ T ++ T ++ T ++ T ++ T ++ T ++ T
theorem nine_size (x y z : Nat) : (nine (tri x y z)).size = 27 := by
  unfold nine
  simp only [ByteArray.size_append, tri_size]
theorem per9 (x y z : Nat) (hx : x < 256) (hy : y < 256) (hz : z < 256) : ∀ i, i < 24 → bt (nine (tri x y z)) (i + 3) = bt (nine (tri x y z)) i := fun i hi => by
  unfold bt nine
  simp only [nums_append]
  rw [nums_tri x y z hx hy hz]
  have hcase : i = 0 ∨ i = 1 ∨ i = 2 ∨ i = 3 ∨ i = 4 ∨ i = 5 ∨ i = 6 ∨ i = 7 ∨ i = 8 ∨ i = 9 ∨ i = 10 ∨ i = 11 ∨ i = 12 ∨ i = 13 ∨ i = 14 ∨ i = 15 ∨ i = 16 ∨ i = 17 ∨ i = 18 ∨ i = 19 ∨ i = 20 ∨ i = 21 ∨ i = 22 ∨ i = 23 := by omega
  rcases hcase with rfl | rfl | rfl | rfl | rfl | rfl | rfl | rfl | rfl | rfl | rfl | rfl | rfl | rfl | rfl | rfl | rfl | rfl | rfl | rfl | rfl | rfl | rfl | rfl <;> rfl
end Go.Proofs.Ytfhbkidceombbaa
