/-
  What a pattern's atoms match: mathematics of lists.
  What a text of runes compiles to: mathematics of lists.
  Glob: a slice of runes; one rune, perhaps behind a \; a rune or a range.
-/
import Derived.Lib.Hide
import Derived.Test.YtjnoapbddifcpaaGreatDoorNamO

namespace Go.Proofs.YtjnoapbddifcpaaGreatDoor
set_option linter.unusedVariables false

/-- An atom: its kind, its rune, whether it is turned round, its ranges. -/
structure Atm where
  k : Int
  r : Int
  n : Bool
  rs : List (Int × Int)
def hasA (rs : List (Int × Int)) (x : Nat) : Bool := rs.any fun p => decide (p.1 ≤ (x : Int)) && decide ((x : Int) ≤ p.2)
def takA (a : Atm) (x : Nat) : Bool := if a.k = 1 then decide (a.r = (x : Int)) else if a.k = 2 then true else decide (a.k = 4) && (hasA a.rs x != a.n)
/-- May these atoms be that list of runes? -/
def Mt : List Atm → List Nat → Prop
  | [], l => l = []
  | a :: az, l => if a.k = 3 then ∃ u v, l = u ++ v ∧ Mt az v else ∃ x t, l = x :: t ∧ takA a x = true ∧ Mt az t
theorem Mt_nil (l : List Nat) : Mt [] l ↔ l = [] := Iff.rfl
theorem Mt_star {a : Atm} (h : a.k = 3) (az : List Atm) (l : List Nat) : Mt (a :: az) l ↔ ∃ u v, l = u ++ v ∧ Mt az v := by rw [Mt, if_pos h]
theorem Mt_one {a : Atm} (h : a.k ≠ 3) (az : List Atm) (l : List Nat) : Mt (a :: az) l ↔ ∃ x t, l = x :: t ∧ takA a x = true ∧ Mt az t := by rw [Mt, if_neg h]
theorem Mt_app : ∀ (az bs : List Atm) (l : List Nat), Mt (az ++ bs) l ↔ ∃ u v, l = u ++ v ∧ Mt az u ∧ Mt bs v
  | [], bs, l => by
    constructor
    · intro h; exact ⟨[], l, rfl, rfl, h⟩
    · rintro ⟨u, v, rfl, rfl, h⟩; exact h
  | a :: az, bs, l => by
    rw [List.cons_append]
    by_cases h : a.k = 3
    · rw [Mt_star h]
      constructor
      · rintro ⟨u, v, rfl, hv⟩
        obtain ⟨p, q, rfl, h1, h2⟩ := (Mt_app az bs v).1 hv
        exact ⟨u ++ p, q, by rw [List.append_assoc], (Mt_star h _ _).2 ⟨u, p, rfl, h1⟩, h2⟩
      · rintro ⟨u, v, rfl, h1, h2⟩
        obtain ⟨p, q, rfl, h3⟩ := (Mt_star h _ _).1 h1
        exact ⟨p, q ++ v, by rw [List.append_assoc], (Mt_app az bs _).2 ⟨q, v, rfl, h3, h2⟩⟩
    · rw [Mt_one h]
      constructor
      · rintro ⟨x, t, rfl, hx, ht⟩
        obtain ⟨p, q, rfl, h1, h2⟩ := (Mt_app az bs t).1 ht
        exact ⟨x :: p, q, rfl, (Mt_one h _ _).2 ⟨x, p, rfl, hx, h1⟩, h2⟩
      · rintro ⟨u, v, rfl, h1, h2⟩
        obtain ⟨x, p, rfl, hx, h3⟩ := (Mt_one h _ _).1 h1
        exact ⟨x, p ++ v, rfl, hx, (Mt_app az bs _).2 ⟨p, v, rfl, h3, h2⟩⟩
theorem Mt_len : ∀ (az : List Atm) (l : List Nat), (∀ a ∈ az, a.k ≠ 3) → Mt az l → l.length = az.length
  | [], l, _, h => by rw [(Mt_nil l).1 h]; rfl
  | a :: az, l, hs, h => by
    obtain ⟨x, t, rfl, _, h2⟩ := (Mt_one (hs a (by simp)) _ _).1 h
    rw [List.length_cons, List.length_cons, Mt_len az t (fun b hb => hs b (by simp [hb])) h2]
/-- Of atoms without a star ahead: what is behind them. -/
theorem Mt_behind {az bs : List Atm} {l : List Nat} (hs : ∀ a ∈ az, a.k ≠ 3) (h : Mt (az ++ bs) l) : az.length ≤ l.length ∧ Mt bs (l.drop az.length) := by
  obtain ⟨u, v, rfl, h1, h2⟩ := (Mt_app az bs l).1 h
  have hl := Mt_len az u hs h1
  constructor
  · rw [List.length_append]; omega
  · rw [← hl, List.drop_left]; exact h2
theorem Mt_stars : ∀ az : List Atm, Mt az [] ↔ ∀ a ∈ az, a.k = 3
  | [] => by simp [Mt_nil]
  | a :: az => by
    by_cases h : a.k = 3
    · rw [Mt_star h]
      constructor
      · rintro ⟨u, v, he, hv⟩
        obtain ⟨rfl, rfl⟩ := List.append_eq_nil_iff.1 he.symm
        intro b hb
        rcases List.mem_cons.1 hb with rfl | hb
        · exact h
        · exact (Mt_stars az).1 hv b hb
      · intro hb
        exact ⟨[], [], rfl, (Mt_stars az).2 fun b hb' => hb b (by simp [hb'])⟩
    · rw [Mt_one h]
      constructor
      · rintro ⟨x, t, he, _⟩; cases he
      · intro hb; exact absurd (hb a (by simp)) h

/-! ## The way that tries again behind the last star alone -/
def Gr (all : List Atm) (l0 : List Nat) (left : List Atm) (s : List Nat) (met : Bool) (bh : List Atm) (ag : List Nat) : Prop :=
  (Mt all l0 ↔ (Mt left s ∨ met = true ∧ ∃ i, 1 ≤ i ∧ i ≤ ag.length ∧ Mt bh (ag.drop i))) ∧
  (met = true → ∃ pre, bh = pre ++ left ∧ (∀ a ∈ pre, a.k ≠ 3) ∧ s = ag.drop pre.length ∧ pre.length ≤ ag.length)
theorem gr_start (all : List Atm) (l : List Nat) : Gr all l all l false [] [] :=
  ⟨⟨fun h => .inl h, fun h => h.elim id (fun h => by cases h.1)⟩, fun h => by cases h⟩
theorem Mt_star_drop {a : Atm} (h : a.k = 3) (az : List Atm) (l : List Nat) : Mt (a :: az) l ↔ ∃ i, i ≤ l.length ∧ Mt az (l.drop i) := by
  rw [Mt_star h]
  constructor
  · rintro ⟨u, v, rfl, hv⟩
    exact ⟨u.length, by rw [List.length_append]; omega, by rw [List.drop_left]; exact hv⟩
  · rintro ⟨i, _, h2⟩
    exact ⟨l.take i, l.drop i, (List.take_append_drop i l).symm, h2⟩
theorem gr_star {all : List Atm} {l0 : List Nat} {a : Atm} {t : List Atm} {s : List Nat} {met : Bool} {bh : List Atm} {ag : List Nat} (ha : a.k = 3)
    (h : Gr all l0 (a :: t) s met bh ag) : Gr all l0 t s true t s := by
  refine ⟨?_, fun _ => ⟨[], rfl, (fun _ h => by cases h), rfl, Nat.zero_le _⟩⟩
  rw [h.1]
  constructor
  · rintro (h1 | ⟨hm, i, hi, hi2, h1⟩)
    · obtain ⟨i, hi, h2⟩ := (Mt_star_drop ha t s).1 h1
      by_cases h0 : i = 0
      · subst h0; exact .inl (by simpa using h2)
      · exact .inr ⟨rfl, i, by omega, hi, h2⟩
    · obtain ⟨pre, rfl, hp, rfl, hl⟩ := h.2 hm
      obtain ⟨h3, h4⟩ := Mt_behind hp h1
      obtain ⟨j, hj, h5⟩ := (Mt_star_drop ha t _).1 h4
      rw [List.drop_drop, List.drop_drop] at h5
      rw [List.length_drop, List.length_drop] at hj
      rw [List.length_drop] at h3
      refine .inr ⟨rfl, i + j, by omega, by rw [List.length_drop]; omega, ?_⟩
      rw [List.drop_drop]
      rw [show pre.length + (i + j) = i + (pre.length + j) by omega]
      exact h5
  · rintro (h1 | ⟨_, i, _, hi2, h1⟩)
    · exact .inl ((Mt_star_drop ha t s).2 ⟨0, Nat.zero_le _, h1⟩)
    · exact .inl ((Mt_star_drop ha t s).2 ⟨i, hi2, h1⟩)
theorem gr_take {all : List Atm} {l0 : List Nat} {a : Atm} {t : List Atm} {x : Nat} {s : List Nat} {met : Bool} {bh : List Atm} {ag : List Nat} (ha : a.k ≠ 3) (hx : takA a x = true)
    (h : Gr all l0 (a :: t) (x :: s) met bh ag) : Gr all l0 t s met bh ag := by
  refine ⟨?_, fun hm => ?_⟩
  · rw [h.1, Mt_one ha]
    constructor
    · rintro (⟨y, u, he, _, h2⟩ | h2)
      · injection he with e1 e2; subst e1 e2; exact .inl h2
      · exact .inr h2
    · rintro (h2 | h2)
      · exact .inl ⟨x, s, rfl, hx, h2⟩
      · exact .inr h2
  · obtain ⟨pre, rfl, hp, hs, hl⟩ := h.2 hm
    have hlt : pre.length < ag.length := by
      have : (x :: s).length = (ag.drop pre.length).length := by rw [hs]
      rw [List.length_drop, List.length_cons] at this
      omega
    refine ⟨pre ++ [a], by rw [List.append_assoc]; rfl, ?_, ?_, ?_⟩
    · intro b hb
      rcases List.mem_append.1 hb with hb | hb
      · exact hp b hb
      · obtain rfl : b = a := by simpa using hb
        exact ha
    · rw [List.length_append, List.length_singleton, ← List.drop_drop, ← hs]; rfl
    · rw [List.length_append, List.length_singleton]; omega
theorem gr_back {all : List Atm} {l0 : List Nat} {left : List Atm} {s : List Nat} {bh : List Atm} {ag : List Nat} (hs : s ≠ []) (hn : ¬ Mt left s)
    (h : Gr all l0 left s true bh ag) : Gr all l0 bh (ag.drop 1) true bh (ag.drop 1) := by
  obtain ⟨pre, hb, hp, hs2, hl⟩ := h.2 rfl
  have hag : 0 < ag.length := by
    rcases Nat.eq_zero_or_pos ag.length with h0 | h0
    · exfalso; apply hs; rw [hs2, List.length_eq_zero_iff.1 h0]; simp
    · exact h0
  refine ⟨?_, fun _ => ⟨[], rfl, (fun _ h => by cases h), rfl, Nat.zero_le _⟩⟩
  rw [h.1]
  constructor
  · rintro (h1 | ⟨_, i, hi, hi2, h1⟩)
    · exact absurd h1 hn
    · by_cases h0 : i = 1
      · subst h0; exact .inl h1
      · refine .inr ⟨rfl, i - 1, by omega, by rw [List.length_drop]; omega, ?_⟩
        rw [List.drop_drop, show 1 + (i - 1) = i by omega]; exact h1
  · rintro (h1 | ⟨_, i, hi, hi2, h1⟩)
    · exact .inr ⟨rfl, 1, Nat.le_refl _, hag, h1⟩
    · rw [List.length_drop] at hi2
      rw [List.drop_drop] at h1
      exact .inr ⟨rfl, 1 + i, by omega, by omega, h1⟩
theorem gr_no {all : List Atm} {l0 : List Nat} {left : List Atm} {s : List Nat} {bh : List Atm} {ag : List Nat} (hn : ¬ Mt left s)
    (h : Gr all l0 left s false bh ag) : ¬ Mt all l0 := by
  rw [h.1]
  rintro (h1 | ⟨h1, _⟩)
  · exact hn h1
  · cases h1
theorem gr_end {all : List Atm} {l0 : List Nat} {left : List Atm} {met : Bool} {bh : List Atm} {ag : List Nat}
    (h : Gr all l0 left [] met bh ag) : Mt all l0 ↔ ∀ a ∈ left, a.k = 3 := by
  rw [h.1, ← Mt_stars]
  constructor
  · rintro (h1 | ⟨hm, i, hi, hi2, h1⟩)
    · exact h1
    · exfalso
      obtain ⟨pre, rfl, hp, hs, hl⟩ := h.2 hm
      obtain ⟨h3, _⟩ := Mt_behind hp h1
      rw [List.length_drop] at h3
      have : (ag.drop pre.length).length = 0 := by rw [← hs]; rfl
      rw [List.length_drop] at this
      omega
  · intro h1; exact .inl h1
theorem not_head {a : Atm} {t : List Atm} {x : Nat} {s : List Nat} (ha : a.k ≠ 3) (hx : takA a x = false) : ¬ Mt (a :: t) (x :: s) := by
  rw [Mt_one ha]
  rintro ⟨y, u, he, h1, _⟩
  injection he with e1 e2
  subst e1
  rw [hx] at h1
  cases h1
theorem not_none {s : List Nat} (h : s ≠ []) : ¬ Mt [] s := h

/-! ## The document's way: row by row -/
open Classical in
/-- Whether the first atoms may be the first i runes. -/
noncomputable def rowM (az : List Atm) (l : List Nat) (i : Nat) : Bool := decide (Mt az (l.take i))
open Classical in
noncomputable def mtB (az : List Atm) (l : List Nat) : Bool := decide (Mt az l)
theorem mtB_iff (az : List Atm) (l : List Nat) : mtB az l = true ↔ Mt az l := by classical unfold mtB; exact decide_eq_true_iff
theorem rowM_iff (az : List Atm) (l : List Nat) (i : Nat) : rowM az l i = true ↔ Mt az (l.take i) := by classical unfold rowM; exact decide_eq_true_iff
theorem row_nil (l : List Nat) (i : Nat) (hi : i ≤ l.length) : rowM [] l i = decide (i = 0) := by
  rw [Bool.eq_iff_iff, rowM_iff, decide_eq_true_iff, Mt_nil, List.take_eq_nil_iff]
  constructor
  · rintro (h | h)
    · exact h
    · subst h; simp at hi; exact hi
  · intro h; exact .inl h
theorem row_full (az : List Atm) (l : List Nat) : rowM az l l.length = mtB az l := by
  rw [Bool.eq_iff_iff, rowM_iff, mtB_iff, List.take_length]
theorem Mt_snoc (az : List Atm) (a : Atm) (l : List Nat) : Mt (az ++ [a]) l ↔ if a.k = 3 then ∃ u v, l = u ++ v ∧ Mt az u else ∃ t x, l = t ++ [x] ∧ Mt az t ∧ takA a x = true := by
  rw [Mt_app]
  by_cases h : a.k = 3
  · rw [if_pos h]
    constructor
    · rintro ⟨u, v, h1, h2, _⟩; exact ⟨u, v, h1, h2⟩
    · rintro ⟨u, v, h1, h2⟩; exact ⟨u, v, h1, h2, (Mt_star h _ _).2 ⟨v, [], by simp, rfl⟩⟩
  · rw [if_neg h]
    constructor
    · rintro ⟨u, v, rfl, h2, h3⟩
      obtain ⟨x, t, rfl, hx, ht⟩ := (Mt_one h _ _).1 h3
      rw [(Mt_nil t).1 ht]
      exact ⟨u, x, rfl, h2, hx⟩
    · rintro ⟨t, x, rfl, h2, h3⟩
      exact ⟨t, [x], rfl, h2, (Mt_one h _ _).2 ⟨x, [], rfl, h3, rfl⟩⟩
theorem row_star {a : Atm} (h : a.k = 3) (az : List Atm) (l : List Nat) (i : Nat) :
    rowM (az ++ [a]) l i = (rowM az l i || (decide (0 < i) && rowM (az ++ [a]) l (i - 1))) := by
  rw [Bool.eq_iff_iff, Bool.or_eq_true, Bool.and_eq_true, rowM_iff, rowM_iff, rowM_iff, decide_eq_true_iff, Mt_snoc, Mt_snoc, if_pos h, if_pos h]
  constructor
  · rintro ⟨u, v, h1, h2⟩
    by_cases hv : v = []
    · subst hv; rw [List.append_nil] at h1; rw [h1]; exact .inl h2
    · by_cases h0 : i = 0
      · subst h0; simp at h1; exact absurd h1.2 hv
      · by_cases hil : i ≤ l.length
        · refine .inr ⟨by omega, u, v.dropLast, ?_, h2⟩
          have : (l.take i).dropLast = l.take (i - 1) := by
            rw [List.dropLast_eq_take, List.take_take, List.length_take]
            congr 1; omega
          rw [← this, h1, List.dropLast_append_of_ne_nil hv]
        · rw [List.take_of_length_le (by omega)] at h1
          refine .inr ⟨by omega, u, v, ?_, h2⟩
          rw [List.take_of_length_le (by omega)]; exact h1
  · rintro (h1 | ⟨h0, u, v, h1, h2⟩)
    · exact ⟨l.take i, [], by simp, h1⟩
    · by_cases hil : i ≤ l.length
      · refine ⟨u, v ++ [l[i - 1]'(by omega)], ?_, h2⟩
        rw [← List.append_assoc, ← h1]
        have := List.take_succ_eq_append_getElem (l := l) (i := i - 1) (by omega)
        rw [show i - 1 + 1 = i by omega] at this
        exact this
      · refine ⟨u, v, ?_, h2⟩
        rw [List.take_of_length_le (by omega)] at h1 ⊢
        exact h1
theorem row_one {a : Atm} (h : a.k ≠ 3) (az : List Atm) (l : List Nat) (i : Nat) (hi : i < l.length) :
    rowM (az ++ [a]) l (i + 1) = (rowM az l i && takA a (l.getD i 0)) := by
  rw [Bool.eq_iff_iff, Bool.and_eq_true, rowM_iff, rowM_iff, Mt_snoc, if_neg h]
  have e := List.take_succ_eq_append_getElem hi
  have g : l.getD i 0 = l[i] := by simp [List.getD_eq_getElem?_getD, hi]
  rw [g, e]
  constructor
  · rintro ⟨t, x, h1, h2, h3⟩
    obtain ⟨rfl, h5⟩ := List.append_inj' h1 rfl
    injection h5 with h5
    rw [h5]
    exact ⟨h2, h3⟩
  · rintro ⟨h1, h2⟩
    exact ⟨_, _, rfl, h1, h2⟩
theorem row_one0 {a : Atm} (h : a.k ≠ 3) (az : List Atm) (l : List Nat) : rowM (az ++ [a]) l 0 = false := by
  rw [← Bool.not_eq_true, rowM_iff, Mt_snoc, if_neg h]
  rintro ⟨t, x, h1, _⟩
  simp at h1
end Go.Proofs.YtjnoapbddifcpaaGreatDoor

namespace Go.Proofs.YtjnoapbddifcpaaGreatDoor
set_option linter.unusedVariables false

/-- One rune, perhaps behind a \; how many runes that takes (none: it is nothing). -/
def plainF : List Nat → Nat × Nat
  | [] => (0, 0)
  | [c] => if c = 92 then (0, 0) else (c, 1)
  | c :: r :: _ => if c = 92 then (r, 2) else (c, 1)
theorem plainF_le : ∀ l : List Nat, (plainF l).2 ≤ l.length
  | [] => Nat.le_refl _
  | [c] => by rw [plainF]; split <;> simp
  | c :: r :: t => by rw [plainF]; split <;> simp
/-- One rune, or two with a - between. -/
def spanF (l : List Nat) : (Nat × Nat) × Nat :=
  if (plainF l).2 = 0 then ((0, 0), 0)
  else if (l.drop (plainF l).2).length < 2 ∨ (l.drop (plainF l).2).getD 0 0 ≠ 45 ∨ (l.drop (plainF l).2).getD 1 0 = 93 then (((plainF l).1, (plainF l).1), (plainF l).2)
  else if (plainF (l.drop ((plainF l).2 + 1))).2 = 0 ∨ (plainF (l.drop ((plainF l).2 + 1))).1 < (plainF l).1 then ((0, 0), 0)
  else (((plainF l).1, (plainF (l.drop ((plainF l).2 + 1))).1), (plainF l).2 + 1 + (plainF (l.drop ((plainF l).2 + 1))).2)
theorem spanF_le (l : List Nat) : (spanF l).2 ≤ l.length := by
  have h1 := plainF_le l
  have h2 := plainF_le (l.drop ((plainF l).2 + 1))
  rw [List.length_drop] at h2
  unfold spanF
  split
  · exact Nat.zero_le _
  split
  · exact h1
  next h =>
    have h4 : ¬ (l.drop (plainF l).2).length < 2 := fun h' => h (.inl h')
    rw [List.length_drop] at h4
    split
    · exact Nat.zero_le _
    · show _ + 1 + _ ≤ _; omega
/-- The ranges of a set from a place on, and where it ends. -/
def setF (l : List Nat) (a : Nat) (acc : List (Nat × Nat)) : Option (List (Nat × Nat) × Nat) :=
  if a < l.length ∧ l.getD a 0 = 93 ∧ acc ≠ [] then some (acc, a + 1)
  else if h : (spanF (l.drop a)).2 = 0 then none
  else setF l (a + (spanF (l.drop a)).2) (acc ++ [(spanF (l.drop a)).1])
termination_by l.length + 1 - a
decreasing_by
  have h1 := spanF_le (l.drop a)
  rw [List.length_drop] at h1
  omega
theorem setF_done {l : List Nat} {a : Nat} {acc : List (Nat × Nat)} (h : a < l.length ∧ l.getD a 0 = 93 ∧ acc ≠ []) : setF l a acc = some (acc, a + 1) := by
  rw [setF, if_pos h]
theorem setF_none {l : List Nat} {a : Nat} {acc : List (Nat × Nat)} (h : ¬ (a < l.length ∧ l.getD a 0 = 93 ∧ acc ≠ [])) (h0 : (spanF (l.drop a)).2 = 0) : setF l a acc = none := by
  rw [setF, if_neg h, dif_pos h0]
theorem setF_more {l : List Nat} {a : Nat} {acc : List (Nat × Nat)} (h : ¬ (a < l.length ∧ l.getD a 0 = 93 ∧ acc ≠ [])) (h0 : (spanF (l.drop a)).2 ≠ 0) : setF l a acc = setF l (a + (spanF (l.drop a)).2) (acc ++ [(spanF (l.drop a)).1]) := by
  rw [setF, if_neg h, dif_neg h0]
theorem setF_out {l : List Nat} {a : Nat} {acc : List (Nat × Nat)} (h : ¬ a < l.length) : setF l a acc = none := by
  refine setF_none (fun h' => h h'.1) ?_
  rw [List.drop_of_length_le (by omega)]; rfl
theorem setF_le {l : List Nat} {a : Nat} {acc rs : List (Nat × Nat)} {e : Nat} (h : setF l a acc = some (rs, e)) : a < e ∧ e ≤ l.length := by
  by_cases h1 : a < l.length ∧ l.getD a 0 = 93 ∧ acc ≠ []
  · rw [setF_done h1] at h
    injection h with h; injection h with _ h; omega
  · by_cases h0 : (spanF (l.drop a)).2 = 0
    · rw [setF_none h1 h0] at h; cases h
    · rw [setF_more h1 h0] at h
      have hl := spanF_le (l.drop a)
      rw [List.length_drop] at hl
      have := setF_le h
      omega
termination_by l.length + 1 - a
decreasing_by
  have h1 := spanF_le (l.drop a)
  rw [List.length_drop] at h1
  omega
def rgI (rs : List (Nat × Nat)) : List (Int × Int) := rs.map fun p => ((p.1 : Int), (p.2 : Int))
/-- Is a set turned round? -/
def notF (l : List Nat) (a : Nat) : Bool := decide (a < l.length) && (decide (l.getD a 0 = 33) || decide (l.getD a 0 = 94))
/-- The first atom of a list of runes that isn't empty, and how many it takes. -/
def atomF (l : List Nat) : Option (Atm × Nat) :=
  if l.getD 0 0 = 42 then some (⟨3, 0, false, []⟩, 1)
  else if l.getD 0 0 = 63 then some (⟨2, 0, false, []⟩, 1)
  else if l.getD 0 0 = 91 then (setF (l.drop 1) (if notF (l.drop 1) 0 = true then 1 else 0) []).map fun p => (⟨4, 0, notF (l.drop 1) 0, rgI p.1⟩, p.2 + 1)
  else if (plainF l).2 = 0 then none
  else some (⟨1, ((plainF l).1 : Nat), false, []⟩, (plainF l).2)
theorem atomF_le {l : List Nat} {p : Atm × Nat} (h0 : 0 < l.length) (h : atomF l = some p) : 1 ≤ p.2 ∧ p.2 ≤ l.length := by
  unfold atomF at h
  split at h
  · injection h with h; subst h; exact ⟨Nat.le_refl _, h0⟩
  split at h
  · injection h with h; subst h; exact ⟨Nat.le_refl _, h0⟩
  split at h
  · obtain ⟨q, hq, rfl⟩ := Option.map_eq_some_iff.1 h
    obtain ⟨rs, e⟩ := q
    have := setF_le hq
    rw [List.length_drop] at this
    show 1 ≤ e + 1 ∧ e + 1 ≤ _
    omega
  split at h
  · cases h
  · injection h with h; subst h
    have := plainF_le l
    show 1 ≤ (plainF l).2 ∧ (plainF l).2 ≤ _
    omega
/-- All atoms of a list of runes; none, where something is wrong. -/
def compF (l : List Nat) (a : Nat) (acc : List Atm) : Option (List Atm) :=
  if ha : a < l.length then
    match h : atomF (l.drop a) with
    | none => none
    | some (x, k) => compF l (a + k) (acc ++ [x])
  else some acc
termination_by l.length - a
decreasing_by
  have h1 := atomF_le (l := l.drop a) (by rw [List.length_drop]; omega) h
  rw [List.length_drop] at h1
  have : 1 ≤ k := h1.1
  omega
theorem compF_end {l : List Nat} {a : Nat} {acc : List Atm} (h : ¬ a < l.length) : compF l a acc = some acc := by
  rw [compF, dif_neg h]
theorem compF_none {l : List Nat} {a : Nat} {acc : List Atm} (h : a < l.length) (h0 : atomF (l.drop a) = none) : compF l a acc = none := by
  rw [compF, dif_pos h]
  split
  · rfl
  next x k hx => rw [h0] at hx; cases hx
theorem compF_more {l : List Nat} {a : Nat} {acc : List Atm} {x : Atm} {k : Nat} (h : a < l.length) (h0 : atomF (l.drop a) = some (x, k)) : compF l a acc = compF l (a + k) (acc ++ [x]) := by
  rw [compF, dif_pos h]
  split
  next hx => rw [h0] at hx; cases hx
  next y m hx =>
    rw [h0] at hx
    injection hx with hx
    injection hx with e1 e2
    subst e1 e2
    rfl
end Go.Proofs.YtjnoapbddifcpaaGreatDoor

namespace Go.Proofs.YtjnoapbddifcpaaGreatDoor
set_option maxRecDepth 100000
open Go.RowKit Go.Joins Go.Deep

/-- A slice of runes. -/
def Rn (w : World) (A : Option Addr) (l : List Nat) : Prop := 0 < l.length → ∃ b off, A = some ⟨b, off, none⟩ ∧ b < w.heap.size ∧ ∀ i, i < l.length → w.cell? ⟨b, off + i, none⟩ = some (.int .i32 ((l.getD i 0 : Nat) : Int))
/-- All are runes. -/
def AllR (l : List Nat) : Prop := ∀ i, l.getD i 0 ≤ 1114111
theorem AllR.drop {l : List Nat} (h : AllR l) (k : Nat) : AllR (l.drop k) := fun i => by
  have := h (k + i)
  rw [List.getD_eq_getElem?_getD, List.getElem?_drop, ← List.getD_eq_getElem?_getD]
  exact this
theorem Rn.below {w w' : World} {B : Nat} {A : Option Addr} {l : List Nat} (h : Rn w A l) (hB : w.heap.size ≤ B) (hb : Below B w w') : Rn w' A l := fun h0 => by
  obtain ⟨b, off, e, hlt, hc⟩ := h h0
  exact ⟨b, off, e, Nat.lt_of_lt_of_le hlt hb.size, fun i hi => (hb.cell (p := ⟨b, off + i, none⟩) (Nat.lt_of_lt_of_le hlt hB)).trans (hc i hi)⟩
theorem info_i32 : (Tryz.prog.info? 21).map (·.size) = some 1 := by kernel_rfl
/-- A slice's end from a place on. -/
theorem rn_slice (A : Option Addr) (n cap k : Nat) (hk : k ≤ n) (hcap : n ≤ cap) :
    ∃ A', (∀ w : World, (Instr.slice 148 (.slice A n cap) (some (.int .i64 (k : Nat))) none none).run Tryz.prog w = .ok (.slice A' (n - k) (cap - k)) w) ∧ ∀ (w : World) (l : List Nat), l.length = n → Rn w A l → Rn w A' (l.drop k) := by
  have h1 : (0 : Int) ≤ (k : Int) := by omega
  have h2 : (k : Int) ≤ (n : Int) := by omega
  refine ⟨if cap = k then A else A.map (·.add (k * 1)), fun w => ?_, fun w l hl h h0 => ?_⟩
  · rw [run_slice_l (P := Tryz.prog) w 148 A n cap Tryz.underlying148 .i64 (k : Int) h1 h2]
    obtain ⟨i, hi, hs⟩ := Option.map_eq_some_iff.1 info_i32
    have hsz : (sizeOf (Tryz.prog.elem 148)).run Tryz.prog w = .ok 1 w := by
      show (sizeOf 21).run Tryz.prog w = .ok 1 w
      simp [sizeOf, typeInfo, hi, hs]
    rw [hsz]
    simp [Result.andThen, sliced]
  · rw [List.length_drop] at h0
    rw [if_neg (by omega)]
    obtain ⟨b, off, rfl, hlt, hc⟩ := h (by omega)
    refine ⟨b, off + k * 1, by rw [Option.map_some, Addr.add_lit], hlt, fun i hi => ?_⟩
    rw [List.length_drop] at hi
    have := hc (k + i) (by omega)
    rw [List.getD_eq_getElem?_getD, List.getElem?_drop, ← List.getD_eq_getElem?_getD, ← this]
    congr 2
    omega

set_option maxHeartbeats 2000000 in
theorem plain_any (A : Option Addr) (n cap : Nat) (l : List Nat) (hn : l.length = n) (h0 : 0 < n) (hr : AllR l) (w : World) (hR : Rn w A l) :
    Calls Tryz.prog 99 #[.slice A n cap] w fun e w' => e = .returned (.tuple #[.int .i32 ((plainF l).1 : Nat), .int .i64 ((plainF l).2 : Nat)]) ∧ w = w' := by
  obtain ⟨b, off, rfl, hlt, hc⟩ := hR (by omega)
  rcases l with _ | ⟨c, _ | ⟨r, t⟩⟩
  · exact absurd hn (by simp; omega)
  · obtain rfl : n = 1 := by simpa using hn.symm
    have c0' : w.cell? ⟨b, off, none⟩ = some (.int .i32 (c : Nat)) := hc 0 (by simp)
    clear hc hn
    have HP := Lib.hid (show plainF [c] = if c = 92 then (0, 0) else (c, 1) from rfl)
    generalize plainF [c] = q at *
    by_cases h92 : c = 92
    · have hq := HP.out.trans (if_pos h92)
      subst hq
      subst h92
      clear HP
      go_enter Tryz.func99, Tryz.ntmps99
      go_wp2
      go_ret2
      exact ⟨rfl, rfl⟩
    · have hq := HP.out.trans (if_neg h92)
      subst hq
      clear HP
      have g1 : ((c : Int) != 92) = true := by rw [bne_iff_ne]; omega
      have g2 : ((c : Int) == 92) = false := by rw [beq_eq_false_iff_ne]; omega
      clear h92
      go_enter Tryz.func99, Tryz.ntmps99
      go_wp2
      go_ret2
      exact ⟨rfl, rfl⟩
  · have c0' : w.cell? ⟨b, off, none⟩ = some (.int .i32 (c : Nat)) := hc 0 (by simp)
    have c1' : w.cell? ⟨b, off + 1, none⟩ = some (.int .i32 (r : Nat)) := hc 1 (by simp)
    have hn2 : 2 ≤ n := by rw [← hn]; simp
    clear hc hn
    have HP := Lib.hid (show plainF (c :: r :: t) = if c = 92 then (r, 2) else (c, 1) from rfl)
    generalize plainF (c :: r :: t) = q at *
    by_cases h92 : c = 92
    · have hq := HP.out.trans (if_pos h92)
      subst hq
      subst h92
      clear HP
      have g3 : ((n : Int) == 1) = false := by rw [beq_eq_false_iff_ne]; omega
      go_enter Tryz.func99, Tryz.ntmps99
      go_wp2
      go_ret2
      exact ⟨rfl, rfl⟩
    · have hq := HP.out.trans (if_neg h92)
      subst hq
      clear HP
      have g1 : ((c : Int) != 92) = true := by rw [bne_iff_ne]; omega
      have g2 : ((c : Int) == 92) = false := by rw [beq_eq_false_iff_ne]; omega
      clear h92
      go_enter Tryz.func99, Tryz.ntmps99
      go_wp2
      go_ret2
      exact ⟨rfl, rfl⟩
end Go.Proofs.YtjnoapbddifcpaaGreatDoor
