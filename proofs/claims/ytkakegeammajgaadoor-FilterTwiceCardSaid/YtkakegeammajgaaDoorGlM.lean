/-
  What a pattern's atoms match: mathematics of lists.
-/
import Derived.Lib.Hide
namespace Go.Proofs.YtkakegeammajgaaDoor
set_option linter.unusedVariables false

/-- An atom: its kind, its rune, whether it is turned round, its ranges. -/
structure Atm where
  k : Int
  r : Int
  n : Bool
  rs : List (Int × Int)
def hasA (rs : List (Int × Int)) (x : Nat) : Bool := rs.any fun p => decide (p.1 ≤ (x : Int)) && decide ((x : Int) ≤ p.2)
def takA (a : Atm) (x : Nat) : Bool := if a.k = 1 then decide (a.r = (x : Int)) else if a.k = 2 then true else decide (a.k = 4) && (hasA a.rs x != a.n)
/-- May these atoms be that list of runes? -/
def Mt : List Atm → List Nat → Prop
  | [], l => l = []
  | a :: as, l => if a.k = 3 then ∃ u v, l = u ++ v ∧ Mt as v else ∃ x t, l = x :: t ∧ takA a x = true ∧ Mt as t
theorem Mt_nil (l : List Nat) : Mt [] l ↔ l = [] := Iff.rfl
theorem Mt_star {a : Atm} (h : a.k = 3) (as : List Atm) (l : List Nat) : Mt (a :: as) l ↔ ∃ u v, l = u ++ v ∧ Mt as v := by rw [Mt, if_pos h]
theorem Mt_one {a : Atm} (h : a.k ≠ 3) (as : List Atm) (l : List Nat) : Mt (a :: as) l ↔ ∃ x t, l = x :: t ∧ takA a x = true ∧ Mt as t := by rw [Mt, if_neg h]
theorem Mt_app : ∀ (as bs : List Atm) (l : List Nat), Mt (as ++ bs) l ↔ ∃ u v, l = u ++ v ∧ Mt as u ∧ Mt bs v
  | [], bs, l => by
    constructor
    · intro h; exact ⟨[], l, rfl, rfl, h⟩
    · rintro ⟨u, v, rfl, rfl, h⟩; exact h
  | a :: as, bs, l => by
    rw [List.cons_append]
    by_cases h : a.k = 3
    · rw [Mt_star h]
      constructor
      · rintro ⟨u, v, rfl, hv⟩
        obtain ⟨p, q, rfl, h1, h2⟩ := (Mt_app as bs v).1 hv
        exact ⟨u ++ p, q, by rw [List.append_assoc], (Mt_star h _ _).2 ⟨u, p, rfl, h1⟩, h2⟩
      · rintro ⟨u, v, rfl, h1, h2⟩
        obtain ⟨p, q, rfl, h3⟩ := (Mt_star h _ _).1 h1
        exact ⟨p, q ++ v, by rw [List.append_assoc], (Mt_app as bs _).2 ⟨q, v, rfl, h3, h2⟩⟩
    · rw [Mt_one h]
      constructor
      · rintro ⟨x, t, rfl, hx, ht⟩
        obtain ⟨p, q, rfl, h1, h2⟩ := (Mt_app as bs t).1 ht
        exact ⟨x :: p, q, rfl, (Mt_one h _ _).2 ⟨x, p, rfl, hx, h1⟩, h2⟩
      · rintro ⟨u, v, rfl, h1, h2⟩
        obtain ⟨x, p, rfl, hx, h3⟩ := (Mt_one h _ _).1 h1
        exact ⟨x, p ++ v, rfl, hx, (Mt_app as bs _).2 ⟨p, v, rfl, h3, h2⟩⟩
theorem Mt_len : ∀ (as : List Atm) (l : List Nat), (∀ a ∈ as, a.k ≠ 3) → Mt as l → l.length = as.length
  | [], l, _, h => by rw [(Mt_nil l).1 h]; rfl
  | a :: as, l, hs, h => by
    obtain ⟨x, t, rfl, _, h2⟩ := (Mt_one (hs a (by simp)) _ _).1 h
    rw [List.length_cons, List.length_cons, Mt_len as t (fun b hb => hs b (by simp [hb])) h2]
/-- Of atoms without a star ahead: what is behind them. -/
theorem Mt_behind {as bs : List Atm} {l : List Nat} (hs : ∀ a ∈ as, a.k ≠ 3) (h : Mt (as ++ bs) l) : as.length ≤ l.length ∧ Mt bs (l.drop as.length) := by
  obtain ⟨u, v, rfl, h1, h2⟩ := (Mt_app as bs l).1 h
  have hl := Mt_len as u hs h1
  constructor
  · rw [List.length_append]; omega
  · rw [← hl, List.drop_left]; exact h2
theorem Mt_stars : ∀ as : List Atm, Mt as [] ↔ ∀ a ∈ as, a.k = 3
  | [] => by simp [Mt_nil]
  | a :: as => by
    by_cases h : a.k = 3
    · rw [Mt_star h]
      constructor
      · rintro ⟨u, v, he, hv⟩
        obtain ⟨rfl, rfl⟩ := List.append_eq_nil_iff.1 he.symm
        intro b hb
        rcases List.mem_cons.1 hb with rfl | hb
        · exact h
        · exact (Mt_stars as).1 hv b hb
      · intro hb
        exact ⟨[], [], rfl, (Mt_stars as).2 fun b hb' => hb b (by simp [hb'])⟩
    · rw [Mt_one h]
      constructor
      · rintro ⟨x, t, he, _⟩; cases he
      · intro hb; exact absurd (hb a (by simp)) h

/-! ## The way that tries again behind the last star alone -/
def Gr (all : List Atm) (l0 : List Nat) (left : List Atm) (s : List Nat) (met : Bool) (bh : List Atm) (ag : List Nat) : Prop :=
  (Mt all l0 ↔ (Mt left s ∨ met = true ∧ ∃ i, 1 ≤ i ∧ i ≤ ag.length ∧ Mt bh (ag.drop i))) ∧
  (met = true → ∃ pre, bh = pre ++ left ∧ (∀ a ∈ pre, a.k ≠ 3) ∧ s = ag.drop pre.length ∧ pre.length ≤ ag.length)
theorem gr_start (all : List Atm) (l : List Nat) : Gr all l all l false [] [] :=
  ⟨⟨fun h => .inl h, fun h => h.elim id (fun h => by cases h.1)⟩, fun h => by cases h⟩
theorem Mt_star_drop {a : Atm} (h : a.k = 3) (as : List Atm) (l : List Nat) : Mt (a :: as) l ↔ ∃ i, i ≤ l.length ∧ Mt as (l.drop i) := by
  rw [Mt_star h]
  constructor
  · rintro ⟨u, v, rfl, hv⟩
    exact ⟨u.length, by rw [List.length_append]; omega, by rw [List.drop_left]; exact hv⟩
  · rintro ⟨i, _, h2⟩
    exact ⟨l.take i, l.drop i, (List.take_append_drop i l).symm, h2⟩
theorem gr_star {all : List Atm} {l0 : List Nat} {a : Atm} {t : List Atm} {s : List Nat} {met : Bool} {bh : List Atm} {ag : List Nat} (ha : a.k = 3)
    (h : Gr all l0 (a :: t) s met bh ag) : Gr all l0 t s true t s := by
  refine ⟨?_, fun _ => ⟨[], rfl, (fun _ h => by cases h), rfl, Nat.zero_le _⟩⟩
  rw [h.1]
  constructor
  · rintro (h1 | ⟨hm, i, hi, hi2, h1⟩)
    · obtain ⟨i, hi, h2⟩ := (Mt_star_drop ha t s).1 h1
      by_cases h0 : i = 0
      · subst h0; exact .inl (by simpa using h2)
      · exact .inr ⟨rfl, i, by omega, hi, h2⟩
    · obtain ⟨pre, rfl, hp, rfl, hl⟩ := h.2 hm
      obtain ⟨h3, h4⟩ := Mt_behind hp h1
      obtain ⟨j, hj, h5⟩ := (Mt_star_drop ha t _).1 h4
      rw [List.drop_drop, List.drop_drop] at h5
      rw [List.length_drop, List.length_drop] at hj
      rw [List.length_drop] at h3
      refine .inr ⟨rfl, i + j, by omega, by rw [List.length_drop]; omega, ?_⟩
      rw [List.drop_drop]
      rw [show pre.length + (i + j) = i + (pre.length + j) by omega]
      exact h5
  · rintro (h1 | ⟨_, i, _, hi2, h1⟩)
    · exact .inl ((Mt_star_drop ha t s).2 ⟨0, Nat.zero_le _, h1⟩)
    · exact .inl ((Mt_star_drop ha t s).2 ⟨i, hi2, h1⟩)
theorem gr_take {all : List Atm} {l0 : List Nat} {a : Atm} {t : List Atm} {x : Nat} {s : List Nat} {met : Bool} {bh : List Atm} {ag : List Nat} (ha : a.k ≠ 3) (hx : takA a x = true)
    (h : Gr all l0 (a :: t) (x :: s) met bh ag) : Gr all l0 t s met bh ag := by
  refine ⟨?_, fun hm => ?_⟩
  · rw [h.1, Mt_one ha]
    constructor
    · rintro (⟨y, u, he, _, h2⟩ | h2)
      · injection he with e1 e2; subst e1 e2; exact .inl h2
      · exact .inr h2
    · rintro (h2 | h2)
      · exact .inl ⟨x, s, rfl, hx, h2⟩
      · exact .inr h2
  · obtain ⟨pre, rfl, hp, hs, hl⟩ := h.2 hm
    have hlt : pre.length < ag.length := by
      have : (x :: s).length = (ag.drop pre.length).length := by rw [hs]
      rw [List.length_drop, List.length_cons] at this
      omega
    refine ⟨pre ++ [a], by rw [List.append_assoc]; rfl, ?_, ?_, ?_⟩
    · intro b hb
      rcases List.mem_append.1 hb with hb | hb
      · exact hp b hb
      · obtain rfl : b = a := by simpa using hb
        exact ha
    · rw [List.length_append, List.length_singleton, ← List.drop_drop, ← hs]; rfl
    · rw [List.length_append, List.length_singleton]; omega
theorem gr_back {all : List Atm} {l0 : List Nat} {left : List Atm} {s : List Nat} {bh : List Atm} {ag : List Nat} (hs : s ≠ []) (hn : ¬ Mt left s)
    (h : Gr all l0 left s true bh ag) : Gr all l0 bh (ag.drop 1) true bh (ag.drop 1) := by
  obtain ⟨pre, hb, hp, hs2, hl⟩ := h.2 rfl
  have hag : 0 < ag.length := by
    rcases Nat.eq_zero_or_pos ag.length with h0 | h0
    · exfalso; apply hs; rw [hs2, List.length_eq_zero_iff.1 h0]; simp
    · exact h0
  refine ⟨?_, fun _ => ⟨[], rfl, (fun _ h => by cases h), rfl, Nat.zero_le _⟩⟩
  rw [h.1]
  constructor
  · rintro (h1 | ⟨_, i, hi, hi2, h1⟩)
    · exact absurd h1 hn
    · by_cases h0 : i = 1
      · subst h0; exact .inl h1
      · refine .inr ⟨rfl, i - 1, by omega, by rw [List.length_drop]; omega, ?_⟩
        rw [List.drop_drop, show 1 + (i - 1) = i by omega]; exact h1
  · rintro (h1 | ⟨_, i, hi, hi2, h1⟩)
    · exact .inr ⟨rfl, 1, Nat.le_refl _, hag, h1⟩
    · rw [List.length_drop] at hi2
      rw [List.drop_drop] at h1
      exact .inr ⟨rfl, 1 + i, by omega, by omega, h1⟩
theorem gr_no {all : List Atm} {l0 : List Nat} {left : List Atm} {s : List Nat} {bh : List Atm} {ag : List Nat} (hn : ¬ Mt left s)
    (h : Gr all l0 left s false bh ag) : ¬ Mt all l0 := by
  rw [h.1]
  rintro (h1 | ⟨h1, _⟩)
  · exact hn h1
  · cases h1
theorem gr_end {all : List Atm} {l0 : List Nat} {left : List Atm} {met : Bool} {bh : List Atm} {ag : List Nat}
    (h : Gr all l0 left [] met bh ag) : Mt all l0 ↔ ∀ a ∈ left, a.k = 3 := by
  rw [h.1, ← Mt_stars]
  constructor
  · rintro (h1 | ⟨hm, i, hi, hi2, h1⟩)
    · exact h1
    · exfalso
      obtain ⟨pre, rfl, hp, hs, hl⟩ := h.2 hm
      obtain ⟨h3, _⟩ := Mt_behind hp h1
      rw [List.length_drop] at h3
      have : (ag.drop pre.length).length = 0 := by rw [← hs]; rfl
      rw [List.length_drop] at this
      omega
  · intro h1; exact .inl h1
theorem not_head {a : Atm} {t : List Atm} {x : Nat} {s : List Nat} (ha : a.k ≠ 3) (hx : takA a x = false) : ¬ Mt (a :: t) (x :: s) := by
  rw [Mt_one ha]
  rintro ⟨y, u, he, h1, _⟩
  injection he with e1 e2
  subst e1
  rw [hx] at h1
  cases h1
theorem not_none {s : List Nat} (h : s ≠ []) : ¬ Mt [] s := h

/-! ## The document's way: row by row -/
open Classical in
/-- Whether the first atoms may be the first i runes. -/
noncomputable def rowM (as : List Atm) (l : List Nat) (i : Nat) : Bool := decide (Mt as (l.take i))
open Classical in
noncomputable def mtB (as : List Atm) (l : List Nat) : Bool := decide (Mt as l)
theorem mtB_iff (as : List Atm) (l : List Nat) : mtB as l = true ↔ Mt as l := by classical unfold mtB; exact decide_eq_true_iff
theorem rowM_iff (as : List Atm) (l : List Nat) (i : Nat) : rowM as l i = true ↔ Mt as (l.take i) := by classical unfold rowM; exact decide_eq_true_iff
theorem row_nil (l : List Nat) (i : Nat) (hi : i ≤ l.length) : rowM [] l i = decide (i = 0) := by
  rw [Bool.eq_iff_iff, rowM_iff, decide_eq_true_iff, Mt_nil, List.take_eq_nil_iff]
  constructor
  · rintro (h | h)
    · exact h
    · subst h; simp at hi; exact hi
  · intro h; exact .inl h
theorem row_full (as : List Atm) (l : List Nat) : rowM as l l.length = mtB as l := by
  rw [Bool.eq_iff_iff, rowM_iff, mtB_iff, List.take_length]
theorem Mt_snoc (as : List Atm) (a : Atm) (l : List Nat) : Mt (as ++ [a]) l ↔ if a.k = 3 then ∃ u v, l = u ++ v ∧ Mt as u else ∃ t x, l = t ++ [x] ∧ Mt as t ∧ takA a x = true := by
  rw [Mt_app]
  by_cases h : a.k = 3
  · rw [if_pos h]
    constructor
    · rintro ⟨u, v, h1, h2, _⟩; exact ⟨u, v, h1, h2⟩
    · rintro ⟨u, v, h1, h2⟩; exact ⟨u, v, h1, h2, (Mt_star h _ _).2 ⟨v, [], by simp, rfl⟩⟩
  · rw [if_neg h]
    constructor
    · rintro ⟨u, v, rfl, h2, h3⟩
      obtain ⟨x, t, rfl, hx, ht⟩ := (Mt_one h _ _).1 h3
      rw [(Mt_nil t).1 ht]
      exact ⟨u, x, rfl, h2, hx⟩
    · rintro ⟨t, x, rfl, h2, h3⟩
      exact ⟨t, [x], rfl, h2, (Mt_one h _ _).2 ⟨x, [], rfl, h3, rfl⟩⟩
theorem row_star {a : Atm} (h : a.k = 3) (as : List Atm) (l : List Nat) (i : Nat) :
    rowM (as ++ [a]) l i = (rowM as l i || (decide (0 < i) && rowM (as ++ [a]) l (i - 1))) := by
  rw [Bool.eq_iff_iff, Bool.or_eq_true, Bool.and_eq_true, rowM_iff, rowM_iff, rowM_iff, decide_eq_true_iff, Mt_snoc, Mt_snoc, if_pos h, if_pos h]
  constructor
  · rintro ⟨u, v, h1, h2⟩
    by_cases hv : v = []
    · subst hv; rw [List.append_nil] at h1; rw [h1]; exact .inl h2
    · by_cases h0 : i = 0
      · subst h0; simp at h1; exact absurd h1.2 hv
      · by_cases hil : i ≤ l.length
        · refine .inr ⟨by omega, u, v.dropLast, ?_, h2⟩
          have : (l.take i).dropLast = l.take (i - 1) := by
            rw [List.dropLast_eq_take, List.take_take, List.length_take]
            congr 1; omega
          rw [← this, h1, List.dropLast_append_of_ne_nil hv]
        · rw [List.take_of_length_le (by omega)] at h1
          refine .inr ⟨by omega, u, v, ?_, h2⟩
          rw [List.take_of_length_le (by omega)]; exact h1
  · rintro (h1 | ⟨h0, u, v, h1, h2⟩)
    · exact ⟨l.take i, [], by simp, h1⟩
    · by_cases hil : i ≤ l.length
      · refine ⟨u, v ++ [l[i - 1]'(by omega)], ?_, h2⟩
        rw [← List.append_assoc, ← h1]
        have := List.take_succ_eq_append_getElem (l := l) (i := i - 1) (by omega)
        rw [show i - 1 + 1 = i by omega] at this
        exact this
      · refine ⟨u, v, ?_, h2⟩
        rw [List.take_of_length_le (by omega)] at h1 ⊢
        exact h1
theorem row_one {a : Atm} (h : a.k ≠ 3) (as : List Atm) (l : List Nat) (i : Nat) (hi : i < l.length) :
    rowM (as ++ [a]) l (i + 1) = (rowM as l i && takA a (l.getD i 0)) := by
  rw [Bool.eq_iff_iff, Bool.and_eq_true, rowM_iff, rowM_iff, Mt_snoc, if_neg h]
  have e := List.take_succ_eq_append_getElem hi
  have g : l.getD i 0 = l[i] := by simp [List.getD_eq_getElem?_getD, hi]
  rw [g, e]
  constructor
  · rintro ⟨t, x, h1, h2, h3⟩
    obtain ⟨rfl, h5⟩ := List.append_inj' h1 rfl
    injection h5 with h5
    rw [h5]
    exact ⟨h2, h3⟩
  · rintro ⟨h1, h2⟩
    exact ⟨_, _, rfl, h1, h2⟩
theorem row_one0 {a : Atm} (h : a.k ≠ 3) (as : List Atm) (l : List Nat) : rowM (as ++ [a]) l 0 = false := by
  rw [← Bool.not_eq_true, rowM_iff, Mt_snoc, if_neg h]
  rintro ⟨t, x, h1, _⟩
  simp at h1
end Go.Proofs.YtkakegeammajgaaDoor
