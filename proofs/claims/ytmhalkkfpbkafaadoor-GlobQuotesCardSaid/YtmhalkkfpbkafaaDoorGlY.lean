/-
  Glob: what a quote's bytes are, read as runes.
-/
import Derived.Test.YtmhalkkfpbkafaaDoorGlV
namespace Go.Proofs.YtmhalkkfpbkafaaDoor
set_option maxRecDepth 100000
set_option linter.unusedSimpArgs false
set_option linter.unusedVariables false
open Go.RowKit Go.Deep Go.Joins
open Go.Lib hiding intOf

/-- The first rune of a list of bytes, and how many it has. -/
def dcl (l : List Nat) : Nat × Nat := decodeN l.length (l.getD 0 0) (l.getD 1 0) (l.getD 2 0) (l.getD 3 0)
def runesL : Nat → List Nat → List Nat
  | 0, _ => []
  | _ + 1, [] => []
  | f + 1, x :: l => (dcl (x :: l)).1 :: runesL f ((x :: l).drop (dcl (x :: l)).2)
theorem dcl_width (l : List Nat) : 1 ≤ (dcl l).2 := by
  unfold dcl decodeN
  repeat' split
  all_goals first | exact Nat.le_refl _ | exact Nat.le_succ 1 | exact (by omega : (1 : Nat) ≤ 3) | exact (by omega : (1 : Nat) ≤ 4)
theorem runesL_fuel : ∀ (f g : Nat) (l : List Nat), l.length ≤ f → l.length ≤ g → runesL f l = runesL g l
  | 0, g, l, h, _ => by
    obtain rfl : l = [] := List.eq_nil_of_length_eq_zero (by omega)
    cases g <;> rfl
  | f + 1, 0, l, _, h => by
    obtain rfl : l = [] := List.eq_nil_of_length_eq_zero (by omega)
    rfl
  | f + 1, g + 1, [], _, _ => rfl
  | f + 1, g + 1, x :: l, h1, h2 => by
    have hw := dcl_width (x :: l)
    rw [runesL, runesL, runesL_fuel f g _ (by rw [List.length_drop]; simp only [List.length_cons] at *; omega) (by rw [List.length_drop]; simp only [List.length_cons] at *; omega)]
/-! ### A quote -/
theorem quo1_plain {c : Nat} (h : 93 ≤ c) : quo1 c = [c] := by
  unfold quo1; rw [if_neg (by omega)]
theorem dec_none {n b0 b1 b2 b3 : Nat} (h0 : 128 ≤ b0) (h1 : ¬ (1 < n ∧ b1 / 64 = 2)) : decodeN n b0 b1 b2 b3 = (65533, 1) := by
  unfold decodeN
  rw [if_neg (by omega), if_neg (fun h => h1 h.2), if_neg (fun h => h1 h.2.1), if_neg (fun h => h1 h.2.1)]
theorem dec_two {n m b0 b1 b2 b3 c2 c3 : Nat} (h0 : 128 ≤ b0) (h1 : 1 < n) (h1' : 1 < m) (h2 : ¬ (2 < n ∧ b2 / 64 = 2)) (h2' : ¬ (2 < m ∧ c2 / 64 = 2)) : decodeN n b0 b1 b2 b3 = decodeN m b0 b1 c2 c3 := by
  have a1 := eq_true h1
  have a2 := eq_true h1'
  have a3 := eq_false h2
  have a4 := eq_false h2'
  simp only [decodeN, a1, a2, a3, a4, true_and, false_and, and_false, if_false]
theorem dec_three {n m b0 b1 b2 b3 c3 : Nat} (h0 : 128 ≤ b0) (h1 : 2 < n) (h1' : 2 < m) (h2 : ¬ (3 < n ∧ b3 / 64 = 2)) (h2' : ¬ (3 < m ∧ c3 / 64 = 2)) : decodeN n b0 b1 b2 b3 = decodeN m b0 b1 b2 c3 := by
  have a1 := eq_true (show 1 < n by omega)
  have a2 := eq_true (show 1 < m by omega)
  have b1' := eq_true h1
  have b2' := eq_true h1'
  have a3 := eq_false h2
  have a4 := eq_false h2'
  simp only [decodeN, a1, a2, b1', b2', a3, a4, true_and, false_and, and_false, if_false]
theorem dec_four {n m b0 b1 b2 b3 : Nat} (h1 : 3 < n) (h1' : 3 < m) : decodeN n b0 b1 b2 b3 = decodeN m b0 b1 b2 b3 := by
  have a1 := eq_true (show 1 < n by omega)
  have a2 := eq_true (show 1 < m by omega)
  have b1' := eq_true (show 2 < n by omega)
  have b2' := eq_true (show 2 < m by omega)
  have a3 := eq_true h1
  have a4 := eq_true h1'
  simp only [decodeN, a1, a2, b1', b2', a3, a4]
/-- How many bytes a rune takes: what they are. -/
theorem dec_width2 {n b0 b1 b2 b3 : Nat} (h0 : 128 ≤ b0) : (decodeN n b0 b1 b2 b3).2 = 1 ∨ ((decodeN n b0 b1 b2 b3).2 = 2 ∧ 1 < n ∧ b1 / 64 = 2) ∨ ((decodeN n b0 b1 b2 b3).2 = 3 ∧ (1 < n ∧ b1 / 64 = 2) ∧ 2 < n ∧ b2 / 64 = 2) ∨ ((decodeN n b0 b1 b2 b3).2 = 4 ∧ (1 < n ∧ b1 / 64 = 2) ∧ (2 < n ∧ b2 / 64 = 2) ∧ 3 < n ∧ b3 / 64 = 2) := by
  unfold decodeN
  rw [if_neg (by omega)]
  repeat' split
  all_goals first
    | exact .inl rfl
    | exact .inr (.inl ⟨rfl, by assumption⟩)
    | (next h _ => exact .inr (.inl ⟨rfl, h.2⟩))
    | (next h _ => exact .inr (.inr (.inl ⟨rfl, h.2⟩)))
    | (next h _ => exact .inr (.inr (.inr ⟨rfl, h.2⟩)))
theorem dec_big {n b0 b1 b2 b3 : Nat} (h0 : 128 ≤ b0) : 93 ≤ (decodeN n b0 b1 b2 b3).1 := by
  unfold decodeN
  rw [if_neg (by omega)]
  repeat' split
  all_goals first
    | exact by decide
    | (next h => show 93 ≤ _; omega)
/-- What begins a list: continuations stay, what is none stays none. -/
theorem quo_head (t : List Nat) : (t = [] ∧ quoL t = []) ∨ (∃ b t1, t = b :: t1 ∧ b / 64 = 2 ∧ quoL t = b :: quoL t1) ∨ (∃ b t1 c u, t = b :: t1 ∧ b / 64 ≠ 2 ∧ quoL t = c :: u ∧ c / 64 ≠ 2) := by
  rcases t with _ | ⟨b, t1⟩
  · exact .inl ⟨rfl, rfl⟩
  · by_cases h : b / 64 = 2
    · exact .inr (.inl ⟨b, t1, rfl, h, by show quo1 b ++ _ = _; rw [quo1_plain (by omega)]; rfl⟩)
    · refine .inr (.inr ?_)
      show ∃ b' t1' c u, b :: t1 = b' :: t1' ∧ b' / 64 ≠ 2 ∧ quo1 b ++ quoL t1 = c :: u ∧ c / 64 ≠ 2
      unfold quo1
      split
      · exact ⟨b, t1, 92, b :: quoL t1, rfl, h, rfl, by decide⟩
      · exact ⟨b, t1, b, quoL t1, rfl, h, rfl, h⟩
/-- A rune whose first byte is 128 at least is read the same in a quote. -/
theorem dcl_quo (b0 : Nat) (t : List Nat) (h0 : 128 ≤ b0) : dcl (b0 :: quoL t) = dcl (b0 :: t) ∧ (b0 :: quoL t).drop (dcl (b0 :: t)).2 = quoL ((b0 :: t).drop (dcl (b0 :: t)).2) := by
  have one : ∀ u : List Nat, (dcl (b0 :: t)).2 = 1 → u = quoL t → (b0 :: u).drop (dcl (b0 :: t)).2 = quoL ((b0 :: t).drop (dcl (b0 :: t)).2) := fun u h e => by rw [h, e]; rfl
  rcases quo_head t with ⟨rfl, e⟩ | ⟨b1, t1, rfl, hb1, e1⟩ | ⟨b1, t1, c, u, rfl, hb1, e, hc⟩
  · rw [e]
    have hd : dcl [b0] = (65533, 1) := dec_none h0 (by simp)
    exact ⟨rfl, by rw [hd]; rfl⟩
  · rw [e1]
    rcases quo_head t1 with ⟨rfl, e⟩ | ⟨b2, t2, rfl, hb2, e2⟩ | ⟨b2, t2, c, u, rfl, hb2, e, hc⟩
    · rw [e]
      refine ⟨rfl, ?_⟩
      rcases dec_width2 (n := 2) (b1 := b1) (b2 := 0) (b3 := 0) h0 with h | ⟨h, _⟩ | ⟨h, _, h2, _⟩ | ⟨h, _, ⟨h2, _⟩, _⟩
      · rw [show (dcl [b0, b1]).2 = 1 from h]; show [b1] = quoL [b1]; rw [e1, e]
      · rw [show (dcl [b0, b1]).2 = 2 from h]; rfl
      · omega
      · omega
    · rw [e2]
      rcases quo_head t2 with ⟨rfl, e⟩ | ⟨b3, t3, rfl, hb3, e3⟩ | ⟨b3, t3, c, u, rfl, hb3, e, hc⟩
      · rw [e]
        refine ⟨rfl, ?_⟩
        rcases dec_width2 (n := 3) (b1 := b1) (b2 := b2) (b3 := 0) h0 with h | ⟨h, _⟩ | ⟨h, _⟩ | ⟨h, _, _, h2, _⟩
        · rw [show (dcl [b0, b1, b2]).2 = 1 from h]; show [b1, b2] = quoL [b1, b2]; rw [e1, e2, e]
        · rw [show (dcl [b0, b1, b2]).2 = 2 from h]; show [b2] = quoL [b2]; rw [e2, e]
        · rw [show (dcl [b0, b1, b2]).2 = 3 from h]; rfl
        · omega
      · rw [e3]
        have hd : dcl (b0 :: b1 :: b2 :: b3 :: quoL t3) = dcl (b0 :: b1 :: b2 :: b3 :: t3) := dec_four (by simp only [List.length_cons]; omega) (by simp only [List.length_cons]; omega)
        refine ⟨hd, ?_⟩
        rcases dec_width2 (n := (b0 :: b1 :: b2 :: b3 :: t3).length) (b1 := b1) (b2 := b2) (b3 := b3) h0 with h | ⟨h, _⟩ | ⟨h, _⟩ | ⟨h, _⟩
        · rw [show (dcl (b0 :: b1 :: b2 :: b3 :: t3)).2 = 1 from h]; show b1 :: b2 :: b3 :: quoL t3 = quoL (b1 :: b2 :: b3 :: t3); rw [e1, e2, e3]
        · rw [show (dcl (b0 :: b1 :: b2 :: b3 :: t3)).2 = 2 from h]; show b2 :: b3 :: quoL t3 = quoL (b2 :: b3 :: t3); rw [e2, e3]
        · rw [show (dcl (b0 :: b1 :: b2 :: b3 :: t3)).2 = 3 from h]; show b3 :: quoL t3 = quoL (b3 :: t3); rw [e3]
        · rw [show (dcl (b0 :: b1 :: b2 :: b3 :: t3)).2 = 4 from h]; rfl
      · have hd : dcl (b0 :: b1 :: b2 :: quoL (b3 :: t3)) = dcl (b0 :: b1 :: b2 :: b3 :: t3) := by
          rw [e]
          exact dec_three h0 (by simp only [List.length_cons]; omega) (by simp only [List.length_cons]; omega) (fun h => hc h.2) (fun h => hb3 h.2)
        refine ⟨hd, ?_⟩
        rcases dec_width2 (n := (b0 :: b1 :: b2 :: b3 :: t3).length) (b1 := b1) (b2 := b2) (b3 := b3) h0 with h | ⟨h, _⟩ | ⟨h, _⟩ | ⟨_, _, _, _, h⟩
        · rw [show (dcl (b0 :: b1 :: b2 :: b3 :: t3)).2 = 1 from h]; show b1 :: b2 :: quoL (b3 :: t3) = quoL (b1 :: b2 :: b3 :: t3); rw [e1, e2]
        · rw [show (dcl (b0 :: b1 :: b2 :: b3 :: t3)).2 = 2 from h]; show b2 :: quoL (b3 :: t3) = quoL (b2 :: b3 :: t3); rw [e2]
        · rw [show (dcl (b0 :: b1 :: b2 :: b3 :: t3)).2 = 3 from h]; rfl
        · exact absurd h hb3
    · have hd : dcl (b0 :: b1 :: quoL (b2 :: t2)) = dcl (b0 :: b1 :: b2 :: t2) := by
        rw [e]
        exact dec_two h0 (by simp only [List.length_cons]; omega) (by simp only [List.length_cons]; omega) (fun h => hc h.2) (fun h => hb2 h.2)
      refine ⟨hd, ?_⟩
      rcases dec_width2 (n := (b0 :: b1 :: b2 :: t2).length) (b1 := b1) (b2 := b2) (b3 := (b0 :: b1 :: b2 :: t2).getD 3 0) h0 with h | ⟨h, _⟩ | ⟨_, _, _, h⟩ | ⟨_, _, ⟨_, h⟩, _⟩
      · rw [show (dcl (b0 :: b1 :: b2 :: t2)).2 = 1 from h]; show b1 :: quoL (b2 :: t2) = quoL (b1 :: b2 :: t2); rw [e1]
      · rw [show (dcl (b0 :: b1 :: b2 :: t2)).2 = 2 from h]; rfl
      · exact absurd h hb2
      · exact absurd h hb2
  · have hd0 : dcl (b0 :: b1 :: t1) = (65533, 1) := dec_none h0 (fun h => hb1 h.2)
    have hd : dcl (b0 :: quoL (b1 :: t1)) = (65533, 1) := by rw [e]; exact dec_none h0 (fun h => hc h.2)
    rw [hd, hd0]
    exact ⟨rfl, rfl⟩
/-- A quote's runes: a 92 ahead of each of the four. -/
theorem runes_quo : ∀ (f : Nat) (l : List Nat) (g : Nat), l.length ≤ f → (quoL l).length ≤ g → runesL g (quoL l) = quoL (runesL f l)
  | 0, l, g, h, _ => by
    obtain rfl : l = [] := List.eq_nil_of_length_eq_zero (by omega)
    cases g <;> rfl
  | f + 1, [], g, _, _ => by cases g <;> rfl
  | f + 1, b0 :: t, g, h, hg => by
    by_cases h0 : b0 < 128
    · have hd : ∀ u, dcl (b0 :: u) = (b0, 1) := fun u => by unfold dcl decodeN; exact if_pos h0
      have hR : runesL (f + 1) (b0 :: t) = b0 :: runesL f t := by rw [runesL, hd]; rfl
      rw [hR]
      have hgl : (quo1 b0).length + (quoL t).length ≤ g := by
        have : (quoL (b0 :: t)).length = (quo1 b0).length + (quoL t).length := by show (quo1 b0 ++ quoL t).length = _; rw [List.length_append]
        omega
      simp only [List.length_cons] at h
      show runesL g (quo1 b0 ++ quoL t) = quo1 b0 ++ quoL (runesL f t)
      unfold quo1 at hgl ⊢
      split at hgl
      next hq =>
        rw [if_pos hq]
        simp only [List.length_cons, List.length_nil] at hgl
        obtain ⟨g', rfl⟩ : ∃ g', g = g' + 1 + 1 := ⟨g - 2, by omega⟩
        show runesL (g' + 1 + 1) (92 :: b0 :: quoL t) = 92 :: b0 :: quoL (runesL f t)
        rw [runesL, show dcl (92 :: b0 :: quoL t) = (92, 1) by unfold dcl decodeN; exact if_pos (by show (92 : Nat) < 128; omega)]
        show 92 :: runesL (g' + 1) (b0 :: quoL t) = _
        rw [runesL, hd]
        show 92 :: b0 :: runesL g' (quoL t) = _
        rw [runes_quo f t g' (by omega) (by omega)]
      next hq =>
        rw [if_neg hq]
        simp only [List.length_cons, List.length_nil] at hgl
        obtain ⟨g', rfl⟩ : ∃ g', g = g' + 1 := ⟨g - 1, by omega⟩
        show runesL (g' + 1) (b0 :: quoL t) = b0 :: quoL (runesL f t)
        rw [runesL, hd]
        show b0 :: runesL g' (quoL t) = _
        rw [runes_quo f t g' (by omega) (by omega)]
    · have h0' : 128 ≤ b0 := by omega
      have e : quoL (b0 :: t) = b0 :: quoL t := by show quo1 b0 ++ _ = _; rw [quo1_plain (by omega)]; rfl
      obtain ⟨hd, hdr⟩ := dcl_quo b0 t h0'
      rw [e] at hg ⊢
      have hw := dcl_width (b0 :: t)
      simp only [List.length_cons] at hg h
      obtain ⟨g', rfl⟩ : ∃ g', g = g' + 1 := ⟨g - 1, by omega⟩
      rw [runesL, hd, hdr, runes_quo f _ g' (by rw [List.length_drop, List.length_cons]; omega) (by rw [← hdr, List.length_drop, List.length_cons]; omega)]
      show _ = quoL (runesL (f + 1) (b0 :: t))
      rw [runesL]
      show _ = quo1 (dcl (b0 :: t)).1 ++ _
      rw [quo1_plain (show 93 ≤ (dcl (b0 :: t)).1 from dec_big h0')]
      rfl
/-! ### A text's runes -/
theorem get_nums (s : ByteArray) (p i : Nat) : (s.get! (p + i)).toNat = ((nums s).drop p).getD i 0 := by
  have e1 : s.get! (p + i) = (s.data.toList[p + i]?).getD 0 := by
    cases s with
    | mk d =>
      show d[p + i]! = _
      rw [getElem!_def, Array.getElem?_toList]
      rfl
  rw [e1, List.getD_eq_getElem?_getD, List.getElem?_drop]
  unfold nums
  rw [List.getElem?_map]
  cases s.data.toList[p + i]? <;> rfl
theorem decode_nums (s : ByteArray) (p : Nat) : Utf8.decode s p = dcl ((nums s).drop p) := by
  rw [decode_at, get_nums, get_nums, get_nums, show s.get! p = s.get! (p + 0) from rfl, get_nums]
  unfold dcl
  rw [List.length_drop, nums_len]
theorem runeF_nums (s : ByteArray) : ∀ f p, runeF s f p = runesL f ((nums s).drop p)
  | 0, p => by cases (nums s).drop p <;> rfl
  | f + 1, p => by
    rw [runeF, decode_nums, runeF_nums s f]
    by_cases h : p < s.size
    · rw [if_pos h]
      have hne : (nums s).drop p ≠ [] := by
        intro e
        have := congrArg List.length e
        rw [List.length_drop, nums_len] at this
        simp at this
        omega
      obtain ⟨x, l, e⟩ := List.exists_cons_of_ne_nil hne
      rw [← List.drop_drop, e]
      rfl
    · rw [if_neg h, List.drop_of_length_le (by rw [nums_len]; omega)]
      rfl
theorem runesB_nums (s : ByteArray) : runesB s = runesL s.size (nums s) := by
  show runeF s s.size 0 = _
  rw [runeF_nums]; rfl
/-- A quote's runes. -/
theorem runesB_quo (s : ByteArray) : runesB (text (quoL (nums s))) = quoL (runesB s) := by
  rw [runesB_nums, runesB_nums, nums_text _ (quoL_lt _ (nums_lt256 s)), text_size]
  exact runes_quo s.size (nums s) _ (by rw [nums_len]; exact Nat.le_refl _) (Nat.le_refl _)
/-! ### What a quote compiles to, and what that is -/
def plains (R : List Nat) : List Atm := R.map fun r => ⟨1, (r : Nat), false, []⟩
theorem atom_quo (r : Nat) (l : List Nat) : atomF (quo1 r ++ l) = some (⟨1, (r : Nat), false, []⟩, (quo1 r).length) := by
  unfold quo1
  split
  next h =>
    show atomF (92 :: r :: l) = _
    have := atom_esc (l := 92 :: r :: l) (a := 0) (by simp) rfl
    rw [List.drop_zero, if_pos (by simp)] at this
    exact this
  next h =>
    show atomF (r :: l) = _
    have := atom_else (l := r :: l) (a := 0) (by simp) (fun e => h (.inl e)) (fun e => h (.inr (.inl e))) (fun e => h (.inr (.inr (.inr e)))) (fun e => h (.inr (.inr (.inl e))))
    exact this
theorem comp_quo : ∀ (R P T : List Nat) (acc : List Atm), compF (P ++ (quoL R ++ T)) P.length acc = compF (P ++ (quoL R ++ T)) (P.length + (quoL R).length) (acc ++ plains R)
  | [], P, T, acc => by simp [quoL, plains]
  | r :: R, P, T, acc => by
    have hlt : P.length < (P ++ (quoL (r :: R) ++ T)).length := by
      have : 1 ≤ (quo1 r).length := by unfold quo1; split <;> simp
      simp only [List.length_append, quoL]; omega
    have hd : (P ++ (quoL (r :: R) ++ T)).drop P.length = quo1 r ++ (quoL R ++ T) := by
      rw [List.drop_append_of_le_length (Nat.le_refl _), List.drop_length]
      simp [quoL]
    rw [compF_more hlt (by rw [hd]; exact atom_quo r _)]
    have e : P ++ (quoL (r :: R) ++ T) = (P ++ quo1 r) ++ (quoL R ++ T) := by simp [quoL]
    have h := comp_quo R (P ++ quo1 r) T (acc ++ [⟨1, (r : Nat), false, []⟩])
    rw [List.length_append] at h
    rw [e, h]
    have e2 : (quoL (r :: R)).length = (quo1 r).length + (quoL R).length := by show (quo1 r ++ quoL R).length = _; rw [List.length_append]
    rw [e2, ← Nat.add_assoc]
    simp [plains]
theorem comp_quo0 (R : List Nat) : compF (quoL R) 0 [] = some (plains R) := by
  have h := comp_quo R [] [] []
  simp only [List.nil_append, List.append_nil, List.length_nil, Nat.zero_add] at h
  rw [h]
  exact compF_end (by omega)
theorem mt_plains : ∀ (R l : List Nat), Mt (plains R) l ↔ l = R
  | [], l => Mt_nil l
  | r :: R, l => by
    show Mt (⟨1, (r : Nat), false, []⟩ :: plains R) l ↔ _
    rw [Mt_one (show (1 : Int) ≠ 3 by decide)]
    constructor
    · rintro ⟨x, t, rfl, h, ht⟩
      rw [(mt_plains R t).1 ht]
      have hx : decide ((r : Int) = (x : Int)) = true := h
      have := of_decide_eq_true hx
      rw [show x = r by omega]
    · rintro rfl
      exact ⟨r, R, rfl, decide_eq_true rfl, (mt_plains R R).2 rfl⟩
end Go.Proofs.YtmhalkkfpbkafaaDoor
