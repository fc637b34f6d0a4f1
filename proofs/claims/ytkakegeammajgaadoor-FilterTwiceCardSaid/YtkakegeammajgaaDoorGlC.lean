/-
  What a text of runes compiles to: mathematics of lists.
-/
import Derived.Test.YtkakegeammajgaaDoorGlM
namespace Go.Proofs.YtkakegeammajgaaDoor
set_option linter.unusedVariables false

/-- One rune, perhaps behind a \; how many runes that takes (none: it is nothing). -/
def plainF : List Nat → Nat × Nat
  | [] => (0, 0)
  | [c] => if c = 92 then (0, 0) else (c, 1)
  | c :: r :: _ => if c = 92 then (r, 2) else (c, 1)
theorem plainF_le : ∀ l : List Nat, (plainF l).2 ≤ l.length
  | [] => Nat.le_refl _
  | [c] => by rw [plainF]; split <;> simp
  | c :: r :: t => by rw [plainF]; split <;> simp
/-- One rune, or two with a - between. -/
def spanF (l : List Nat) : (Nat × Nat) × Nat :=
  if (plainF l).2 = 0 then ((0, 0), 0)
  else if (l.drop (plainF l).2).length < 2 ∨ (l.drop (plainF l).2).getD 0 0 ≠ 45 ∨ (l.drop (plainF l).2).getD 1 0 = 93 then (((plainF l).1, (plainF l).1), (plainF l).2)
  else if (plainF (l.drop ((plainF l).2 + 1))).2 = 0 ∨ (plainF (l.drop ((plainF l).2 + 1))).1 < (plainF l).1 then ((0, 0), 0)
  else (((plainF l).1, (plainF (l.drop ((plainF l).2 + 1))).1), (plainF l).2 + 1 + (plainF (l.drop ((plainF l).2 + 1))).2)
theorem spanF_le (l : List Nat) : (spanF l).2 ≤ l.length := by
  have h1 := plainF_le l
  have h2 := plainF_le (l.drop ((plainF l).2 + 1))
  rw [List.length_drop] at h2
  unfold spanF
  split
  · exact Nat.zero_le _
  split
  · exact h1
  next h =>
    have h4 : ¬ (l.drop (plainF l).2).length < 2 := fun h' => h (.inl h')
    rw [List.length_drop] at h4
    split
    · exact Nat.zero_le _
    · show _ + 1 + _ ≤ _; omega
theorem spanF_nil : (spanF []).2 = 0 := rfl
/-- The ranges of a set from a place on, and where it ends. -/
def setF (l : List Nat) (a : Nat) (acc : List (Nat × Nat)) : Option (List (Nat × Nat) × Nat) :=
  if a < l.length ∧ l.getD a 0 = 93 ∧ acc ≠ [] then some (acc, a + 1)
  else if h : (spanF (l.drop a)).2 = 0 then none
  else setF l (a + (spanF (l.drop a)).2) (acc ++ [(spanF (l.drop a)).1])
termination_by l.length + 1 - a
decreasing_by
  have h1 := spanF_le (l.drop a)
  rw [List.length_drop] at h1
  omega
theorem setF_done {l : List Nat} {a : Nat} {acc : List (Nat × Nat)} (h : a < l.length ∧ l.getD a 0 = 93 ∧ acc ≠ []) : setF l a acc = some (acc, a + 1) := by
  rw [setF, if_pos h]
theorem setF_none {l : List Nat} {a : Nat} {acc : List (Nat × Nat)} (h : ¬ (a < l.length ∧ l.getD a 0 = 93 ∧ acc ≠ [])) (h0 : (spanF (l.drop a)).2 = 0) : setF l a acc = none := by
  rw [setF, if_neg h, dif_pos h0]
theorem setF_more {l : List Nat} {a : Nat} {acc : List (Nat × Nat)} (h : ¬ (a < l.length ∧ l.getD a 0 = 93 ∧ acc ≠ [])) (h0 : (spanF (l.drop a)).2 ≠ 0) : setF l a acc = setF l (a + (spanF (l.drop a)).2) (acc ++ [(spanF (l.drop a)).1]) := by
  rw [setF, if_neg h, dif_neg h0]
theorem setF_out {l : List Nat} {a : Nat} {acc : List (Nat × Nat)} (h : ¬ a < l.length) : setF l a acc = none := by
  refine setF_none (fun h' => h h'.1) ?_
  rw [List.drop_of_length_le (by omega)]; rfl
theorem setF_le {l : List Nat} {a : Nat} {acc rs : List (Nat × Nat)} {e : Nat} (h : setF l a acc = some (rs, e)) : a < e ∧ e ≤ l.length := by
  by_cases h1 : a < l.length ∧ l.getD a 0 = 93 ∧ acc ≠ []
  · rw [setF_done h1] at h
    injection h with h; injection h with _ h; omega
  · by_cases h0 : (spanF (l.drop a)).2 = 0
    · rw [setF_none h1 h0] at h; cases h
    · rw [setF_more h1 h0] at h
      have hl := spanF_le (l.drop a)
      rw [List.length_drop] at hl
      have := setF_le h
      omega
termination_by l.length + 1 - a
decreasing_by
  have h1 := spanF_le (l.drop a)
  rw [List.length_drop] at h1
  omega
def rgI (rs : List (Nat × Nat)) : List (Int × Int) := rs.map fun p => ((p.1 : Int), (p.2 : Int))
/-- Is a set turned round? -/
def notF (l : List Nat) (a : Nat) : Bool := decide (a < l.length) && (decide (l.getD a 0 = 33) || decide (l.getD a 0 = 94))
/-- The first atom of a list of runes that isn't empty, and how many it takes. -/
def atomF (l : List Nat) : Option (Atm × Nat) :=
  if l.getD 0 0 = 42 then some (⟨3, 0, false, []⟩, 1)
  else if l.getD 0 0 = 63 then some (⟨2, 0, false, []⟩, 1)
  else if l.getD 0 0 = 91 then (setF (l.drop 1) (if notF (l.drop 1) 0 = true then 1 else 0) []).map fun p => (⟨4, 0, notF (l.drop 1) 0, rgI p.1⟩, p.2 + 1)
  else if (plainF l).2 = 0 then none
  else some (⟨1, ((plainF l).1 : Nat), false, []⟩, (plainF l).2)
theorem atomF_le {l : List Nat} {p : Atm × Nat} (h0 : 0 < l.length) (h : atomF l = some p) : 1 ≤ p.2 ∧ p.2 ≤ l.length := by
  unfold atomF at h
  split at h
  · injection h with h; subst h; exact ⟨Nat.le_refl _, h0⟩
  split at h
  · injection h with h; subst h; exact ⟨Nat.le_refl _, h0⟩
  split at h
  · obtain ⟨q, hq, rfl⟩ := Option.map_eq_some_iff.1 h
    obtain ⟨rs, e⟩ := q
    have := setF_le hq
    rw [List.length_drop] at this
    show 1 ≤ e + 1 ∧ e + 1 ≤ _
    omega
  split at h
  · cases h
  · injection h with h; subst h
    have := plainF_le l
    show 1 ≤ (plainF l).2 ∧ (plainF l).2 ≤ _
    omega
/-- All atoms of a list of runes; none, where something is wrong. -/
def compF (l : List Nat) (a : Nat) (acc : List Atm) : Option (List Atm) :=
  if ha : a < l.length then
    match h : atomF (l.drop a) with
    | none => none
    | some (x, k) => compF l (a + k) (acc ++ [x])
  else some acc
termination_by l.length - a
decreasing_by
  have h1 := atomF_le (l := l.drop a) (by rw [List.length_drop]; omega) h
  rw [List.length_drop] at h1
  have : 1 ≤ k := h1.1
  omega
theorem compF_end {l : List Nat} {a : Nat} {acc : List Atm} (h : ¬ a < l.length) : compF l a acc = some acc := by
  rw [compF, dif_neg h]
theorem compF_none {l : List Nat} {a : Nat} {acc : List Atm} (h : a < l.length) (h0 : atomF (l.drop a) = none) : compF l a acc = none := by
  rw [compF, dif_pos h]
  split
  · rfl
  next x k hx => rw [h0] at hx; cases hx
theorem compF_more {l : List Nat} {a : Nat} {acc : List Atm} {x : Atm} {k : Nat} (h : a < l.length) (h0 : atomF (l.drop a) = some (x, k)) : compF l a acc = compF l (a + k) (acc ++ [x]) := by
  rw [compF, dif_pos h]
  split
  next hx => rw [h0] at hx; cases hx
  next y m hx =>
    rw [h0] at hx
    injection hx with hx
    injection hx with e1 e2
    subst e1 e2
    rfl
end Go.Proofs.YtkakegeammajgaaDoor
