/-
  Glob: Match.
-/
import Derived.Test.YtkakegeammajgaaDoorGlI
namespace Go.Proofs.YtkakegeammajgaaDoor
set_option maxRecDepth 100000
open Go.RowKit Go.Joins Go.Deep

theorem setF_count {l : List Nat} {a : Nat} {acc rs : List (Nat × Nat)} {e : Nat} (h : setF l a acc = some (rs, e)) : rs.length + a ≤ acc.length + e := by
  by_cases h1 : a < l.length ∧ l.getD a 0 = 93 ∧ acc ≠ []
  · rw [setF_done h1] at h
    injection h with h; injection h with h1 h2; subst h1; omega
  · by_cases h0 : (spanF (l.drop a)).2 = 0
    · rw [setF_none h1 h0] at h; cases h
    · rw [setF_more h1 h0] at h
      have hl := spanF_le (l.drop a)
      rw [List.length_drop] at hl
      have := setF_count h
      rw [List.length_append] at this
      simp at this
      omega
termination_by l.length + 1 - a
decreasing_by
  have h1 := spanF_le (l.drop a)
  rw [List.length_drop] at h1
  omega
theorem atomF_rs {l : List Nat} {p : Atm × Nat} (h : atomF l = some p) : p.1.rs.length ≤ l.length := by
  unfold atomF at h
  split at h
  · injection h with h; subst h; exact Nat.zero_le _
  split at h
  · injection h with h; subst h; exact Nat.zero_le _
  split at h
  · obtain ⟨q, hq, rfl⟩ := Option.map_eq_some_iff.1 h
    obtain ⟨rs, e⟩ := q
    have h1 := setF_count hq
    have h2 := (setF_le hq).2
    rw [List.length_drop] at h2
    show (rgI rs).length ≤ _
    rw [rgI_len]
    simp at h1
    omega
  split at h
  · cases h
  · injection h with h; subst h; exact Nat.zero_le _
theorem compF_count {l : List Nat} {a : Nat} {acc ats : List Atm} (h : compF l a acc = some ats) (hb : ∀ x ∈ acc, x.rs.length ≤ l.length) (ha : a ≤ l.length) : ats.length + a ≤ acc.length + l.length ∧ ∀ x ∈ ats, x.rs.length ≤ l.length := by
  by_cases hal : a < l.length
  · cases hD : atomF (l.drop a) with
    | none => rw [compF_none hal hD] at h; cases h
    | some p =>
      obtain ⟨x, k⟩ := p
      have hle := atomF_le (by rw [List.length_drop]; omega) hD
      rw [List.length_drop] at hle
      have hrs := atomF_rs hD
      rw [List.length_drop] at hrs
      dsimp only at hle hrs
      rw [compF_more hal hD] at h
      have := compF_count h (fun y hy => by
        rcases List.mem_append.1 hy with hy | hy
        · exact hb y hy
        · obtain rfl : y = x := by simpa using hy
          omega) (by omega)
      rw [List.length_append] at this
      simp at this
      exact ⟨by omega, this.2⟩
  · rw [compF_end hal] at h
    injection h with h
    subst h
    exact ⟨by omega, hb⟩
termination_by l.length - a
decreasing_by omega
/-- What Match answers. -/
def MatchR (w : World) (o : Option (List Atm)) (l : List Nat) (e : Ending) (w' : World) : Prop :=
  ((o = none ∧ e = .returned (.tuple #[.bool false, .int .i64 22])) ∨ (∃ ats, o = some ats ∧ e = .returned (.tuple #[.bool (mtB ats l), .int .i64 0]))) ∧ Below w.heap.size w w'
end Go.Proofs.YtkakegeammajgaaDoor
