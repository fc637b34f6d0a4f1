/-
  A rune is a byte below 128, or bytes from 128 on (out of stage 7's XNamE).
-/
import Derived.Test.YtkakegeammajgaaDoorNamA
import Derived.StillTailTactics
import Derived.Deep.QuietTactic
import Derived.BigQuiet
import Derived.Deep.DeepMust
import Derived.Laws.Runes
import Derived.Scope
import Derived.ScopeJumps
import Derived.Lib.OthersKept
namespace Go.Proofs.YtkakegeammajgaaDoor
set_option maxRecDepth 100000
open Go.RowKit Go.Deep Go.Joins

open Go.Lib in
set_option maxRecDepth 100000 in
set_option maxHeartbeats 4000000 in
theorem decodeN_run (n b0 b1 b2 b3 : Nat) (D : Nat × Nat) (hD : decodeN n b0 b1 b2 b3 = D) : (b0 < 128 ∧ D = (b0, 1)) ∨ (128 ≤ b0 ∧ 128 ≤ D.1 ∧ D.1 ≤ 1114111 ∧
    (D.2 = 1 ∨ D.2 = 2 ∧ 1 < n ∧ 128 ≤ b1 ∨ D.2 = 3 ∧ 2 < n ∧ 128 ≤ b1 ∧ 128 ≤ b2 ∨ D.2 = 4 ∧ 3 < n ∧ 128 ≤ b1 ∧ 128 ≤ b2 ∧ 128 ≤ b3)) := by
  unfold decodeN at hD
  by_cases h0 : b0 < 128
  · rw [if_pos h0] at hD; exact .inl ⟨h0, hD.symm⟩
  · rw [if_neg h0] at hD
    right
    refine ⟨by omega, ?_⟩
    repeat' split at hD
    all_goals subst hD
    all_goals refine ⟨by show 128 ≤ _; omega, by show _ ≤ 1114111; omega, ?_⟩
    all_goals first
      | exact .inl rfl
      | exact .inr (.inl ⟨rfl, by omega, by omega⟩)
      | exact .inr (.inr (.inl ⟨rfl, by omega, by omega, by omega⟩))
      | exact .inr (.inr (.inr ⟨rfl, by omega, by omega, by omega, by omega⟩))
/-- A rune is a byte below 128, or bytes from 128 on. -/
theorem decode_run (s : ByteArray) (p : Nat) (h : p < s.size) : (s[p].toNat < 128 ∧ Utf8.decode s p = (s[p].toNat, 1)) ∨
    (128 ≤ s[p].toNat ∧ 128 ≤ (Utf8.decode s p).1 ∧ (Utf8.decode s p).1 ≤ 1114111 ∧ 1 ≤ (Utf8.decode s p).2 ∧ p + (Utf8.decode s p).2 ≤ s.size ∧ ∀ j (hj : p + j < s.size), j < (Utf8.decode s p).2 → 128 ≤ s[p + j].toNat) := by
  have hd := Lib.decode_at s p
  have h0 := get_bang s p h
  rcases decodeN_run (s.size - p) (s.get! p).toNat (s.get! (p + 1)).toNat (s.get! (p + 2)).toNat (s.get! (p + 3)).toNat _ hd.symm with ⟨h1, h2⟩ | ⟨h1, h2, h3, h4⟩
  · rw [h0] at h1 h2
    exact .inl ⟨h1, h2⟩
  · rw [h0] at h1
    refine .inr ⟨h1, h2, h3, ?_, ?_, ?_⟩
    · omega
    · omega
    · intro j hj hjk
      have g : ∀ i, (hi : p + i < s.size) → (s.get! (p + i)).toNat = s[p + i].toNat := fun i hi => get_bang s (p + i) hi
      rcases j with _ | _ | _ | _ | j
      · exact h1
      · have := g 1 hj; simp only [Nat.zero_add] at *; omega
      · have := g 2 hj; simp only [Nat.zero_add, Nat.reduceAdd] at *; omega
      · have := g 3 hj; simp only [Nat.zero_add, Nat.reduceAdd] at *; omega
      · omega

end Go.Proofs.YtkakegeammajgaaDoor
