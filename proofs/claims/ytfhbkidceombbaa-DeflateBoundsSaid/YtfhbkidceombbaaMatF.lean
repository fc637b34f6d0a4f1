/-
  The chapter's example holds.
-/
import Derived.Test.YtfhbkidceombbaaMatE
namespace Go.Proofs.Ytfhbkidceombbaa
set_option maxRecDepth 100000
open Go.RowKit Go.Deep Go.ChangeMaps Go.ChangeShapes Go.WideShapes
open Go.Maps (Keyed IsMap has Tidy)

theorem groups_own {H : Type} {P : Program} {w : World} {k : TypeId} {base : Nat} {e : TypeId} {q : IntKind} {b n : Nat} {D : DataW H} (h : w.ownsGroups P k base e q b n D) : w.ownsMap P k (rowElem w base e q) b n D := by
  obtain ⟨es, clock, hb, F, hs, rfl, _⟩ := h
  exact ⟨es, clock, hb, F, hs, rfl⟩
theorem gM_two (a : Nat → Nat) (ha : ∀ i, a i < 256) (hne : a 0 ≠ a 1) : Maps.size (gM a 2) = 2 := by
  have h1 : Tidy (gM a 1) := ⟨_, rfl, by simp [List.pairwise_cons, DataW.insert]⟩
  have h0 : Tidy (gM a 0) := Maps.tidy_empty
  have e1 : Maps.size (gM a 1) = 1 := by
    rw [gM, Maps.size_put h0]
    rfl
  have hf : has (gM a 1) (tk (a 1) (a 2) (a 3)) = false := by
    cases h : has (gM a 1) (tk (a 1) (a 2) (a 3)) with
    | false => rfl
    | true =>
      obtain ⟨i, hi, he⟩ := (gM_has a ha _ 1).1 h
      obtain rfl : i = 0 := by omega
      exact absurd (tk_inj _ _ _ _ _ _ (ha _) (ha _) (ha _) (ha _) (ha _) (ha _) he).1 (Ne.symm hne)
  rw [gM, Maps.size_put h1, hf, e1]
  rfl
def exToks : Nat → Tok := fun i => if i = 0 then ⟨97, 0, 0⟩ else ⟨0, 4, 1⟩
theorem ex_text : expT exToks 2 = [97, 97, 97, 97, 97] := by decide +kernel
theorem ex_err : expE exToks 2 = 0 := by decide +kernel
def abcd : ByteArray := ⟨#[97, 98, 99, 100]⟩
end Go.Proofs.Ytfhbkidceombbaa
