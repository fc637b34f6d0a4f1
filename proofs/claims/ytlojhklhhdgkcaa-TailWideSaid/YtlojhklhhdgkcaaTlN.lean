/-
  The document's Find of an end.
-/
import Derived.Test.YtlojhklhhdgkcaaTlM
import Derived.Deep.CutRange
namespace Go.Proofs.Ytlojhklhhdgkcaa
set_option maxRecDepth 100000
set_option linter.unusedSimpArgs false
set_option linter.unusedVariables false
open Go.RowKit Go.Joins Go.Deep Go.Op
/-- All that a wide end asks, said of the text itself. -/
def WideOk (s : ByteArray) (a : Nat) : Prop :=
  20 ≤ a ∧ (nAt s (a - 20) 4 = 117853008 ∧ nAt s (a - 20 + 4) 4 = 0 ∧ nAt s (a - 20 + 16) 4 = 1 ∧ nAt s (a - 20 + 8) 8 ≤ a - 20) ∧ 56 ≤ a - 20 - nAt s (a - 20 + 8) 8 ∧
  (nAt s (nAt s (a - 20 + 8) 8) 4 = 101075792 ∧ nAt s (nAt s (a - 20 + 8) 8 + 4) 8 = a - 20 - nAt s (a - 20 + 8) 8 - 12) ∧
  alB (nAt s (nAt s (a - 20 + 8) 8 + 16) 4) (nAt s (nAt s (a - 20 + 8) 8 + 20) 4) (nAt s (nAt s (a - 20 + 8) 8 + 24) 8) (nAt s (nAt s (a - 20 + 8) 8 + 32) 8) = true ∧
  agB (nAt s (a + 10) 2) (nAt s (a + 12) 4) (nAt s (a + 16) 4) (nAt s (nAt s (a - 20 + 8) 8 + 32) 8) (nAt s (nAt s (a - 20 + 8) 8 + 40) 8) (nAt s (nAt s (a - 20 + 8) 8 + 48) 8) = true
theorem nAt_mid (s : ByteArray) (x y c k : Nat) (h : x + c + k ≤ y) : nAt (s.extract x y) c k = nAt s (x + c) k := by
  unfold nAt
  rw [nums_ext', List.drop_take, List.drop_drop, List.take_take, Nat.min_eq_left (by omega)]
theorem nAt_cutT (s : ByteArray) (c a k : Nat) (h : a + k ≤ c) : nAt (s.extract 0 c) a k = nAt s a k := by
  rw [nAt_mid s 0 c a k (by omega), Nat.zero_add]
theorem fd_doc {s : ByteArray} {a : Nat} (hla : lastE s = some a) (hal : alB (nAt s (a + 4) 2) (nAt s (a + 6) 2) (nAt s (a + 8) 2) (nAt s (a + 10) 2) = true) (has : asB (nAt s (a + 10) 2) (nAt s (a + 12) 4) (nAt s (a + 16) 4) = true) :
    (WideOk s a → fdE s = ((nAt s (a - 20 + 8) 8, nAt s (nAt s (a - 20 + 8) 8 + 32) 8, nAt s (nAt s (a - 20 + 8) 8 + 40) 8, nAt s (nAt s (a - 20 + 8) 8 + 48) 8, s.extract (a + 22) s.size, true), 0)) ∧ (¬ WideOk s a → fdE s = ((0, 0, 0, 0, ⟨#[]⟩, false), 31)) := by
  have hle := lastE_le hla
  have hs0 : (s.extract 0 a).size = a := by rw [ByteArray.size_extract]; omega
  have hE : fdE s = if (lcB (s.extract 0 a) && (alB (nAt (lcT (s.extract 0 a)) 16 4) (nAt (lcT (s.extract 0 a)) 20 4) (nAt (lcT (s.extract 0 a)) 24 8) (nAt (lcT (s.extract 0 a)) 32 8) && agB (nAt s (a + 10) 2) (nAt s (a + 12) 4) (nAt s (a + 16) 4) (nAt (lcT (s.extract 0 a)) 32 8) (nAt (lcT (s.extract 0 a)) 40 8) (nAt (lcT (s.extract 0 a)) 48 8))) = true then ((lcP (s.extract 0 a), nAt (lcT (s.extract 0 a)) 32 8, nAt (lcT (s.extract 0 a)) 40 8, nAt (lcT (s.extract 0 a)) 48 8, s.extract (a + 22) s.size, true), 0) else ((0, 0, 0, 0, ⟨#[]⟩, false), 31) := by
    unfold fdE
    rw [hla]
    show (if _ then _ else _) = _
    rw [if_pos hal, if_pos has]
  rw [hE]
  by_cases h20 : 20 ≤ a
  · have hP : lcP (s.extract 0 a) = nAt s (a - 20 + 8) 8 := by unfold lcP; rw [hs0, nAt_cutT s a _ _ (by omega)]
    have hM : lcM (s.extract 0 a) = (decide (nAt s (a - 20) 4 = 117853008) && (decide (nAt s (a - 20 + 4) 4 = 0) && (decide (nAt s (a - 20 + 16) 4 = 1) && decide (nAt s (a - 20 + 8) 8 ≤ a - 20)))) := by
      unfold lcM
      rw [hs0, nAt_cutT s a _ _ (by omega), nAt_cutT s a _ _ (by omega), nAt_cutT s a _ _ (by omega), nAt_cutT s a _ _ (by omega)]
    have hT : lcT (s.extract 0 a) = (s.extract 0 a).extract (nAt s (a - 20 + 8) 8) (a - 20) := by unfold lcT; rw [hP, hs0]
    by_cases hp : nAt s (a - 20 + 8) 8 ≤ a - 20
    · have hTs : (lcT (s.extract 0 a)).size = a - 20 - nAt s (a - 20 + 8) 8 := by rw [hT, ByteArray.size_extract, hs0]; omega
      by_cases h56 : 56 ≤ a - 20 - nAt s (a - 20 + 8) 8
      · have hN : ∀ x k, x + k ≤ 56 → nAt (lcT (s.extract 0 a)) x k = nAt s (nAt s (a - 20 + 8) 8 + x) k := fun x k h => by
          rw [hT, nAt_mid _ _ _ _ _ (by omega), nAt_cutT s a _ _ (by omega)]
        have hW : wdB (lcT (s.extract 0 a)) = (decide (nAt s (nAt s (a - 20 + 8) 8) 4 = 101075792) && decide (nAt s (nAt s (a - 20 + 8) 8 + 4) 8 = a - 20 - nAt s (a - 20 + 8) 8 - 12)) := by
          unfold wdB
          rw [hTs, decide_eq_true h56, Bool.true_and, hN 0 4 (by omega), hN 4 8 (by omega), Nat.add_zero]
        have hB : lcB (s.extract 0 a) = ((decide (nAt s (a - 20) 4 = 117853008) && (decide (nAt s (a - 20 + 4) 4 = 0) && (decide (nAt s (a - 20 + 16) 4 = 1) && true))) && (decide (nAt s (nAt s (a - 20 + 8) 8) 4 = 101075792) && decide (nAt s (nAt s (a - 20 + 8) 8 + 4) 8 = a - 20 - nAt s (a - 20 + 8) 8 - 12))) := by
          unfold lcB
          rw [hs0, decide_eq_true h20, Bool.true_and, hM, hW, decide_eq_true hp]
        rw [hB, hP, hN 16 4 (by omega), hN 20 4 (by omega), hN 24 8 (by omega), hN 32 8 (by omega), hN 40 8 (by omega), hN 48 8 (by omega)]
        have hiff : (((decide (nAt s (a - 20) 4 = 117853008) && (decide (nAt s (a - 20 + 4) 4 = 0) && (decide (nAt s (a - 20 + 16) 4 = 1) && true))) && (decide (nAt s (nAt s (a - 20 + 8) 8) 4 = 101075792) && decide (nAt s (nAt s (a - 20 + 8) 8 + 4) 8 = a - 20 - nAt s (a - 20 + 8) 8 - 12))) && (alB (nAt s (nAt s (a - 20 + 8) 8 + 16) 4) (nAt s (nAt s (a - 20 + 8) 8 + 20) 4) (nAt s (nAt s (a - 20 + 8) 8 + 24) 8) (nAt s (nAt s (a - 20 + 8) 8 + 32) 8) && agB (nAt s (a + 10) 2) (nAt s (a + 12) 4) (nAt s (a + 16) 4) (nAt s (nAt s (a - 20 + 8) 8 + 32) 8) (nAt s (nAt s (a - 20 + 8) 8 + 40) 8) (nAt s (nAt s (a - 20 + 8) 8 + 48) 8))) = true ↔ WideOk s a := by
          unfold WideOk
          simp only [Bool.and_eq_true, decide_eq_true_iff, and_true]
          constructor
          · rintro ⟨⟨⟨q1, q2, q3⟩, q4, q5⟩, q6, q7⟩
            exact ⟨h20, ⟨q1, q2, q3, hp⟩, h56, ⟨q4, q5⟩, q6, q7⟩
          · rintro ⟨_, ⟨q1, q2, q3, _⟩, _, ⟨q4, q5⟩, q6, q7⟩
            exact ⟨⟨⟨q1, q2, q3⟩, q4, q5⟩, q6, q7⟩
        exact ⟨fun h => if_pos (hiff.2 h), fun h => if_neg (fun h2 => h (hiff.1 h2))⟩
      · have hB : lcB (s.extract 0 a) = false := by
          unfold lcB wdB
          rw [hTs, decide_eq_false h56, Bool.false_and, Bool.and_false, Bool.and_false]
        rw [hB, Bool.false_and]
        exact ⟨fun h => absurd h.2.2.1 h56, fun _ => if_neg (by decide)⟩
    · have hB : lcB (s.extract 0 a) = false := by
        unfold lcB
        rw [hM, decide_eq_false hp, Bool.and_false, Bool.and_false, Bool.and_false, Bool.false_and, Bool.and_false]
      rw [hB, Bool.false_and]
      exact ⟨fun h => absurd h.2.1.2.2.2 hp, fun _ => if_neg (by decide)⟩
  · have hB : lcB (s.extract 0 a) = false := by
      unfold lcB
      rw [hs0, decide_eq_false h20, Bool.false_and]
    rw [hB, Bool.false_and]
    exact ⟨fun h => absurd h.1 h20, fun _ => if_neg (by decide)⟩
end Go.Proofs.Ytlojhklhhdgkcaa
