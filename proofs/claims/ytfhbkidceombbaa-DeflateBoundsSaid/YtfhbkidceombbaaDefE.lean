/-
  Layer 9: Split of no token; what Split's parts are.
-/
import Derived.Test.YtfhbkidceombbaaDefD
namespace Go.Proofs.Ytfhbkidceombbaa
set_option maxRecDepth 100000
open Go.RowKit Go.Joins Go.Deep

set_option maxHeartbeats 4000000 in
theorem split_none (A : Option Addr) (cap : Nat) (w : World) (hA : ∀ a, A = some a → ∃ b off, a = ⟨b, off, none⟩) :
    Calls Try.prog 15 #[.slice A 0 cap] w fun e w' => e = .returned (.slice none 0 0) ∧ Below w.heap.size w w' := by
  have HC : Hid (Calls Try.prog 40 #[.slice A 0 cap] w fun e w' => ∃ A2 c2, e = .returned (.slice A2 0 c2) ∧ Below w.heap.size w w') := by
    show Calls _ _ _ _ _
    cases A with
    | none =>
      refine (clone_none 0 cap w).mono ?_
      rintro e w' ⟨rfl, rfl⟩
      exact ⟨none, 0, rfl, Below.refl _ _⟩
    | some a =>
      obtain ⟨b, off, rfl⟩ := hA a rfl
      refine (clone_some b off 0 cap (fun _ => ⟨0, 0, 0⟩) w (fun h => by omega) (by omega)).mono ?_
      rintro e w' ⟨v', rfl, hown, _, hb⟩
      obtain ⟨A2, c2, rfl⟩ := row_slice' hown
      exact ⟨A2, c2, rfl, hb⟩
  clear hA
  go_enter Try.func15, Try.ntmps15
  go_wp2_with fail
  (with_reducible refine (HC.out).mono ?_); rintro e w1 ⟨A2, c2, rfl, hb1⟩
  have HB1 := Lib.hid hb1
  clear hb1
  go_wp2_with fail
  go_loopw [4, 5, 6, 13] (fun v4 v5 v6 i wr => v4 = .slice none 0 0 ∧ v5 = .int .i64 0 ∧ v6 = .int .i64 0 ∧ i = .int .i64 0 ∧ wr = w1) (fun _ _ _ _ _ => 0)
  case atStart => exact ⟨rfl, rfl, rfl, rfl, rfl⟩
  case round =>
    obtain ⟨rfl, rfl, rfl, rfl, rfl⟩ := hrel
    go_wp2_with fail
    go_ret
    exact ⟨rfl, HB1.out⟩

/-! ## The parts -/
theorem spl_sum (f : Nat → Tok) : ∀ k, wsum f k = wsum f (spl f k).2.1 + (spl f k).2.2
  | 0 => rfl
  | k + 1 => by
    have ih := spl_sum f k
    have e : wsum f (k + 1) = wsum f k + wdT (f k) := rfl
    rw [spl]
    split
    · show wsum f (k + 1) = wsum f k + wdT (f k); exact e
    · show wsum f (k + 1) = wsum f (spl f k).2.1 + ((spl f k).2.2 + wdT (f k)); omega
/-- All parts, the last one among them. -/
def partsOf (f : Nat → Tok) (n : Nat) : List (Nat × Nat) := if n = 0 then [] else (spl f n).1 ++ [((spl f n).2.1, n)]
theorem spl_parts (f : Nat → Tok) : ∀ k, ∀ p ∈ (spl f k).1, p.1 < p.2 ∧ p.2 ≤ k ∧ wsum f p.2 ≤ wsum f p.1 + 32768
  | 0, p, h => by cases h
  | k + 1, p, h => by
    have ih := spl_parts f k
    rw [spl] at h
    split at h
    next hb =>
      rcases List.mem_append.1 h with h | h
      · obtain ⟨h1, h2, h3⟩ := ih p h
        exact ⟨h1, by omega, h3⟩
      · obtain rfl : p = ((spl f k).2.1, k) := by simpa using h
        have h1 := spl_big f k hb
        have h2 := spl_sum f k
        have h3 := spl_many f k
        exact ⟨h1, by show k ≤ k + 1; omega, by show wsum f k ≤ wsum f (spl f k).2.1 + 32768; omega⟩
    next hb =>
      obtain ⟨h1, h2, h3⟩ := ih p h
      exact ⟨h1, by omega, h3⟩
theorem parts_ok (f : Nat → Tok) (n : Nat) (p : Nat × Nat) (h : p ∈ partsOf f n) : p.1 < p.2 ∧ p.2 ≤ n ∧ wsum f p.2 ≤ wsum f p.1 + 32768 := by
  unfold partsOf at h
  split at h
  · cases h
  next h0 =>
    rcases List.mem_append.1 h with h | h
    · exact spl_parts f n p h
    · obtain rfl : p = ((spl f n).2.1, n) := by simpa using h
      obtain ⟨m, rfl⟩ : ∃ m, n = m + 1 := ⟨n - 1, by omega⟩
      have h1 := spl_lt f m
      have h2 := spl_sum f (m + 1)
      have h3 := spl_many f (m + 1)
      exact ⟨h1, Nat.le_refl _, by show wsum f (m + 1) ≤ wsum f (spl f (m + 1)).2.1 + 32768; omega⟩
/-- Where the part after these begins: the end of the last one. -/
def endsAt : List (Nat × Nat) → Nat → Nat
  | [], x => x
  | p :: ps, _ => endsAt ps p.2
/-- Each part begins where the one ahead of it ends. -/
def follow : List (Nat × Nat) → Nat → Prop
  | [], _ => True
  | p :: ps, x => p.1 = x ∧ follow ps p.2
theorem endsAt_snoc (p : Nat × Nat) : ∀ ps x, endsAt (ps ++ [p]) x = p.2
  | [], _ => rfl
  | q :: ps, _ => endsAt_snoc p ps q.2
theorem follow_snoc (p : Nat × Nat) : ∀ ps x, follow ps x → p.1 = endsAt ps x → follow (ps ++ [p]) x
  | [], _, _, h => ⟨h, trivial⟩
  | q :: ps, _, h, h2 => ⟨h.1, follow_snoc p ps q.2 h.2 h2⟩
theorem spl_follow (f : Nat → Tok) : ∀ k, follow (spl f k).1 0 ∧ endsAt (spl f k).1 0 = (spl f k).2.1
  | 0 => ⟨trivial, rfl⟩
  | k + 1 => by
    obtain ⟨h1, h2⟩ := spl_follow f k
    rw [spl]
    split
    · exact ⟨follow_snoc _ _ _ h1 h2.symm, endsAt_snoc _ _ _⟩
    · exact ⟨h1, h2⟩
theorem parts_follow (f : Nat → Tok) (n : Nat) : follow (partsOf f n) 0 ∧ endsAt (partsOf f n) 0 = n := by
  obtain ⟨h1, h2⟩ := spl_follow f n
  unfold partsOf
  split
  next h => exact ⟨trivial, h.symm⟩
  · exact ⟨follow_snoc _ _ _ h1 h2.symm, endsAt_snoc _ _ _⟩
end Go.Proofs.Ytfhbkidceombbaa
