/-
  Contract: Parse.
-/
import Derived.Test.YtkiecgcjnlgbnaaExA
import Derived.Test.YtkiecgcjnlgbnaaFlA
namespace Go.Proofs.Ytkiecgcjnlgbnaa
set_option maxRecDepth 100000
open Go.RowKit Go.Joins Go.Deep

theorem numB_two (s : ByteArray) (a : Nat) (h : a + 2 ≤ s.size) : numB s a 0 2 = idA s a := by
  unfold numB idA
  rw [nums_piece s a 2 h]
/-- What a field's head and bytes are, as the cursor takes them. -/
theorem fit_case (s : ByteArray) (a : Nat) (ha : a < s.size) {a1 e1 a2 e2 n a3 e3 v : Nat} {p : ByteArray}
    (hv : numB s a 0 2 = v) (ha1 : atB s a 0 (2 : Nat) = a1) (he1 : errB s a 0 (2 : Nat) = e1) (hn : numB s a1 e1 2 = n) (ha2 : atB s a1 e1 (2 : Nat) = a2) (he2 : errB s a1 e1 (2 : Nat) = e2) (hp : piece s a2 e2 (n : Nat) = p) (ha3 : atB s a2 e2 (n : Nat) = a3) (he3 : errB s a2 e2 (n : Nat) = e3) :
    (e3 = 0 ∧ a + 4 + idA s (a + 2) ≤ s.size ∧ a3 = a + 4 + idA s (a + 2) ∧ (⟨v, p⟩ : Fd) = fdA s a) ∨ (e3 ≠ 0 ∧ ¬ a + 4 + idA s (a + 2) ≤ s.size) := by
  by_cases he : e3 = 0
  · left
    obtain ⟨z2, _, z2s, z2a⟩ := errB_zero (he3.trans he)
    rw [Int.toNat_natCast] at z2s z2a
    subst z2
    obtain ⟨z1, _, z1s, z1a⟩ := errB_zero he2
    rw [Int.toNat_natCast] at z1s z1a
    subst z1
    obtain ⟨_, _, z0s, z0a⟩ := errB_zero he1
    rw [Int.toNat_natCast] at z0s z0a
    rw [z0a] at ha1
    subst ha1
    rw [z1a] at ha2
    subst ha2
    have h2 := numB_two s (a + 2) z1s
    rw [hn] at h2
    subst h2
    refine ⟨he, by omega, by rw [← ha3, z2a], ?_⟩
    unfold fdA
    rw [← numB_two s a z0s, hv, ← hp]
    unfold piece
    rw [if_pos (mayB_yes s (a + 2 + 2) (idA s (a + 2)) z2s), Int.toNat_natCast]
  · right
    refine ⟨he, fun hfit => he ?_⟩
    have h1 := atB_yes s a 2 (by omega)
    have h2 := errB_yes s a 2 (by omega)
    rw [h1] at ha1
    rw [h2] at he1
    subst ha1 he1
    have h3 := atB_yes s (a + 2) 2 (by omega)
    have h4 := errB_yes s (a + 2) 2 (by omega)
    rw [h3] at ha2
    rw [h4] at he2
    subst ha2 he2
    rw [numB_two s (a + 2) (by omega)] at hn
    subst hn
    rw [← he3]
    exact errB_yes s (a + 4) (idA s (a + 2)) hfit
theorem parts_fd : (Try.prog.info? 38).map (fun i => (i.zero, i.size, i.bytes)) = some (some (.agg #[.int .u16 0, .string ⟨#[]⟩]), 2, 24) := by kernel_rfl
theorem cells2 {w : World} {g : Nat} {x y : Value} {T : TypeId} (h : w.heap[g]? = some (.cells #[x, y] T (0, 0))) : ∀ j u, [x, y][j]? = some u → w.cell? ((⟨g, 0, none⟩ : Addr).add j) = some u := by
  intro j u hj
  rw [Addr.add_lit, Nat.zero_add, cell_of_row w g j _ _ _ h]
  simpa using hj
theorem cellF_one (f : Fd) : ∀ u ∈ cellsF [f], u.oneCell' = true := by
  intro u hu
  simp [cellsF] at hu
  rcases hu with rfl | rfl <;> rfl
end Go.Proofs.Ytkiecgcjnlgbnaa
