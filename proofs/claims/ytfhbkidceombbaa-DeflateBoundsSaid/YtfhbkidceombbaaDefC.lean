/-
  Layer 9: slices.Clone of tokens.
-/
import Derived.Test.YtfhbkidceombbaaDefB
import Derived.Lib.LazyBuf
namespace Go.Proofs.Ytfhbkidceombbaa
set_option maxRecDepth 100000
open Go.RowKit Go.Joins Go.Deep

theorem tokCells_one (f : Nat → Tok) : ∀ n, ∀ u ∈ tokCells f n, u.oneCell' = true
  | 0, u, h => by cases h
  | n + 1, u, h => by
    rw [tokCells] at h
    rcases List.mem_append.1 h with h | h
    · exact tokCells_one f n u h
    · exact cellT_one (f n) u h
set_option maxHeartbeats 4000000 in
theorem clone_some (b off n cap : Nat) (f : Nat → Tok) (w : World) (hT : Toks w (some ⟨b, off, none⟩) n f) (hn : n ≤ 1000000) :
    Calls Try.prog 40 #[.slice (some ⟨b, off, none⟩) n cap] w fun e w' => ∃ v', e = .returned v' ∧ w'.ownsRow w.heap.size 43 3 v' n (tokCells f n) ∧ v' ≠ .slice none 0 0 ∧ Below w.heap.size w w' := by
  obtain ⟨i0, hi, hz0, hz1, hz2⟩ := info_parts info_tok3
  have HT := Lib.hid hT
  have q54 : ∀ (w : World) (a : Option Addr) (n c n' c' : Nat), (binOp .eql 22 (.slice a n c) (.slice none n' c')).run Try.prog w = .ok (.bool a.isNone) w := fun w a n c n' c' => Lib.run_eql_slice_nil w _ _ a n c n' c' Try.underlying22
  clear hT
  go_enter Try.func40, Try.ntmps40
  go_wp2_with (at_builtin; refine wpList_append_own _ rfl _ _ 22 rfl w.heap.size 43 i0 (.agg #[.int .u8 0, .int .i64 0, .int .i64 0]) 3 24 Try.underlying22 hi hz0 hz1 hz2 rfl (by decide) _ _ _ rfl (World.ownsRow_made w #[] 0 (Nat.le_refl _) (Nat.zero_le _) rfl) ⟨b, off, none⟩ n cap (tokCells f n) rfl ?qc1 ?qc2 ?qc3 ?qc4 ?qc5 ?qc6 ?_)
  case qc1 => exact tokCells_len f n
  case qc2 =>
    intro j u hj
    have h := toks_cells HT.out j u hj
    rw [Addr.add_lit] at h ⊢
    exact Lib.cell?_alloc_some _ h
  case qc3 =>
    intro u hu
    exact tokCells_one f n u hu
  case qc4 => unfold maxLen; omega
  case qc5 => omega
  case qc6 => simp
  intro v' w1 hown hgrow hnil
  go_wp2
  go_ret
  refine ⟨v', rfl, by simpa using hown, ?_, ?_⟩
  · exact hnil
  · exact ((Below.refl _ w).alloc (Nat.le_refl _) _).grown hgrow (by simp) (by intro k hk; simp [Value.ownBlock] at hk; omega)
theorem clone_none (n cap : Nat) (w : World) :
    Calls Try.prog 40 #[.slice none n cap] w fun e w' => e = .returned (.slice none 0 0) ∧ w' = w := by
  have q54 : ∀ (w : World) (a : Option Addr) (n c n' c' : Nat), (binOp .eql 22 (.slice a n c) (.slice none n' c')).run Try.prog w = .ok (.bool a.isNone) w := fun w a n c n' c' => Lib.run_eql_slice_nil w _ _ a n c n' c' Try.underlying22
  go_enter Try.func40, Try.ntmps40
  go_wp2
  go_ret
  exact ⟨rfl, rfl⟩
end Go.Proofs.Ytfhbkidceombbaa
