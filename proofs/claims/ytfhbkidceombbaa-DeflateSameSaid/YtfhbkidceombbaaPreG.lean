/-
  Contract of Sign.
-/
import Derived.Test.YtfhbkidceombbaaPreS
namespace Go.Proofs.Ytfhbkidceombbaa
set_option maxRecDepth 100000
open Go.RowKit Go.Deep Go.Joins Go.ChangeMaps
open Go.Maps (Keyed IsMap has)

/-- A code whole: what its blocks hold. -/
def Cd (w : World) (g bm : Nat) (ls W : Nat → Nat) (n mx : Nat) : Prop := ∃ B, Cd0 w B g bm ls W n mx
theorem Cd0.lt {w : World} {B g bm n mx : Nat} {ls W : Nat → Nat} (h : Cd0 w B g bm ls W n mx) : g < w.heap.size ∧ bm < w.heap.size := by
  obtain ⟨A, c, hb, _, hm, _⟩ := h
  exact ⟨lt_of_heap hb, map_lt hm⟩
/-- A code stays, where only blocks turn that are none of its own. -/
theorem Cd0.below {w w' : World} {B g bm n mx : Nat} {ls W : Nat → Nat} (h : Cd0 w B g bm ls W n mx) (hb : Below w.heap.size w w') : Cd0 w' B g bm ls W n mx := by
  obtain ⟨A, c, hb0, ho, hm, h1, h2⟩ := h
  exact ⟨A, c, (hb.block g (lt_of_heap hb0)).trans hb0, row_kept' ho (fun b e => hb.block b (ho.lt b e).2), map_stay hm (hb.block bm (map_lt hm)), h1, h2⟩
theorem Cd0.grown {w w' : World} {B g bm n mx gr : Nat} {ls W : Nat → Nat} {T : TypeId} {cs : Array Value} (h : Cd0 w B g bm ls W n mx) (hT : T ≠ 142) (hT2 : T ≠ 146) (hr : w.heap[gr]? = some (.cells cs T (0, 0))) (hg : w.grownBy w' (some gr)) : Cd0 w' B g bm ls W n mx := by
  obtain ⟨A, c, hb0, ho, hm, h1, h2⟩ := h
  have hne := row_ne' hT ho hr
  have hgg : g ≠ gr := by
    rintro rfl
    rw [hb0] at hr
    simp at hr
    exact hT2 hr.2.symm
  have hbm : bm ≠ gr := fun e => map_ne hm hr e.symm
  exact ⟨A, c, (hg.block g (lt_of_heap hb0) (by intro h; injection h with h; exact hgg h)).trans hb0, row_kept' ho (fun b e => hg.block b (ho.lt b e).2 (fun h => hne (e.trans h))), map_stay hm (hg.block bm (map_lt hm) (by intro h; injection h with h; exact hbm h)), h1, h2⟩

theorem zero_int (w : World) : (zeroValue 3).run Try.prog w = .ok (.int .i64 0) w := by kernel_rfl

theorem grown_of_below {w w' : World} {row : Option Nat} (h : Below w.heap.size w w') : w.grownBy w' row := ⟨h.os, h.tape, h.output, h.size, fun i hi _ => h.block i hi⟩

/-- What the bits ahead are, the first one the highest. -/
theorem rev_small (v k : Nat) (hk : k ≤ 15) : rev v k < 32768 := Nat.lt_of_lt_of_le (rev_lt v k) (Nat.pow_le_pow_right (n := 2) (by omega) (show k ≤ 15 by omega))

/-- No word of at most k bits stands next. -/
def NoWord (ls W : Nat → Nat) (n v k : Nat) : Prop := ∀ l, 1 ≤ l → l ≤ k → findW ls W l (rev v l) n = none

/-- What Sign answers, at the bits v (as many as 'many'). -/
def SignIs (ls W : Nat → Nat) (n mx v many : Nat) (x : Int) (e l : Nat) : Prop :=
  (∃ i, x = (i : Nat) ∧ e = 0 ∧ 1 ≤ l ∧ l ≤ mx ∧ l ≤ many ∧ findW ls W l (rev v l) n = some i ∧ NoWord ls W n v (l - 1)) ∨
  (x = -1 ∧ e = 3 ∧ l = 0 ∧ many < mx ∧ NoWord ls W n v many) ∨ (x = -1 ∧ e = 10 ∧ l = 0 ∧ mx ≤ many ∧ NoWord ls W n v mx)

theorem or_bit (x b : Nat) (hx : x < 32768) (hb : b < 2) : bits .or .u32 ((x : Int) * 2) (b : Int) = ((x * 2 + b : Nat) : Int) := by
  rw [show ((x : Int) * 2) = ((x * 2 : Nat) : Int) by simp, u32_or_nat _ _ (by omega) (by omega)]
  have h := Nat.shiftLeft_add_eq_or_of_lt (i := 1) (b := b) (by omega) x
  rw [Nat.shiftLeft_eq] at h
  rw [← h]
theorem and_bit (y : Nat) (hy : y < 4294967296) : bits .and .u32 (y : Int) 1 = ((y % 2 : Nat) : Int) := by
  have := u32_and_nat y 1 hy (by omega)
  rw [Nat.and_one_is_mod] at this
  exact this

/-- The map asked: what is told. -/
theorem look_word {w : World} {B g bm n mx : Nat} {ls W : Nat → Nat} (h : Cd0 w B g bm ls W n mx) (hW : ∀ i, i < n → ls i < 256 ∧ W i < 4294967296) (l x : Nat) (hl : l < 256) (hx : x < 4294967296) (d : Nat) :
    (Instr.lookup 144 (.map (some bm)) (.agg #[.int .u8 (l : Nat), .int .u32 (x : Nat)]) true).run Try.prog (w.drewN d) = .ok (.tuple #[.int .i64 ((findW ls W l x n).getD 0 : Nat), .bool (findW ls W l x n).isSome]) (w.drewN d) := by
  obtain ⟨A, c, _, _, hm, _⟩ := h
  have hm' : (w.drewN d).ownsMap Try.prog 142 (plainElem Try.prog 3) bm n (codeMap ls W n) := hm
  obtain ⟨v, ps, hrun, hv⟩ := hm'.look_ok word_law Try.underlying144 (zero_int _) (plainElem_int Try.underlying3 (by decide)) (kk_of l x hl hx)
  obtain ⟨h1, h2⟩ := codeMap_has ls W l x hl hx n hW
  obtain ⟨c, rfl, hc, _⟩ := plainElem_int_inv Try.underlying3 hv
  rw [h2] at hc
  have e : c = ((findW ls W l x n).getD 0 : Nat) := by
    cases hf : findW ls W l x n with
    | none =>
      rw [hf] at hc
      simp at hc
      exact hc.1.symm
    | some i =>
      rw [hf] at hc
      simp at hc
      exact hc.1.symm
  rw [h1, e] at hrun
  exact hrun

end Go.Proofs.Ytfhbkidceombbaa
