/-
  A writer of the program's and one of the document's, side by side (out of stage 2's XBitsWritesWalk, without its walk).
-/
import Derived.Test.YtabpcipfijakjaaBitsP
import Derived.Test.YtabpcipfijakjaaBitsN
namespace Go.Proofs.Ytabpcipfijakjaa
open Go.RowKit Go.Joins

theorem Qr.row_lt {w : World} {B g M L : Nat} {r : Option Nat} (h : Qr w B g r M L) : ∀ i, some i = r → B ≤ i ∧ i < w.heap.size := by
  obtain ⟨_, v, hb, ho, hr, hBg⟩ := h
  intro i e
  exact ho.lt i (by rw [hr, e])
theorem Qr.lt {w : World} {B g M L : Nat} {r : Option Nat} (h : Qr w B g r M L) : g < w.heap.size := by
  obtain ⟨_, v, hb, _⟩ := h
  exact lt_of_block' hb
theorem Qr.ge {w : World} {B g M L : Nat} {r : Option Nat} (h : Qr w B g r M L) : ∀ i, (i = g ∨ some i = r) → B ≤ i := by
  rintro i (rfl | e)
  · obtain ⟨_, v, _, _, _, hBg⟩ := h
    exact hBg
  · exact (h.row_lt i e).1
theorem Qr.stay {w w' : World} {B g M L : Nat} {r : Option Nat} (h : Qr w B g r M L) (hk : ∀ i, i < w.heap.size → (i = g ∨ some i = r) → w'.heap[i]? = w.heap[i]?) : Qr w' B g r M L := by
  have hg := h.lt
  have hrl := h.row_lt
  obtain ⟨hM, v, hb, ho, hr, hBg⟩ := h
  exact ⟨hM, v, (hk g hg (.inl rfl)).trans hb, row_kept ho fun b hb => hk b (hrl b (by rw [← hb, hr])).2 (.inr (by rw [← hb, hr])), hr, hBg⟩
theorem Wr.row_ne {w : World} {B g g' M L : Nat} {r : Option Nat} {cs : Array Value} {T : TypeId} (hT : T ≠ 5) (h : Wr w B g r M L) (hh : w.heap[g']? = some (.cells cs T (0, 0))) : r ≠ some g' := by
  obtain ⟨_, v, _, ho, hr, _⟩ := h
  exact hr ▸ Go.Proofs.Ytabpcipfijakjaa.row_ne hT ho hh
theorem Qr.row_ne {w : World} {B g g' M L : Nat} {r : Option Nat} {cs : Array Value} {T : TypeId} (hT : T ≠ 5) (h : Qr w B g r M L) (hh : w.heap[g']? = some (.cells cs T (0, 0))) : r ≠ some g' := by
  obtain ⟨_, v, _, ho, hr, _⟩ := h
  exact hr ▸ Go.Proofs.Ytabpcipfijakjaa.row_ne hT ho hh
/-- No row is shared. -/
def Apart (r r' : Option Nat) : Prop := ∀ b, r = some b → r' ≠ some b
theorem pair_first {w w1 : World} {B g q M L M' L' : Nat} {r r' s : Option Nat} (hne : q ≠ g) (hw : Wr w B g r M L) (hq : Qr w B q s M' L') (ha : Apart r s) (hu : Upd g r r' w w1) : Qr w1 B q s M' L' ∧ Apart r' s := by
  have hrq : r ≠ some q := by obtain ⟨_, _, hb, _⟩ := hq; exact hw.row_ne (by decide) hb
  have hsg : s ≠ some g := by obtain ⟨_, _, hb, _⟩ := hw; exact hq.row_ne (by decide) hb
  refine ⟨hq.stay fun i hi hs => hu.1.block i hi ?_, ?_⟩
  · rintro (e | e) <;> rcases hs with e' | e'
    · exact hne (e'.symm.trans e)
    · exact hsg (by rw [← e', e])
    · exact hrq (by rw [← e, e'])
    · exact ha i e.symm e'.symm
  · intro b hb hs
    rcases hu.2 with e | ⟨j, e, hj⟩
    · exact ha b (e ▸ hb) hs
    · rw [e] at hb
      injection hb with hb
      have := (hq.row_lt b hs.symm).2
      omega
theorem pair_second {w w1 : World} {B g q M L M' L' : Nat} {r s s' : Option Nat} (hne : q ≠ g) (hw : Wr w B g r M L) (hq : Qr w B q s M' L') (ha : Apart r s) (hu : Upd q s s' w w1) : Wr w1 B g r M L ∧ Apart r s' := by
  have hrq : r ≠ some q := by obtain ⟨_, _, hb, _⟩ := hq; exact hw.row_ne (by decide) hb
  have hsg : s ≠ some g := by obtain ⟨_, _, hb, _⟩ := hw; exact hq.row_ne (by decide) hb
  refine ⟨hw.stay fun i hi hs => hu.1.block i hi ?_, ?_⟩
  · rintro (e | e) <;> rcases hs with e' | e'
    · exact hne (e.symm.trans e')
    · exact hrq (by rw [← e', e])
    · exact hsg (by rw [← e, e'])
    · exact ha i e'.symm e.symm
  · intro b hb hs
    rcases hu.2 with e | ⟨j, e, hj⟩
    · exact ha b hb (e ▸ hs)
    · rw [e] at hs
      injection hs with hs
      have := hw.row_lt b hb.symm
      omega

/-- Both writers have written the same. -/
def Inv2 (B g q bound : Nat) (w0 wr : World) : Prop := ∃ M L r s, L ≤ bound ∧ Wr wr B g r M L ∧ Qr wr B q s M L ∧ Apart r s ∧ Below B w0 wr
theorem inv2_step {B g q bound M L M' L' : Nat} {r r1 s s1 : Option Nat} {w0 w w1 w2 : World} (hne : q ≠ g) (hb0 : Below B w0 w) (hw : Wr w B g r M L) (hq : Qr w B q s M L) (ha : Apart r s) (hB : B ≤ w.heap.size)
    (hw1 : Wr w1 B g r1 M' L') (hu1 : Upd g r r1 w w1) (hq2 : Qr w2 B q s1 M' L') (hu2 : Upd q s s1 w1 w2) (hL : L' ≤ bound) : Inv2 B g q bound w0 w2 := by
  obtain ⟨hq1, ha1⟩ := pair_first hne hw hq ha hu1
  obtain ⟨hw2, ha2⟩ := pair_second hne hw1 hq1 ha1 hu2
  exact ⟨M', L', r1, s1, hL, hw2, hq2, ha2, ((hb0.trans (hu1.1.below hw.ge hB)).trans (hu2.1.below hq1.ge (Nat.le_trans hB hu1.1.size)))⟩
theorem Qr.c0 {w : World} {B g M L : Nat} {r : Option Nat} (h : Qr w B g r M L) : ∃ A c, w.cell? ⟨g, 0, none⟩ = some (.slice A L c) := by
  obtain ⟨_, v, hb, ho, _, _⟩ := h
  obtain ⟨A, c, rfl⟩ := row_slice ho
  exact ⟨A, c, by rw [cell_of_row _ g 0 _ _ _ hb]; rfl⟩
theorem Wr.below {w w' : World} {B g M L : Nat} {r : Option Nat} (h : Wr w B g r M L) (hb : Below w.heap.size w w') : Wr w' B g r M L := h.stay fun i hi _ => hb.block i hi
theorem Qr.below {w w' : World} {B g M L : Nat} {r : Option Nat} (h : Qr w B g r M L) (hb : Below w.heap.size w w') : Qr w' B g r M L := h.stay fun i hi _ => hb.block i hi
theorem Qr.alloc {w : World} {B g M L : Nat} {r : Option Nat} (h : Qr w B g r M L) (o : Obj) : Qr (w.alloc o) B g r M L := h.stay fun i hi _ => Below.heap_alloc w o i hi
theorem qr_new (w : World) (B : Nat) (hB : B ≤ w.heap.size) : Qr (w.alloc (.cells #[.slice none 0 0] 48)) B w.heap.size none 0 0 :=
  ⟨by decide, .slice none 0 0, heap_alloc_new w _, World.ownsRow_nil _ _ _ _, rfl, hB⟩
end Go.Proofs.Ytabpcipfijakjaa
