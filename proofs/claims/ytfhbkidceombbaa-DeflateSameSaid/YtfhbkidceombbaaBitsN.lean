/-
  Contracts: readers that are none; the chapter's example of layer 3.
-/
import Derived.Test.YtfhbkidceombbaaBitsX
import Derived.Test.YtfhbkidceombbaaBitsT
namespace Go.Proofs.Ytfhbkidceombbaa
open Go.RowKit Go.Joins

/-- A writer that has just been made. -/
theorem wr_new (w : World) (B : Nat) (hB : B ≤ w.heap.size) : Wr (w.alloc (.cells #[.slice none 0 0, .int .u64 0, .int .i64 0] 32)) B w.heap.size none 0 0 :=
  ⟨by decide, .slice none 0 0, heap_alloc_new w _, World.ownsRow_nil _ _ _ _, rfl, hB⟩
theorem Kept.below0 {S : Nat → Prop} {B : Nat} {w w0 w1 : World} (hB : B ≤ w.heap.size) (h0 : Below B w0 w) (h : Kept S w w1) (hs : ∀ i, S i → B ≤ i) : Below B w0 w1 := h0.trans (h.below hs hB)
theorem Wr.ge {w : World} {B g M L : Nat} {r : Option Nat} (h : Wr w B g r M L) : ∀ i, (i = g ∨ some i = r) → B ≤ i := by
  obtain ⟨_, v, hb, ho, hr, hBg⟩ := h
  rintro i (rfl | e)
  · exact hBg
  · rcases ho.2 with ⟨rfl, _⟩ | ⟨g', cap, cur, rfl, hg, _⟩
    · rw [← hr] at e
      simp [Value.ownBlock] at e
    · rw [← hr] at e
      simp [Value.ownBlock] at e
      omega
theorem Wr.lt {w : World} {B g M L : Nat} {r : Option Nat} (h : Wr w B g r M L) : g < w.heap.size := by
  obtain ⟨_, v, hb, _⟩ := h
  exact lt_of_block' hb

theorem Wr.row_lt {w : World} {B g M L : Nat} {r : Option Nat} (h : Wr w B g r M L) : ∀ i, some i = r → i < w.heap.size := by
  obtain ⟨_, v, hb, ho, hr, hBg⟩ := h
  intro i e
  rcases ho.2 with ⟨rfl, _⟩ | ⟨g', cap, cur, rfl, hg, hh, _⟩
  · rw [← hr] at e
    simp [Value.ownBlock] at e
  · rw [← hr] at e
    simp [Value.ownBlock] at e
    subst e
    exact lt_of_block' hh
/-- A writer stays where its blocks do. -/
theorem Wr.stay {w w' : World} {B g M L : Nat} {r : Option Nat} (h : Wr w B g r M L) (hk : ∀ i, i < w.heap.size → (i = g ∨ some i = r) → w'.heap[i]? = w.heap[i]?) : Wr w' B g r M L := by
  have hg := h.lt
  have hrl := h.row_lt
  obtain ⟨hM, v, hb, ho, hr, hBg⟩ := h
  exact ⟨hM, v, (hk g hg (.inl rfl)).trans hb, row_kept ho fun b hb => hk b (hrl b (by rw [← hb, hr])) (.inr (by rw [← hb, hr])), hr, hBg⟩
theorem Wr.kept {w w' : World} {B g M L : Nat} {r : Option Nat} {S : Nat → Prop} (h : Wr w B g r M L) (hk : Kept S w w') (hs : ∀ i, (i = g ∨ some i = r) → ¬ S i) : Wr w' B g r M L :=
  h.stay fun i hi e => hk.block i hi (hs i e)
theorem Wr.alloc {w : World} {B g M L : Nat} {r : Option Nat} (h : Wr w B g r M L) (o : Obj) : Wr (w.alloc o) B g r M L := h.kept (kept_alloc (fun _ => False) w o) fun _ _ e => e

theorem write_ex1 (B g : Nat) (r : Option Nat) (w : World) (hB : B ≤ w.heap.size) (hc : Wr w B g r 0 0) :
    Calls Try.prog 25 #[.pointer (some ⟨g, 0, none⟩), .int .u32 1, .int .i64 1] w fun e w' => e = .returned (.tuple #[]) ∧ ∃ r', Wr w' B g r' 1 1 ∧ Upd g r r' w w' := write_ok B g r 0 0 1 1 (by omega) (by omega) (by omega) (by omega) w hB hc
theorem write_ex2 (B g : Nat) (r : Option Nat) (w : World) (hB : B ≤ w.heap.size) (hc : Wr w B g r 1 1) :
    Calls Try.prog 25 #[.pointer (some ⟨g, 0, none⟩), .int .u32 2, .int .i64 2] w fun e w' => e = .returned (.tuple #[]) ∧ ∃ r', Wr w' B g r' 5 3 ∧ Upd g r r' w w' := write_ok B g r 1 1 2 2 (by omega) (by omega) (by omega) (by omega) w hB hc
theorem done_ex (B g : Nat) (r : Option Nat) (w : World) (hc : Wr w B g r 5 3) :
    Calls Try.prog 13 #[.pointer (some ⟨g, 0, none⟩)] w fun e w' => e = .returned (.string ⟨#[5]⟩) ∧ Below w.heap.size w w' := wdone_any B g r 5 3 (by omega) w hc
end Go.Proofs.Ytfhbkidceombbaa
