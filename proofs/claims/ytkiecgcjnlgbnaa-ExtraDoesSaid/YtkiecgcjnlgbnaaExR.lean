/-
  What the law ExtraDoes keeps; a copy of fields by append.
-/
import Derived.Test.YtkiecgcjnlgbnaaExM
import Derived.Test.YtkiecgcjnlgbnaaExP
import Derived.Test.YtkiecgcjnlgbnaaExQ
namespace Go.Proofs.Ytkiecgcjnlgbnaa
set_option maxRecDepth 100000
open Go.RowKit Go.Joins Go.Deep

theorem append_nil_fds (A : Option Addr) (cap : Nat) (l : List Fd) (w : World) (hF : Fds w A l) (hn : Nil0 A l.length cap) (hl : l.length ≤ 10000) (ty : TypeId) :
    ∃ Aw cw w', (Builtin.append_ #[22, 22] ty #[.slice none 0 0, .slice A l.length cap]).run Try.prog w = .ok (.slice Aw l.length cw) w' ∧ Fds w' Aw l ∧ Below w.heap.size w w' := by
  obtain ⟨i0, hi, hz0, hz1, hz2⟩ := info_parts parts_fd
  cases A with
  | none =>
    obtain ⟨h1, h2⟩ := hn rfl
    have hl0 : l = [] := List.eq_nil_of_length_eq_zero h1
    subst hl0 h2
    exact ⟨none, 0, w, run_append_owned_none w w.heap.size 22 ty 38 i0 2 Try.underlying22 hi _ 0 [] (World.ownsRow_nil _ _ _ _), Fds.nil _ _, Below.refl _ _⟩
  | some ad =>
    obtain ⟨v', w', hr, h2, h3, _⟩ := run_append_own_at (P := Try.prog) w w.heap.size 22 ty 38 i0 (.agg #[.int .u16 0, .string ⟨#[]⟩]) 2 24 Try.underlying22 hi hz0 hz1 hz2 rfl (by decide) (.slice none 0 0) 0 [] (World.ownsRow_nil _ _ _ _) ad l.length cap (cellsF l) (cellsF_len l) (cellsF_news hF) (cellsF_ones l) (by unfold maxLen; omega) (by omega) (Nat.le_refl _)
    rw [Nat.zero_add, List.nil_append] at h2
    obtain ⟨Aw, cw, rfl⟩ := slice_of_own h2
    exact ⟨Aw, cw, w', hr, fds_of_own h2, (Below.refl _ _).grown h3 (Nat.le_refl _) (fun g hg => by simp [Value.ownBlock] at hg)⟩
/-- What the law keeps. -/
structure DoW (w wr : World) (A : Option Addr) (l : List Fd) (I : Option Addr) (ids : List Nat) (fid : Nat) (fd : ByteArray) : Prop where
  bel : Below w.heap.size w wr
  fds : Fds wr A l
  ids : Ids wr I ids
  box : wr.heap[w.heap.size]? = some (.cells #[.int .u16 (fid : Nat), .string fd] 38 (0, 0))
variable {w wr w2 : World} {A I : Option Addr} {l : List Fd} {ids : List Nat} {fid : Nat} {fd : ByteArray}
theorem DoW.next (h : DoW w wr A l I ids fid fd) (hb : Below wr.heap.size wr w2) : DoW w w2 A l I ids fid fd :=
  ⟨below_then h.bel hb, h.fds.below (Nat.le_refl _) hb, h.ids.below (Nat.le_refl _) hb, (hb.block _ (lt_of_heapE h.box)).trans h.box⟩
theorem DoW.c0 (h : DoW w wr A l I ids fid fd) : wr.cell? ⟨w.heap.size, 0, none⟩ = some (.int .u16 (fid : Nat)) := by rw [cell_of_row _ _ 0 _ _ _ h.box]; rfl
theorem DoW.c1 (h : DoW w wr A l I ids fid fd) : wr.cell? ⟨w.heap.size, 1, none⟩ = some (.string fd) := by rw [cell_of_row _ _ 1 _ _ _ h.box]; rfl
theorem Fds.next (h : Fds wr A l) (hb : Below wr.heap.size wr w2) : Fds w2 A l := h.below (Nat.le_refl _) hb
end Go.Proofs.Ytkiecgcjnlgbnaa
