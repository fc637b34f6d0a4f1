/-
  Contracts: readers that are none; the chapter's example of layer 3.
-/
import Derived.Test.YtljekdnjdcfliaaBitsX
import Derived.Test.YtljekdnjdcfliaaBitsT
namespace Go.Proofs.Ytljekdnjdcfliaa
open Go.RowKit Go.Joins

theorem peek_nil (n : Int) (w : World) : Calls Try.prog 40 #[.pointer none, .int .i64 n] w fun r w' => r = .returned (.tuple #[.int .u32 0, .int .i64 0]) ∧ w = w' := by
  go_enter Try.func40, Try.ntmps40
  go_wp2_with (go_at_call 39; refine (well_nil _).mono ?_; rintro r w' ⟨rfl, rfl⟩)
  go_ret2
  exact ⟨rfl, rfl⟩
theorem skip_nil (n : Int) (w : World) : Calls Try.prog 41 #[.pointer none, .int .i64 n] w fun r w' => r = .returned (.tuple #[]) ∧ w = w' := by
  go_enter Try.func41, Try.ntmps41
  go_wp2_with (go_at_call 39; refine (well_nil _).mono ?_; rintro r w' ⟨rfl, rfl⟩)
  go_end0
  exact ⟨rfl, rfl⟩
theorem read_nil (w : World) : Calls Try.prog 15 #[.pointer none, .int .i64 1] w fun r w' => r = .returned (.int .u32 0) ∧ w = w' := by
  go_enter Try.func15, Try.ntmps15
  go_wp2_with (first | (go_at_call 39; refine (well_nil _).mono ?_; rintro r w' ⟨rfl, rfl⟩) | (go_at_call 40; refine (peek_nil _ _).mono ?_; rintro r w' ⟨rfl, rfl⟩) | (go_at_call 41; refine (skip_nil _ _).mono ?_; rintro r w' ⟨rfl, rfl⟩))
  go_ret
  exact ⟨rfl, rfl⟩
theorem align_nil (w : World) : Calls Try.prog 42 #[.pointer none] w fun r w' => r = .returned (.tuple #[]) ∧ w = w' := by
  go_enter Try.func42, Try.ntmps42
  go_wp2_with (go_at_call 39; refine (well_nil _).mono ?_; rintro r w' ⟨rfl, rfl⟩)
  go_end0
  exact ⟨rfl, rfl⟩
theorem bytes_nil (n : Int) (w : World) : Calls Try.prog 16 #[.pointer none, .int .i64 n] w fun r w' => r = .returned (.string ⟨#[]⟩) ∧ w = w' := by
  go_enter Try.func16, Try.ntmps16
  go_wp2_with (first | (go_at_call 39; refine (well_nil _).mono ?_; rintro r w' ⟨rfl, rfl⟩) | (go_at_call 42; refine (align_nil _).mono ?_; rintro r w' ⟨rfl, rfl⟩))
  go_ret
  exact ⟨rfl, rfl⟩
theorem at_nil (w : World) : Calls Try.prog 18 #[.pointer none] w fun r w' => r = .returned (.int .i64 0) ∧ w = w' := by
  go_enter Try.func18, Try.ntmps18
  go_wp2
  go_ret
  exact ⟨rfl, rfl⟩
theorem err_nil (w : World) : Calls Try.prog 17 #[.pointer none] w fun r w' => r = .returned (.int .i64 1) ∧ w = w' := by
  go_enter Try.func17, Try.ntmps17
  go_wp2
  go_ret
  exact ⟨rfl, rfl⟩

/-- A writer that has just been made. -/
theorem wr_new (w : World) (B : Nat) (hB : B ≤ w.heap.size) : Wr (w.alloc (.cells #[.slice none 0 0, .int .u64 0, .int .i64 0] 28)) B w.heap.size none 0 0 :=
  ⟨by decide, .slice none 0 0, heap_alloc_new w _, World.ownsRow_nil _ _ _ _, rfl, hB⟩
theorem Kept.below0 {S : Nat → Prop} {B : Nat} {w w0 w1 : World} (hB : B ≤ w.heap.size) (h0 : Below B w0 w) (h : Kept S w w1) (hs : ∀ i, S i → B ≤ i) : Below B w0 w1 := h0.trans (h.below hs hB)
theorem Wr.ge {w : World} {B g M L : Nat} {r : Option Nat} (h : Wr w B g r M L) : ∀ i, (i = g ∨ some i = r) → B ≤ i := by
  obtain ⟨_, v, hb, ho, hr, hBg⟩ := h
  rintro i (rfl | e)
  · exact hBg
  · rcases ho.2 with ⟨rfl, _⟩ | ⟨g', cap, cur, rfl, hg, _⟩
    · rw [← hr] at e
      simp [Value.ownBlock] at e
    · rw [← hr] at e
      simp [Value.ownBlock] at e
      omega
theorem Wr.lt {w : World} {B g M L : Nat} {r : Option Nat} (h : Wr w B g r M L) : g < w.heap.size := by
  obtain ⟨_, v, hb, _⟩ := h
  exact lt_of_block' hb

theorem Wr.row_lt {w : World} {B g M L : Nat} {r : Option Nat} (h : Wr w B g r M L) : ∀ i, some i = r → i < w.heap.size := by
  obtain ⟨_, v, hb, ho, hr, hBg⟩ := h
  intro i e
  rcases ho.2 with ⟨rfl, _⟩ | ⟨g', cap, cur, rfl, hg, hh, _⟩
  · rw [← hr] at e
    simp [Value.ownBlock] at e
  · rw [← hr] at e
    simp [Value.ownBlock] at e
    subst e
    exact lt_of_block' hh
/-- A writer stays where its blocks do. -/
theorem Wr.stay {w w' : World} {B g M L : Nat} {r : Option Nat} (h : Wr w B g r M L) (hk : ∀ i, i < w.heap.size → (i = g ∨ some i = r) → w'.heap[i]? = w.heap[i]?) : Wr w' B g r M L := by
  have hg := h.lt
  have hrl := h.row_lt
  obtain ⟨hM, v, hb, ho, hr, hBg⟩ := h
  exact ⟨hM, v, (hk g hg (.inl rfl)).trans hb, row_kept ho fun b hb => hk b (hrl b (by rw [← hb, hr])) (.inr (by rw [← hb, hr])), hr, hBg⟩
theorem Wr.kept {w w' : World} {B g M L : Nat} {r : Option Nat} {S : Nat → Prop} (h : Wr w B g r M L) (hk : Kept S w w') (hs : ∀ i, (i = g ∨ some i = r) → ¬ S i) : Wr w' B g r M L :=
  h.stay fun i hi e => hk.block i hi (hs i e)
theorem Wr.alloc {w : World} {B g M L : Nat} {r : Option Nat} (h : Wr w B g r M L) (o : Obj) : Wr (w.alloc o) B g r M L := h.kept (kept_alloc (fun _ => False) w o) fun _ _ e => e

theorem write_ex1 (B g : Nat) (r : Option Nat) (w : World) (hB : B ≤ w.heap.size) (hc : Wr w B g r 0 0) :
    Calls Try.prog 11 #[.pointer (some ⟨g, 0, none⟩), .int .u32 1, .int .i64 1] w fun e w' => e = .returned (.tuple #[]) ∧ ∃ r', Wr w' B g r' 1 1 ∧ Upd g r r' w w' := write_ok B g r 0 0 1 1 (by omega) (by omega) (by omega) (by omega) w hB hc
theorem write_ex2 (B g : Nat) (r : Option Nat) (w : World) (hB : B ≤ w.heap.size) (hc : Wr w B g r 1 1) :
    Calls Try.prog 11 #[.pointer (some ⟨g, 0, none⟩), .int .u32 2, .int .i64 2] w fun e w' => e = .returned (.tuple #[]) ∧ ∃ r', Wr w' B g r' 5 3 ∧ Upd g r r' w w' := write_ok B g r 1 1 2 2 (by omega) (by omega) (by omega) (by omega) w hB hc
theorem done_ex (B g : Nat) (r : Option Nat) (w : World) (hc : Wr w B g r 5 3) :
    Calls Try.prog 14 #[.pointer (some ⟨g, 0, none⟩)] w fun e w' => e = .returned (.string ⟨#[5]⟩) ∧ Below w.heap.size w w' := wdone_any B g r 5 3 (by omega) w hc
theorem read_ex1 (g : Nat) (w : World) (hc : Rd 82 w g ⟨#[5]⟩ 0 0) :
    Calls Try.prog 15 #[.pointer (some ⟨g, 0, none⟩), .int .i64 1] w fun r w' => r = .returned (.int .u32 1) ∧ Rd 82 w' g ⟨#[5]⟩ 1 0 ∧ w.grownBy w' (some g) := read_any g ⟨#[5]⟩ 0 0 1 (by decide) (by decide) w hc
theorem read_ex2 (g : Nat) (w : World) (hc : Rd 82 w g ⟨#[5]⟩ 1 0) :
    Calls Try.prog 15 #[.pointer (some ⟨g, 0, none⟩), .int .i64 2] w fun r w' => r = .returned (.int .u32 2) ∧ Rd 82 w' g ⟨#[5]⟩ 3 0 ∧ w.grownBy w' (some g) := read_any g ⟨#[5]⟩ 1 0 2 (by decide) (by decide) w hc

theorem awake3_any (w : World) :
    Calls Try.prog 10 #[] w fun e w' => e = .returned (.bool true) ∧ Below w.heap.size w w' := by
  go_enter Try.func10, Try.ntmps10
  go_wp2_with fail
  have hw0 := wr_new w w.heap.size (Nat.le_refl _)
  have hB0 : Below w.heap.size w (w.alloc (.cells #[.slice none 0 0, .int .u64 0, .int .i64 0] 28)) := (Below.refl _ _).alloc (Nat.le_refl _) _
  refine (write_ex1 _ _ _ _ (by simp) hw0).mono ?_; rintro e w1 ⟨rfl, r1, hw1, hu1⟩
  have hB1 := hu1.1.below0 (by simp) hB0 hw0.ge
  have hsz1 := hw1.lt
  have H1 := Lib.hid hw1
  have HB1 := Lib.hid hB1
  have HS1 := Lib.hid hB1.size
  clear hw0 hB0 hw1 hu1 hB1
  go_wp2_with fail
  refine (write_ex2 _ _ _ _ HS1.out H1.out).mono ?_; rintro e w2 ⟨rfl, r2, hw2, hu2⟩
  have HB2 := Lib.hid (hu2.1.below0 HS1.out HB1.out H1.out.ge)
  have HS2 := Lib.hid (Nat.le_trans HS1.out hu2.1.size)
  have H2 := Lib.hid hw2
  clear hw2 hu2
  go_wp2_with fail
  refine (over_any _ _).mono ?_; rintro e w3 ⟨rfl, rfl⟩
  have hr3 : Rd 82 (w2.alloc (.cells #[.string ⟨#[5]⟩, .int .i64 0, .int .i64 0] 82)) w2.heap.size ⟨#[5]⟩ 0 0 := heap_alloc_new w2 _
  have hw3 := H2.out.alloc (.cells #[.string ⟨#[5]⟩, .int .i64 0, .int .i64 0] 82)
  have hB3 := HB2.out.alloc HS2.out (.cells #[.string ⟨#[5]⟩, .int .i64 0, .int .i64 0] 82)
  generalize w2.alloc (.cells #[.string ⟨#[5]⟩, .int .i64 0, .int .i64 0] 82) = w3 at *
  have HG := Lib.hid HS2.out
  generalize w2.heap.size = gr at *
  have HR3 := Lib.hid hr3
  have HW3 := Lib.hid hw3
  have HB3 := Lib.hid hB3
  clear hr3 hw3 hB3 H2 HB2 HS2 HS1 HB1 H1
  go_wp2_with fail
  refine (done_ex _ _ _ _ HW3.out).mono ?_; rintro e w4 ⟨rfl, hb4⟩
  have HR4 := Lib.hid (HR3.out.below hb4 HR3.out.lt)
  have HB4 := Lib.hid (below_then HB3.out hb4)
  clear hb4
  go_wp2_with fail
  refine (read_ex1 _ _ HR4.out).mono ?_; rintro e w5 ⟨rfl, hr5, hg5⟩
  have HR5 := Lib.hid hr5
  have HB5 := Lib.hid (HB4.out.grown hg5 (Nat.le_trans HG.out (Nat.le_of_lt HR4.out.lt)) (by intro k hk; injection hk with hk; have := HG.out; omega))
  clear hr5 hg5
  go_wp2_with fail
  refine (read_ex2 _ _ HR5.out).mono ?_; rintro e w6 ⟨rfl, hr6, hg6⟩
  have HR6 := Lib.hid hr6
  have HB6 := Lib.hid (HB5.out.grown hg6 (Nat.le_trans HG.out (Nat.le_of_lt HR5.out.lt)) (by intro k hk; injection hk with hk; have := HG.out; omega))
  clear hr6 hg6
  go_wp2_with (go_at_call 18; refine (at_any _ _ _ _ _ HR6.out).mono ?_; rintro r w' ⟨rfl, rfl⟩)
  go_ret
  exact ⟨rfl, HB6.out⟩
end Go.Proofs.Ytljekdnjdcfliaa
