/-
 The document's dynamic: the numbers ahead, the lengths of lengths.
-/
import Derived.Test.YtmkeicfklbepnaaGreatRfJ
import Derived.Test.YtmkeicfklbepnaaGreatPkBD
import Derived.Test.YtmkeicfklbepnaaGreatPkBH
namespace Go.Proofs.YtmkeicfklbepnaaGreat
set_option maxRecDepth 100000
set_option linter.unusedVariables false
set_option linter.unusedSimpArgs false
open Go.RowKit Go.Deep Go.Joins
section
variable {w0 w w' : World} {B g gr a gl : Nat} {r r' : Option Nat} {s : ByteArray} {lim : Int} {o : List Nat}
theorem UpR.setNew (h : UpR g gr r r' w0 w) (hg : w0.heap.size ≤ gl) (i : Nat) (v : Value) : UpR g gr r r' w0 (w.setCell ⟨gl, i, none⟩ v) := by
 refine ⟨⟨h.1.os, h.1.tape, h.1.output, by simpa [World.setCell] using h.1.size, fun j hj hn => ?_⟩, h.2⟩
 exact (Below.heap_setCell _ _ _ _ (show j ≠ gl by omega)).trans (h.1.block j hj hn)
theorem RS.setNew (h : RS w B g gr r s lim a o) (h1 : g ≠ gl) (h2 : gr ≠ gl) (h3 : r ≠ some gl) (i : Nat) (v : Value) : RS (w.setCell ⟨gl, i, none⟩ v) B g gr r s lim a o := by
 obtain ⟨v1, q1, q2, q3, q4, q5⟩ := h
 refine ⟨v1, (Below.heap_setCell _ _ _ _ h1).trans q1, own_keep (i := 0) q2 (fun b hb => Below.heap_setCell _ _ _ _ (fun e => ?_)) (by simp [World.setCell]), q3, (Below.heap_setCell _ _ _ _ h2).trans q4, q5⟩
 subst e
 exact h3 (q3.symm.trans hb)
theorem RB.setNew {k : Nat} (h : RB w g k) (h1 : g ≠ gl) (i : Nat) (v : Value) : RB (w.setCell ⟨gl, i, none⟩ v) g k := by
 obtain ⟨gr, v1, l, q1, q2⟩ := h
 exact ⟨gr, v1, l, (Below.heap_setCell _ _ _ _ h1).trans q1, q2⟩
theorem RB.below {k : Nat} (h : RB w g k) (hb : Below w.heap.size w w') : RB w' g k := by
 obtain ⟨gr, v1, l, q1, q2⟩ := h
 exact ⟨gr, v1, l, (hb.block g (lt_of_block q1)).trans q1, q2⟩
theorem RS.apart {n : Nat} {f : Nat → Nat} (h : RS w B g gr r s lim a o) (hr : IsRowB w gl n f) : g ≠ gl ∧ gr ≠ gl := by
 obtain ⟨v1, q1, q2, q3, q4, q5⟩ := h
 unfold IsRowB at hr
 constructor
 ·rintro rfl
  rw [q1] at hr
  unfold stC at hr
  injection hr with hr
  injection hr with _ hr
  exact absurd hr (by decide)
 ·rintro rfl
  unfold Rd at q4
  rw [q4] at hr
  injection hr with hr
  injection hr with _ hr
  exact absurd hr (by decide)
theorem RB.apart {n k : Nat} {f : Nat → Nat} (h : RB w g k) (hr : IsRowB w gl n f) : g ≠ gl := by
 obtain ⟨gr, v1, l, q1, q2⟩ := h
 unfold IsRowB at hr
 rintro rfl
 rw [q1] at hr
 unfold stC at hr
 injection hr with hr
 injection hr with _ hr
 exact absurd hr (by decide)
end
/-- Behind some numbers: the stream goes on, or is wrong as A says. -/
def DS (w0 : World) (B g gr : Nat) (r : Option Nat) (s : ByteArray) (lim : Int) (o : List Nat) (P : Prop) (A : Nat → Prop) (b : Nat) (w : World) : Prop :=
 (P ∧ b ≤ 8 * s.size ∧ ∃ r', UpR g gr r r' w0 w ∧ RS w B g gr r' s lim b o) ∨ (∃ q, A q ∧ ∃ r', UpR g gr r r' w0 w ∧ RB w g q)
theorem rnum_ds (w0 : World) (B g gr b n : Nat) (r : Option Nat) (s : ByteArray) (lim : Int) (o : List Nat) (P : Prop) (A : Nat → Prop) (hn : n ≤ 16) (hs : s.size ≤ 1000000) (hA : P → 8 * s.size < b + n → A 3) (w : World) (h : DS w0 B g gr r s lim o P A b w) :
  Calls Tryz.prog 17 #[.pointer (some ⟨g, 0, none⟩), .int .i64 (n : Nat)] w fun e w' => ∃ x : Nat, e = .returned (.int .i64 (x : Nat)) ∧ x < 2 ^ n ∧ DS w0 B g gr r s lim o (P ∧ x = bitsAt (num s) b n) A (b + n) w' := by
 rcases h with ⟨hp, hb, r', hu, hS⟩ | ⟨q, hq, r', hu, hB⟩
 ·refine (rnum_any B g gr b n r' s lim o hn hs w hS).mono ?_
  intro e w' hout
  by_cases hf : b + n ≤ 8 * s.size
  ·rw [show readM1 n (srcR s lim) b o = .ok (bitsAt (num s) b n, b + n, o) from if_pos hf] at hout
   obtain ⟨r2, hu2, rfl, hS2⟩ := hout
   exact ⟨_, rfl, bitsAt_lt _ _ _, .inl ⟨⟨hp, rfl⟩, hf, r2, hu.then hu2, hS2⟩⟩
  ·rw [show readM1 n (srcR s lim) b o = .error 3 from if_neg hf] at hout
   obtain ⟨r2, hu2, rfl, hB2⟩ := hout
   exact ⟨0, rfl, Nat.two_pow_pos n, .inr ⟨3, hA hp (by omega), r2, hu.then hu2, hB2⟩⟩
 ·refine (rnum_no g q n w hB).mono ?_
  rintro e w' ⟨rfl, rfl⟩
  exact ⟨0, rfl, Nat.two_pow_pos n, .inr ⟨q, hq, r', hu, hB⟩⟩
theorem DS.cell {w0 w : World} {B g gr b : Nat} {r : Option Nat} {s : ByteArray} {lim : Int} {o : List Nat} {P : Prop} {A : Nat → Prop} (h : DS w0 B g gr r s lim o P A b w) : ∃ q : Nat, w.cell? ⟨g, 3, none⟩ = some (.int .i64 (q : Nat)) ∧ q < 100 := by
 rcases h with ⟨hp, hb, r', hu, hS⟩ | ⟨q, hq, r', hu, hB⟩
 ·obtain ⟨v, hb, _⟩ := hS.blk
  unfold stC at hb
  exact ⟨0, (cell_of_row w g 3 _ _ _ hb).trans (show _ = some (Value.int .i64 0) from rfl), by omega⟩
 ·obtain ⟨gr', v, l, hb, _, h9⟩ := hB
  unfold stC at hb
  exact ⟨q, (cell_of_row w g 3 _ _ _ hb).trans rfl, h9⟩
def ordW : Array Value := (orderL.map fun x => Value.int .i64 (x : Nat)).toArray
def DL (w0 : World) (B g gr : Nat) (r : Option Nat) (s : ByteArray) (lim : Int) (o : List Nat) (gl go : Nat) (P : Prop) (A : Nat → Prop) (b k : Nat) (w : World) : Prop :=
 w.heap[go]? = some (.cells ordW 3 (0, 0)) ∧ ((P ∧ b + 3 * k ≤ 8 * s.size ∧ (∃ r', r' ≠ some gl ∧ UpR g gr r r' w0 w ∧ RS w B g gr r' s lim (b + 3 * k) o) ∧ IsRowB w gl 19 (outerC (t3 (num s) b k)).ls) ∨ (∃ q, A q ∧ (∃ r', UpR g gr r r' w0 w ∧ RB w g q) ∧ ∃ f, IsRowB w gl 19 f))
def DI (w0 : World) (B g gr : Nat) (r : Option Nat) (s : ByteArray) (lim : Int) (o : List Nat) (gl go : Nat) (P : Prop) (A : Nat → Prop) (b k v : Nat) (w : World) : Prop :=
 w.heap[go]? = some (.cells ordW 3 (0, 0)) ∧ ((P ∧ b + 3 * (k + 1) ≤ 8 * s.size ∧ v = bitsAt (num s) (b + 3 * k) 3 ∧ (∃ r', r' ≠ some gl ∧ UpR g gr r r' w0 w ∧ RS w B g gr r' s lim (b + 3 * (k + 1)) o) ∧ IsRowB w gl 19 (outerC (t3 (num s) b k)).ls) ∨ (∃ q, A q ∧ (∃ r', UpR g gr r r' w0 w ∧ RB w g q) ∧ ∃ f, IsRowB w gl 19 f))
theorem rnum_dl (w0 : World) (B g gr b k : Nat) (r : Option Nat) (s : ByteArray) (lim : Int) (o : List Nat) (gl go : Nat) (P : Prop) (A : Nat → Prop) (hs : s.size ≤ 1000000) (hA : P → 8 * s.size < b + 3 * (k + 1) → A 3) (w : World) (h : DL w0 B g gr r s lim o gl go P A b k w) :
  Calls Tryz.prog 17 #[.pointer (some ⟨g, 0, none⟩), .int .i64 3] w fun e w' => ∃ x : Nat, e = .returned (.int .i64 (x : Nat)) ∧ x < 8 ∧ DI w0 B g gr r s lim o gl go P A b k x w' := by
 obtain ⟨ho, h⟩ := h
 rcases h with ⟨hp, hb, ⟨r', hne, hu, hS⟩, hL⟩ | ⟨q, hq, ⟨r', hu, hB⟩, hf⟩
 ·refine (rnum_any B g gr (b + 3 * k) 3 r' s lim o (by omega) hs w hS).mono ?_
  intro e w' hout
  obtain ⟨hn1, hn2⟩ := hS.apart hL
  have hgl : gl < w.heap.size := lt_of_heap hL
  have keepL : ∀ r2, UpR g gr r' r2 w w' → w'.heap[gl]? = w.heap[gl]? := fun r2 hu2 => hu2.1.block gl hgl (by
   rintro (e | e | e)
   ·exact hn1 e.symm
   ·exact hn2 e.symm
   ·exact hne e.symm)
  by_cases hf : b + 3 * k + 3 ≤ 8 * s.size
  ·rw [show readM1 3 (srcR s lim) (b + 3 * k) o = .ok (bitsAt (num s) (b + 3 * k) 3, b + 3 * k + 3, o) from if_pos hf] at hout
   obtain ⟨r2, hu2, rfl, hS2⟩ := hout
   refine ⟨_, rfl, bitsAt_lt _ _ 3, hu2.cells hS ho (by decide) (by decide) (by decide), .inl ⟨hp, by omega, rfl, ⟨r2, ?_, hu.then hu2, by rw [show b + 3 * (k + 1) = b + 3 * k + 3 by omega]; exact hS2⟩, (keepL r2 hu2).trans hL⟩⟩
   rcases hu2.2 with h2 | ⟨j, h2, h3⟩
   ·rw [h2]; exact hne
   ·rw [h2]; intro e; injection e with e; omega
  ·rw [show readM1 3 (srcR s lim) (b + 3 * k) o = .error 3 from if_neg hf] at hout
   obtain ⟨r2, hu2, rfl, hB2⟩ := hout
   exact ⟨0, rfl, by omega, hu2.cells hS ho (by decide) (by decide) (by decide), .inr ⟨3, hA hp (by omega), ⟨r2, hu.then hu2, hB2⟩, _, (keepL r2 hu2).trans hL⟩⟩
 ·refine (rnum_no g q (3 : Nat) w hB).mono ?_
  rintro e w' ⟨rfl, rfl⟩
  exact ⟨0, rfl, by omega, ho, .inr ⟨q, hq, ⟨r', hu, hB⟩, hf⟩⟩
theorem DI.put {w0 w : World} {B g gr b k v : Nat} {r : Option Nat} {s : ByteArray} {lim : Int} {o : List Nat} {gl go : Nat} {P : Prop} {A : Nat → Prop} (h : DI w0 B g gr r s lim o gl go P A b k v w) (hk : k < 19) (hg0 : w0.heap.size ≤ gl) (hgo : go ≠ gl) : DL w0 B g gr r s lim o gl go P A b (k + 1) (w.setCell ⟨gl, orderL.getD k 0, none⟩ (.int .u8 (v : Nat))) := by
 obtain ⟨ho, h⟩ := h
 refine ⟨(Below.heap_setCell _ _ _ _ hgo).trans ho, ?_⟩
 rcases h with ⟨hp, hb, rfl, ⟨r', hne, hu, hS⟩, hL⟩ | ⟨q, hq, ⟨r', hu, hB⟩, f, hL⟩
 ·obtain ⟨hn1, hn2⟩ := hS.apart hL
  refine .inl ⟨hp, hb, ⟨r', hne, hu.setNew hg0 _ _, hS.setNew hn1 hn2 hne _ _⟩, (hL.set _ _ (ord_lt k hk)).ext fun i hi => ?_⟩
  have := outer_snoc (t3 (num s) b k) (bitsAt (num s) (b + 3 * k) 3) i (by rw [t3_len]; exact hk) hi
  rw [t3_len] at this
  exact this
 ·exact .inr ⟨q, hq, ⟨r', hu.setNew hg0 _ _, hB.setNew (hB.apart hL) _ _⟩, _, hL.set _ _ (ord_lt k hk)⟩
theorem DI.row {w0 w : World} {B g gr b k v : Nat} {r : Option Nat} {s : ByteArray} {lim : Int} {o : List Nat} {gl go : Nat} {P : Prop} {A : Nat → Prop} (h : DI w0 B g gr r s lim o gl go P A b k v w) : ∃ f, IsRowB w gl 19 f := by
 obtain ⟨ho, h⟩ := h
 rcases h with ⟨_, _, _, _, h⟩ | ⟨q, _, _, h⟩
 ·exact ⟨_, h⟩
 ·exact h
theorem RB.drew {w : World} {g k : Nat} (h : RB w g k) : RB w.drew g k := h
theorem UpR.drew {w0 w : World} {g gr : Nat} {r r' : Option Nat} (h : UpR g gr r r' w0 w) : UpR g gr r r' w0 w.drew := h.then (upr_drewN w 1)
theorem RS.drew {w : World} {B g gr a : Nat} {r : Option Nat} {s : ByteArray} {lim : Int} {o : List Nat} (h : RS w B g gr r s lim a o) : RS w.drew B g gr r s lim a o := h.drewN 1
theorem DL.drew {w0 w : World} {B g gr b k : Nat} {r : Option Nat} {s : ByteArray} {lim : Int} {o : List Nat} {gl go : Nat} {P : Prop} {A : Nat → Prop} (h : DL w0 B g gr r s lim o gl go P A b k w) : DL w0 B g gr r s lim o gl go P A b k w.drew := by
 obtain ⟨ho, h⟩ := h
 refine ⟨ho, ?_⟩
 rcases h with ⟨hp, hb, ⟨r', hne, hu, hS⟩, hL⟩ | ⟨q, hq, ⟨r', hu, hB⟩, f, hL⟩
 ·exact .inl ⟨hp, hb, ⟨r', hne, hu.drew, hS.drew⟩, hL⟩
 ·exact .inr ⟨q, hq, ⟨r', hu.drew, hB.drew⟩, f, hL⟩
/-- The stream next to a row of the call's own: it goes on (none), or is wrong. -/
def SX (w7 : World) (B g gr : Nat) (r : Option Nat) (s : ByteArray) (lim : Int) (o : List Nat) (v : Value) (X : Option Nat) (a : Nat) (w : World) : Prop := match X with
 | none => ∃ r', (∀ k, r' = some k → v.ownBlock ≠ some k) ∧ UpR g gr r r' w7 w ∧ RS w B g gr r' s lim a o
 | some q => ∃ r', UpR g gr r r' w7 w ∧ RB w g q
theorem RS.grownRow {w wA w9 : World} {B g gr a : Nat} {r row : Option Nat} {s : ByteArray} {lim : Int} {o : List Nat} (h : RS w B g gr r s lim a o) (hA : Below w.heap.size w wA) (hg : wA.grownBy w9 row) (h1 : row ≠ some g) (h2 : row ≠ some gr) (h3 : ∀ k, r = some k → row ≠ some k) : RS w9 B g gr r s lim a o := by
 obtain ⟨v, q1, q2, q3, q4, q5⟩ := h
 have kp : ∀ i, i < w.heap.size → row ≠ some i → w9.heap[i]? = w.heap[i]? := fun i hi hn => (hg.block i (Nat.lt_of_lt_of_le hi hA.size) (fun e => hn e.symm)).trans (hA.block i hi)
 exact ⟨v, (kp g (lt_of_block q1) h1).trans q1, own_keep (i := 0) q2 (fun b hb => kp b (own_lt q2 hb) (h3 b (q3.symm.trans hb))) (Nat.le_trans hA.size hg.size), q3, (kp gr q4.lt h2).trans q4, q5⟩
theorem UpR.grownRow {w0 w wA w9 : World} {g gr : Nat} {r r' row : Option Nat} (h : UpR g gr r r' w0 w) (hA : Below w.heap.size w wA) (hg : wA.grownBy w9 row) (h1 : ∀ i, row = some i → w0.heap.size ≤ i) : UpR g gr r r' w0 w9 := by
 refine ⟨⟨hg.os.trans (hA.os.trans h.1.os), hg.tape.trans (hA.tape.trans h.1.tape), hg.output.trans (hA.output.trans h.1.output), Nat.le_trans h.1.size (Nat.le_trans hA.size hg.size), fun j hj hn => ?_⟩, h.2⟩
 have hjw := Nat.lt_of_lt_of_le hj h.1.size
 exact (hg.block j (Nat.lt_of_lt_of_le hjw hA.size) (fun e => by have := h1 j e.symm; omega)).trans ((hA.block j hjw).trans (h.1.block j hj hn))
theorem SX.append {w7 w wA w9 : World} {B g gr C a n : Nat} {r : Option Nat} {s : ByteArray} {lim : Int} {o : List Nat} {v v9 : Value} {xs : List Value} {X : Option Nat} (h : SX w7 B g gr r s lim o v X a w) (ho : w.ownsRow C 5 1 v n xs) (hC : w7.heap.size ≤ C) (hg0 : g < w7.heap.size) (hgr : gr < w7.heap.size) (hA : Below w.heap.size w wA) (hg : wA.grownBy w9 v.ownBlock) (hat : v9.ownBlock = v.ownBlock ∨ v9.ownBlock = some wA.heap.size) : SX w7 B g gr r s lim o v9 X a w9 := by
 have hge : ∀ k, v.ownBlock = some k → C ≤ k := fun k hk => own_geU ho k hk
 cases X with
 | none =>
  obtain ⟨r', h1, h2, h3⟩ := h
  refine ⟨r', fun k hk e => ?_, h2.grownRow hA hg (fun i e => Nat.le_trans hC (hge i e)), h3.grownRow hA hg (fun e => by have := hge g e; omega) (fun e => by have := hge gr e; omega) h1⟩
  rcases hat with hat | hat
  ·exact h1 k hk (hat.symm.trans e)
  ·obtain ⟨u, _, how, hu⟩ := h3.blk
   have h5 := own_lt how (hu.trans hk)
   have h6 : k = wA.heap.size := by
    have := hat.symm.trans e
    injection this with this
    exact this.symm
   have := hA.size
   omega
 | some q =>
  obtain ⟨r', h2, h3⟩ := h
  refine ⟨r', h2.grownRow hA hg (fun i e => Nat.le_trans hC (hge i e)), ?_⟩
  obtain ⟨gr', u, l, q1, q2⟩ := h3
  have hl := lt_of_block q1
  exact ⟨gr', u, l, (hg.block g (Nat.lt_of_lt_of_le hl hA.size) (fun e => by have := hge g e.symm; omega)).trans ((hA.block g hl).trans q1), q2⟩
/-- The row of the call's own, behind a call that goes on with the stream. -/
theorem own_up {w w' : World} {C n g gr : Nat} {r r' : Option Nat} {v : Value} {xs : List Value} (ho : w.ownsRow C 5 1 v n xs) (hu : UpR g gr r r' w w') (h1 : g < C) (h2 : gr < C) (h3 : ∀ k, r = some k → v.ownBlock ≠ some k) : w'.ownsRow C 5 1 v n xs :=
 own_keep (i := 0) ho (fun b hb => hu.1.block b (own_lt ho hb) (by
  have := own_geU ho b hb
  rintro (e | e | e)
  ·omega
  ·omega
  ·exact h3 b e.symm hb)) hu.1.size
theorem up_apart {w w' : World} {C n g gr : Nat} {r r' : Option Nat} {v : Value} {xs : List Value} (ho : w.ownsRow C 5 1 v n xs) (hu : UpR g gr r r' w w') (h3 : ∀ k, r = some k → v.ownBlock ≠ some k) : ∀ k, r' = some k → v.ownBlock ≠ some k := by
 intro k hk e
 rcases hu.2 with h | ⟨j, h, hj⟩
 ·exact h3 k (h.symm.trans hk) e
 ·have := own_lt ho e
  rw [h] at hk
  injection hk with hk
  omega
/-- A number read next to the row. -/
theorem rnum_sx (w7 : World) (B g gr C a n m : Nat) (r : Option Nat) (s : ByteArray) (lim : Int) (o : List Nat) (v : Value) (xs : List Value) (hm : m ≤ 16) (hs : s.size ≤ 1000000) (w : World) (ho : w.ownsRow C 5 1 v n xs) (h1 : g < C) (h2 : gr < C) (h : SX w7 B g gr r s lim o v none a w) :
  Calls Tryz.prog 17 #[.pointer (some ⟨g, 0, none⟩), .int .i64 (m : Nat)] w fun e w' => ∃ x : Nat, e = .returned (.int .i64 (x : Nat)) ∧ x < 2 ^ m ∧ w'.ownsRow C 5 1 v n xs ∧
   ((a + m ≤ 8 * s.size ∧ x = bitsAt (num s) a m ∧ SX w7 B g gr r s lim o v none (a + m) w') ∨ (8 * s.size < a + m ∧ SX w7 B g gr r s lim o v (some 3) 0 w')) := by
 obtain ⟨r', ha, hu, hS⟩ := h
 refine (rnum_any B g gr a m r' s lim o hm hs w hS).mono ?_
 intro e w' hout
 by_cases hf : a + m ≤ 8 * s.size
 ·rw [show readM1 m (srcR s lim) a o = .ok (bitsAt (num s) a m, a + m, o) from if_pos hf] at hout
  obtain ⟨r2, hu2, rfl, hS2⟩ := hout
  exact ⟨_, rfl, bitsAt_lt _ _ _, own_up ho hu2 h1 h2 ha, .inl ⟨hf, rfl, r2, up_apart ho hu2 ha, hu.then hu2, hS2⟩⟩
 ·rw [show readM1 m (srcR s lim) a o = .error 3 from if_neg hf] at hout
  obtain ⟨r2, hu2, rfl, hB2⟩ := hout
  exact ⟨0, rfl, Nat.two_pow_pos m, own_up ho hu2 h1 h2 ha, .inr ⟨by omega, r2, hu.then hu2, hB2⟩⟩
theorem SX.cell {w7 w : World} {B g gr a : Nat} {r : Option Nat} {s : ByteArray} {lim : Int} {o : List Nat} {v : Value} {X : Option Nat} (h : SX w7 B g gr r s lim o v X a w) : w.cell? ⟨g, 3, none⟩ = some (.int .i64 ((X.getD 0 : Nat) : Int)) ∧ (∀ q, X = some q → q ≠ 0 ∧ q < 100) := by
 cases X with
 | none =>
  obtain ⟨r', _, _, hS⟩ := h
  obtain ⟨u, hb, _⟩ := hS.blk
  unfold stC at hb
  exact ⟨(cell_of_row w g 3 _ _ _ hb).trans (show _ = some (Value.int .i64 0) from rfl), fun q e => by cases e⟩
 | some q =>
  obtain ⟨r', _, gr', u, l, hb, h1, h2⟩ := h
  unfold stC at hb
  exact ⟨(cell_of_row w g 3 _ _ _ hb).trans rfl, fun p e => by injection e with e; subst e; exact ⟨h1, h2⟩⟩
/-- What is wrong, told. -/
theorem rfail_sx (w7 : World) (B g gr C a n k : Nat) (r : Option Nat) (s : ByteArray) (lim : Int) (o : List Nat) (v : Value) (xs : List Value) (hk : k ≠ 0) (hk2 : k < 100) (w : World) (ho : w.ownsRow C 5 1 v n xs) (h1 : g < C) (h : SX w7 B g gr r s lim o v none a w) :
  Calls Tryz.prog 18 #[.pointer (some ⟨g, 0, none⟩), .int .i64 (k : Nat)] w fun e w' => e = .returned (.tuple #[]) ∧ w'.ownsRow C 5 1 v n xs ∧ SX w7 B g gr r s lim o v (some k) 0 w' := by
 obtain ⟨r', ha, hu, hS⟩ := h
 obtain ⟨u, hb, _⟩ := hS.blk
 refine (rfail_ok g gr u lim k w hb).mono ?_
 rintro e w' ⟨rfl, rfl⟩
 exact ⟨rfl, own_keep (i := 0) ho (fun b hb' => Below.heap_setCell _ _ _ _ (fun e => by have e' : b = g := e; have := own_geU ho b hb'; omega)) (by simp [World.setCell]), r', hu.then (upr_set w 3 _), rb_set k hk hk2 hb⟩
theorem SX.ms {w7 w : World} {B g gr a : Nat} {r : Option Nat} {s : ByteArray} {lim : Int} {o : List Nat} {v : Value} {X : Option Nat} (h : SX w7 B g gr r s lim o v X a w) : msB g gr s w ≤ 8 * s.size - a + 1 ∧ (∀ q, X = some q → msB g gr s w = 0) := by
 cases X with
 | none =>
  obtain ⟨r', _, _, hS⟩ := h
  exact ⟨Nat.le_of_eq (msB_good hS), fun q e => by cases e⟩
 | some q =>
  obtain ⟨r', _, hB⟩ := h
  exact ⟨by rw [msB_bad hB]; omega, fun _ _ => msB_bad hB⟩
/-- What a sign behind a row comes to. -/
def RunO (w7 : World) (B g gr C a2 n x : Nat) (r : Option Nat) (s : ByteArray) (lim : Int) (o row : List Nat) (v : Value) (y t : Nat) (w : World) : Prop :=
 y ≤ 15 ∧ 1 ≤ t ∧ t ≤ 138 ∧ w.ownsRow C 5 1 v n (cells8 row) ∧ ∃ X a3, SX w7 B g gr r s lim o v X a3 w ∧ a2 ≤ a3 + (X.getD 0) * 0 + (if X = none then 0 else a2) ∧ (X = none → a3 ≤ 8 * s.size ∧ runM x row (srcR s lim) a2 o = .ok ((y, t), a3, o)) ∧ (∀ q, X = some q → runM x row (srcR s lim) a2 o = .error q)
theorem runO_num {w7 : World} {B g gr C a2 n x m low y v0 : Nat} {r : Option Nat} {s : ByteArray} {lim : Int} {o row : List Nat} {v : Value} {w : World} (hp : runOf x row = (y, low, m)) (hne : ¬ (x = 16 ∧ row.length = 0)) (hy : y ≤ 15) (hl : 1 ≤ low) (hm : low + 2 ^ m ≤ 139) (hv : v0 < 2 ^ m) (ho : w.ownsRow C 5 1 v n (cells8 row))
  (h : (a2 + m ≤ 8 * s.size ∧ v0 = bitsAt (num s) a2 m ∧ SX w7 B g gr r s lim o v none (a2 + m) w) ∨ (8 * s.size < a2 + m ∧ SX w7 B g gr r s lim o v (some 3) 0 w)) : RunO w7 B g gr C a2 n x r s lim o row v y (low + v0) w := by
 refine ⟨hy, by omega, by omega, ho, ?_⟩
 have he := run_eq x row _ hne hp (srcR s lim) a2 o
 rcases h with ⟨h1, h2, h3⟩ | ⟨h1, h3⟩
 ·refine ⟨none, a2 + m, h3, by simp, fun _ => ⟨h1, ?_⟩, fun q e => by cases e⟩
  rw [he, if_pos (show a2 + m ≤ (srcR s lim).L from h1), h2]
  rfl
 ·refine ⟨some 3, 0, h3, by simp, (fun e => by cases e), fun q e => ?_⟩
  injection e with e
  subst e
  rw [he, if_neg (show ¬ a2 + m ≤ (srcR s lim).L from fun h => by have h' : a2 + m ≤ 8 * s.size := h; omega)]
theorem srch_ltR (c : Cod) (Y : Nat) : ∀ k l i j, srch c Y k l = some (i, j) → i < c.n
 | 0, l, i, j, h => by simp [srch] at h
 | k + 1, l, i, j, h => by
  rw [srch] at h
  split at h
  ·rename_i i' hf
   injection h with h
   injection h with h1 h2
   rw [← h1]
   exact (find_is _ _ _ _ _ _ hf).1
  ·exact srch_ltR c Y k (l + 1) i j h
/-- What dynamic tells, by mathematics: the lengths, without their codes. -/
noncomputable def dynLM : Mm (List Nat × List Nat) := bindM (readM1 5) fun x => bindM (readM1 5) fun y => bindM (readM1 4) fun z =>
 if 286 < 257 + x ∨ 30 < 1 + y then failM 10 else bindM (outerM (4 + z)) fun c => bindM (rowM c (257 + x + (1 + y))) fun l =>
  if l.getD 256 0 = 0 then failM 10 else retM (l.take (257 + x), l.drop (257 + x))
theorem read_no {n : Nat} {s : Src} {a : Nat} {o : List Nat} (h : s.L < a + n) : readM1 n s a o = .error 3 := if_neg (by omega)
theorem read_yes {n : Nat} {s : Src} {a : Nat} {o : List Nat} (h : a + n ≤ s.L) : readM1 n s a o = .ok (bitsAt s.N a n, a + n, o) := if_pos h
section
variable {src : Src} {a x y z : Nat} {o : List Nat}
theorem dyn_1 (h : src.L < a + 5) : dynLM src a o = .error 3 := bindR_err (read_no h)
theorem dyn_2 (h1 : a + 5 ≤ src.L) (h : src.L < a + 5 + 5) : dynLM src a o = .error 3 := (bindR_ok (read_yes h1)).trans (bindR_err (read_no h))
theorem dyn_3 (h1 : a + 5 + 5 ≤ src.L) (h : src.L < a + 5 + 5 + 4) : dynLM src a o = .error 3 := (bindR_ok (read_yes (by omega))).trans ((bindR_ok (read_yes h1)).trans (bindR_err (read_no h)))
theorem dyn_4 (h1 : a + 5 + 5 + 4 ≤ src.L) (hx : x = bitsAt src.N a 5) (hy : y = bitsAt src.N (a + 5) 5) (hz : z = bitsAt src.N (a + 5 + 5) 4) : dynLM src a o = (if 286 < 257 + x ∨ 30 < 1 + y then failM 10 else bindM (outerM (4 + z)) fun c => bindM (rowM c (257 + x + (1 + y))) fun l =>
  if l.getD 256 0 = 0 then failM 10 else retM (l.take (257 + x), l.drop (257 + x))) src (a + 5 + 5 + 4) o := by
 subst hx hy hz
 exact (bindR_ok (read_yes (by omega))).trans ((bindR_ok (read_yes (by omega))).trans (bindR_ok (read_yes h1)))
end
end Go.Proofs.YtmkeicfklbepnaaGreat
