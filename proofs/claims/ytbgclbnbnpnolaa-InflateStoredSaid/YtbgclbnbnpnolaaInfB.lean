/-
  Contracts: the next sign of a code; blocks that stay; room, and one byte.
-/
import Derived.Test.YtbgclbnbnpnolaaInfA
import Derived.Test.YtbgclbnbnpnolaaBitsW
namespace Go.Proofs.Ytbgclbnbnpnolaa
set_option maxRecDepth 100000
open Go.RowKit Go.Deep Go.Joins

/-- A code's blocks. -/
def CdC (w : World) (g : Nat) (c : Cod) : Prop := (∃ B bm, Cd0 w B g bm c.ls c.W c.n c.mx) ∧ c.mx ≤ 15 ∧ c.n ≤ 4096 ∧ ∀ i, i < c.n → c.ls i < 256 ∧ c.W i < 4294967296
theorem rev_many (X many p : Nat) (hp : p ≤ many) : rev (X % 2 ^ many) p = rev X p := rev_agree p (Nat.mod_mod_of_dvd X (Nat.pow_dvd_pow 2 hp))
theorem sign_is (c : Cod) (s : ByteArray) (lim a : Nat) (o : List Nat) (x : Int) (e l : Nat) (hm15 : c.mx ≤ 15) (ha : a ≤ 8 * s.size) (h : SignIs c.ls c.W c.n c.mx (bitsAt (num s) a (peekM s a 0 15)) (peekM s a 0 15) x e l) :
    (∃ i, x = (i : Nat) ∧ e = 0 ∧ i < c.n ∧ a + l ≤ 8 * s.size ∧ signM c (srcOf s lim) a o = .ok (i, a + l, o)) ∨ (x = -1 ∧ l = 0 ∧ (e = 3 ∨ e = 10) ∧ signM c (srcOf s lim) a o = .error e) := by
  have hmany : peekM s a 0 15 = min 15 (8 * s.size - a) := by
    unfold peekM
    rw [if_pos (by omega)]
    rfl
  rw [hmany] at h
  have hv : ∀ p, p ≤ min 15 (8 * s.size - a) → rev (bitsAt (num s) a (min 15 (8 * s.size - a))) p = rev (num s / 2 ^ a) p := fun p hp => rev_many _ _ p hp
  have hsm : ∀ r, srch c (num s / 2 ^ a) (min c.mx (8 * s.size - a)) 1 = r → signM c (srcOf s lim) a o = (match r with | some (i, l) => .ok (i, a + l, o) | none => if 8 * s.size - a < c.mx then .error 3 else .error 10) := fun r hr => by
    subst hr
    rfl
  rcases h with ⟨i, hx, he, h1, h2, h3, h4, h5⟩ | ⟨hx, he, hl, h1, h2⟩ | ⟨hx, he, hl, h1, h2⟩
  · refine .inl ⟨i, hx, he, (find_is _ _ _ _ _ _ h4).1, by omega, ?_⟩
    rw [hv l h3] at h4
    refine hsm _ (srch_some c (num s / 2 ^ a) i l _ 1 h1 (by omega) (fun p h6 h7 => ?_) h4)
    have := h5 p h6 (by omega)
    rwa [hv p (by omega)] at this
  · refine .inr ⟨hx, hl, .inl he, (hsm none (srch_none c _ _ 1 fun p h6 h7 => ?_)).trans ?_⟩
    · have := h2 p h6 (by omega)
      rwa [hv p (by omega)] at this
    · show (if 8 * s.size - a < c.mx then _ else _) = _
      rw [if_pos (by omega), he]
  · refine .inr ⟨hx, hl, .inr he, (hsm none (srch_none c _ _ 1 fun p h6 h7 => ?_)).trans ?_⟩
    · have := h2 p h6 (by omega)
      rwa [hv p (by omega)] at this
    · show (if 8 * s.size - a < c.mx then _ else _) = _
      rw [if_neg (by omega), he]

/-- What Sign answers with. -/
def sgOk (c : Cod) (i : Nat) (r : Ending) : Prop := r = .returned (.tuple #[.int .i64 (i : Nat), .int .i64 0]) ∧ i < c.n
def sgBad (e : Nat) (r : Ending) : Prop := r = .returned (.tuple #[.int .i64 (-1), .int .i64 (e : Nat)])
theorem signC_any (g gr a lim : Nat) (c : Cod) (s : ByteArray) (o : List Nat) (hs : s.size ≤ 1000000) (ha : a ≤ 8 * s.size) (w : World) (hc : CdC w g c) (hr : Rd 81 w gr s a 0) :
    Calls Try.prog 12 #[.pointer (some ⟨g, 0, none⟩), .pointer (some ⟨gr, 0, none⟩)] w (PR w gr s (sgOk c) sgBad (signM c (srcOf s lim) a o)) := by
  obtain ⟨⟨B, bm, hcd⟩, hmx, _, hW⟩ := hc
  refine (sign_any B g bm c.n c.mx gr a c.ls c.W s hs ha hmx hW w hcd hr).mono ?_
  rintro r w' ⟨x, e, l, rfl, hsi, hr', hg⟩
  rcases sign_is c s lim a o x e l hmx ha hsi with ⟨i, rfl, rfl, hi, hle, hM⟩ | ⟨rfl, rfl, he, hM⟩
  · exact .ok hM hg ⟨rfl, hi⟩ hr' hle
  · exact .err hM hg rfl (by omega) (by omega)

/-! Blocks that stay. -/
/-- All blocks but a stream's, a reader's, bytes stay. -/
def Far (w w' : World) : Prop := w.heap.size ≤ w'.heap.size ∧ ∀ (i : Nat) (o : Obj), w.heap[i]? = some o → (∀ cs f, o ≠ .cells cs 94 f) → (∀ cs f, o ≠ .cells cs 81 f) → (∀ cs f, o ≠ .cells cs 5 f) → w'.heap[i]? = some o
theorem Far.refl (w : World) : Far w w := ⟨Nat.le_refl _, fun _ _ h _ _ _ => h⟩
theorem Far.then {w w1 w2 : World} (h : Far w w1) (k : Far w1 w2) : Far w w2 := ⟨Nat.le_trans h.1 k.1, fun i o h0 h1 h2 h3 => k.2 i o (h.2 i o h0 h1 h2 h3) h1 h2 h3⟩
theorem Far.cells {w w' : World} (h : Far w w') {i : Nat} {cs : Array Value} {T : TypeId} {f : Nat × Nat} (hb : w.heap[i]? = some (.cells cs T f)) (h1 : T ≠ 94) (h2 : T ≠ 81) (h3 : T ≠ 5) : w'.heap[i]? = some (.cells cs T f) :=
  h.2 i _ hb (fun _ _ e => by simp at e; exact h1 e.2.1) (fun _ _ e => by simp at e; exact h2 e.2.1) (fun _ _ e => by simp at e; exact h3 e.2.1)
theorem far_below {w w' : World} (h : Below w.heap.size w w') : Far w w' := ⟨h.size, fun i _ h0 _ _ _ => (h.block i (lt_of_heap h0)).trans h0⟩
theorem far_read {w w' : World} {gr : Nat} {s : ByteArray} {a e : Nat} (hr : Rd 81 w gr s a e) (h : w.grownBy w' (some gr)) : Far w w' := ⟨h.size, fun i o h0 _ h2 _ => (h.block i (lt_of_heap h0) (by
  intro hh
  injection hh with hh
  subst hh
  unfold Rd at hr
  rw [hr] at h0
  injection h0 with h0
  exact h2 _ _ h0.symm)).trans h0⟩
theorem map_far {w w' : World} {bm n : Nat} {D : DataW Unit} (h : w.ownsMap Try.prog 76 (plainElem Try.prog 3) bm n D) (hf : Far w w') : w'.heap[bm]? = w.heap[bm]? := by
  cases ho : w.heap[bm]? with
  | none =>
    have := map_lt h
    rw [Array.getElem?_eq_none_iff] at ho
    omega
  | some o => exact hf.2 bm o ho (fun cs f e => map_ne h (by rw [ho, e]) rfl) (fun cs f e => map_ne h (by rw [ho, e]) rfl) (fun cs f e => map_ne h (by rw [ho, e]) rfl)
theorem CdC.far {w w' : World} {g : Nat} {c : Cod} (h : CdC w g c) (hf : Far w w') : CdC w' g c := by
  obtain ⟨⟨B, bm, A, cp, hb0, ho, hm, h1, h2⟩, h3⟩ := h
  refine ⟨⟨B, bm, A, cp, hf.cells hb0 (by decide) (by decide) (by decide), row_kept' ho (fun b e => ?_), map_stay hm (map_far hm hf), h1, h2⟩, h3⟩
  rcases ho.2 with ⟨h0, _⟩ | ⟨g2, cap2, cur, h0, _, hb2, _⟩
  · rw [h0] at e
    cases e
  · rw [h0] at e
    injection e with e
    subst e
    rw [hb2, hf.cells hb2 (by decide) (by decide) (by decide)]
end Go.Proofs.Ytbgclbnbnpnolaa
