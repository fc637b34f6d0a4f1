/-
 block: bits in a row (a number and how many); a code's words put; the signs of tokens put.
 Contracts: the document's signs of lengths and of distances.
 Contract: Find.
 Contract: tokens as the document's.
 A slice of tokens as it comes in; its cells.
-/
import Derived.Test.YtmkeicfklbepnaaGreatPkBI
import Derived.Test.YtmkeicfklbepnaaGreatPkBJ
import Derived.Test.YtmkeicfklbepnaaGreatPkCC
import Derived.Test.YtmkeicfklbepnaaGreatPkAE
import Derived.Deep.Slices
import Derived.Deep.Strs
import Derived.ArgAppend

namespace Go.Proofs.YtmkeicfklbepnaaGreat
set_option maxRecDepth 100000
open Go.RowKit Go.Joins Go.Deep

/-- Bits: a number, and how many. -/
abbrev Bs := Nat × Nat
def Bs.app (p q : Bs) : Bs := (p.1 + q.1 * 2 ^ p.2, p.2 + q.2)
theorem bs_nil (p : Bs) : p.app (0, 0) = p := by
 unfold Bs.app
 simp
theorem bs_assoc (p q r : Bs) : (p.app q).app r = p.app (q.app r) := by
 unfold Bs.app
 simp only [Nat.pow_add, Nat.add_mul, Nat.add_assoc, Prod.mk.injEq, Nat.add_left_cancel_iff, and_true]
 rw [Nat.mul_assoc, Nat.mul_comm (2 ^ q.2)]
/-- What a writer's number and its count of bits write. -/
def wB (v n : Nat) : Bs := (v % 2 ^ n, n)
/-- A sign's word. -/
def sgB (c : Cod) (i : Nat) : Bs := if i < c.n then (rev (c.W i) (c.ls i), c.ls i) else (0, 0)
/-- The writer has these bits. -/
def WrB (w : World) (B g : Nat) (r : Option Nat) (P : Bs) : Prop := Wr w B g r P.1 P.2
/-- .. and these more. -/
def Emits (w : World) (B g : Nat) (r : Option Nat) (P : Bs) (w' : World) : Prop := ∃ r', WrB w' B g r' P ∧ Upd g r r' w w'

/-- Blocks that are no writer's stay. -/
def FarW (w w' : World) : Prop := w.heap.size ≤ w'.heap.size ∧ ∀ (i : Nat) (o : Obj), w.heap[i]? = some o → (∀ cs f, o ≠ .cells cs 40 f) → (∀ cs f, o ≠ .cells cs 5 f) → w'.heap[i]? = some o
theorem FarW.refl (w : World) : FarW w w := ⟨Nat.le_refl _, fun _ _ h _ _ => h⟩
theorem FarW.then {w w1 w2 : World} (h : FarW w w1) (k : FarW w1 w2) : FarW w w2 := ⟨Nat.le_trans h.1 k.1, fun i o h0 h1 h2 => k.2 i o (h.2 i o h0 h1 h2) h1 h2⟩
theorem farW_below {w w' : World} (h : Below w.heap.size w w') : FarW w w' := ⟨h.size, fun i _ h0 _ _ => (h.block i (lt_of_heap h0)).trans h0⟩
theorem farW_upd {w w' : World} {B g M L : Nat} {r r' : Option Nat} (hw : Wr w B g r M L) (h : Upd g r r' w w') : FarW w w' := ⟨h.1.size, fun i o h0 h1 h2 => by
 refine (h.1.block i (lt_of_heap h0) ?_).trans h0
 obtain ⟨_, v, hb, ho, hr, _⟩ := hw
 rintro (e | e)
 ·subst e
  rw [hb] at h0
  injection h0 with h0
  exact h1 _ _ h0.symm
 ·rcases ho.2 with ⟨h3, _⟩ | ⟨g2, cap2, cur, h3, _, hb2, _⟩
  ·rw [h3] at hr
   rw [← hr] at e
   cases e
  ·rw [h3] at hr
   rw [← hr] at e
   injection e with e
   subst e
   rw [hb2] at h0
   injection h0 with h0
   exact h2 _ _ h0.symm⟩
/-- A code lies there. -/
def CodeAt (w : World) (g : Nat) (c : Cod) : Prop := (∃ B bm, Cd0 w B g bm c.ls c.W c.n c.mx) ∧ c.mx ≤ 15 ∧ c.n ≤ 4096 ∧ ∀ i, i < c.n → c.ls i ≤ 15 ∧ c.W i < 4294967296
theorem FarW.cells {w w' : World} (h : FarW w w') {i : Nat} {cs : Array Value} {T : TypeId} {f : Nat × Nat} (hb : w.heap[i]? = some (.cells cs T f)) (h1 : T ≠ 40) (h2 : T ≠ 5) : w'.heap[i]? = some (.cells cs T f) :=
 h.2 i _ hb (fun cs' f' e => by injection e with _ e _; exact h1 e) (fun cs' f' e => by injection e with _ e _; exact h2 e)
theorem CodeAt.far {w w' : World} {g : Nat} {c : Cod} (h : CodeAt w g c) (hf : FarW w w') : CodeAt w' g c := by
 obtain ⟨⟨B, bm, A, cp, hb0, ho, hm, h1, h2⟩, h3⟩ := h
 refine ⟨⟨B, bm, A, cp, hf.cells hb0 (by decide) (by decide), row_kept' ho (fun b e => ?_), map_stay hm ?_, h1, h2⟩, h3⟩
 ·rcases ho.2 with ⟨h0, _⟩ | ⟨g2, cap2, cur, h0, _, hb2, _⟩
  ·rw [h0] at e
   cases e
  ·rw [h0] at e
   injection e with e
   subst e
   rw [hb2, hf.cells hb2 (by decide) (by decide)]
 ·obtain ⟨es, clock, hm0, r⟩ := hm
  rw [hm0, hf.2 _ _ hm0 (fun cs f e => by cases e) (fun cs f e => by cases e)]
theorem code_new (A : Option Addr) (cap : Nat) (op : Bool) (c : Cod) (hn : c.n ≤ 4096) (h15 : ∀ i, i < c.n → c.ls i ≤ 15) (hm : may c op) (w : World) (hL : Lens w A c.n c.ls) :
  Calls Tryz.prog 96 #[.slice A c.n cap, .bool op] w fun e w' => ∃ g, e = .returned (.tuple #[.pointer (some ⟨g, 0, none⟩), .int .i64 0]) ∧ CodeAt w' g c ∧ Below w.heap.size w w' :=
 (new_ok A c.n cap op c.ls hn w hL h15 hm.1 hm.2).mono fun _ _ ⟨g, h1, ⟨bm, h2⟩, h3⟩ => ⟨g, h1, ⟨⟨_, bm, h2⟩, max_le c.ls c.n h15, hn, fun i hi => ⟨h15 i hi, by have : c.W i ≤ 32768 := wordN_le c.ls c.n h15 hm.1 i hi; omega⟩⟩, h3⟩

theorem sgB_le (c : Cod) (i : Nat) (h15 : ∀ i, i < c.n → c.ls i ≤ 15) : (sgB c i).2 ≤ 15 := by
 unfold sgB
 split
 ·rename_i h; exact h15 i h
 ·exact Nat.zero_le _
/-- Put of any sign. -/
theorem put_sg (gc i Bw gw : Nat) (r : Option Nat) (P : Bs) (c : Cod) (hL : P.2 ≤ 900000000) (w : World) (hB : Bw ≤ w.heap.size) (hc : CodeAt w gc c) (hw : WrB w Bw gw r P) :
  Calls Tryz.prog 83 #[.pointer (some ⟨gc, 0, none⟩), .pointer (some ⟨gw, 0, none⟩), .int .i64 (i : Nat)] w fun e w' => (∃ x : Int, e = .returned (.int .i64 x)) ∧ Emits w Bw gw r (P.app (sgB c i)) w' := by
 obtain ⟨⟨B, bm, hcd⟩, hmx, hn, h15⟩ := hc
 unfold sgB
 by_cases hi : i < c.n
 ·rw [if_pos hi]
  have h2 := h15 i hi
  by_cases h0 : c.ls i = 0
  ·refine (put_no B gc bm c.n c.mx i gw c.ls c.W hi h0 w hcd).mono ?_
   rintro e w' ⟨rfl, rfl⟩
   refine ⟨⟨_, rfl⟩, r, ?_, Upd.refl _ _ _⟩
   rw [h0, rev, bs_nil]
   exact hw
  ·refine (put_ok B gc bm c.n c.mx i Bw gw P.1 P.2 r c.ls c.W hi (by omega) h2.1 h2.2 hL w hB hcd hw).mono ?_
   rintro e w' ⟨rfl, r', h3, h4⟩
   exact ⟨⟨_, rfl⟩, r', h3, h4⟩
 ·rw [if_neg hi, bs_nil]
  refine (put_no_int B gc bm c.n c.mx gw (i : Nat) c.ls c.W (fun j hj => by have := (h15 j hj).1; omega) (.inr (.inl (by omega))) w hcd).mono ?_
  rintro e w' ⟨rfl, rfl⟩
  exact ⟨⟨_, rfl⟩, r, hw, Upd.refl _ _ _⟩
/-- Write of a number and any count up to 32. -/
theorem write_b (B g v n : Nat) (r : Option Nat) (P : Bs) (hL : P.2 ≤ 900000000) (hv : v < 4294967296) (hn : n ≤ 32) (w : World) (hB : B ≤ w.heap.size) (hw : WrB w B g r P) :
  Calls Tryz.prog 52 #[.pointer (some ⟨g, 0, none⟩), .int .u32 (v : Nat), .int .i64 (n : Nat)] w fun e w' => e = .returned (.tuple #[]) ∧ Emits w B g r (P.app (wB v n)) w' := by
 refine (write_any B g r P.1 P.2 v n (by omega) hv w hB hw).mono ?_
 rintro e w' ⟨rfl, r', h1, h2⟩
 refine ⟨rfl, r', ?_, h2⟩
 by_cases h0 : n = 0
 ·subst h0
  have e1 : wM P.1 P.2 v ((0 : Nat) : Int) = P.1 := if_neg (by omega)
  have e2 : wL P.2 ((0 : Nat) : Int) = P.2 := if_neg (by omega)
  rw [e1, e2] at h1
  have : P.app (wB v 0) = P := by unfold wB; rw [Nat.pow_zero, Nat.mod_one, bs_nil]
  rw [this]
  exact h1
 ·have e1 : wM P.1 P.2 v ((n : Nat) : Int) = P.1 + v % 2 ^ n * 2 ^ P.2 := by unfold wM; rw [if_pos (by omega), Int.toNat_natCast]
  have e2 : wL P.2 ((n : Nat) : Int) = P.2 + n := by unfold wL; rw [if_pos (by omega), Int.toNat_natCast]
  rw [e1, e2] at h1
  exact h1
theorem Emits.then {w w1 w2 : World} {B g : Nat} {r r1 : Option Nat} {P : Bs} (hu : Upd g r r1 w w1) (h : Emits w1 B g r1 P w2) : Emits w B g r P w2 := by
 obtain ⟨r2, h1, h2⟩ := h
 exact ⟨r2, h1, hu.then h2⟩

/-- Tokens below the writer. -/
def TokB (w : World) (B : Nat) (A : Option Addr) (n : Nat) (f : Nat → Tok) : Prop := 0 < n → ∃ b off, A = some ⟨b, off, none⟩ ∧ b < B ∧ b < w.heap.size ∧ ∀ i, i < n → TokOk (f i) ∧ w.cell? ⟨b, off + i * 3, none⟩ = some (.int .u8 ((f i).b : Nat)) ∧ w.cell? ⟨b, off + i * 3 + 1, none⟩ = some (.int .i64 (f i).l) ∧ w.cell? ⟨b, off + i * 3 + 2, none⟩ = some (.int .i64 (f i).d)
theorem TokB.toks {w : World} {B : Nat} {A : Option Addr} {n : Nat} {f : Nat → Tok} (h : TokB w B A n f) : Toks w A n f := fun hn => by
 obtain ⟨b, off, h1, _, h2, h3⟩ := h hn
 exact ⟨b, off, h1, h2, h3⟩
theorem Toks.tokB {w : World} {B : Nat} {A : Option Addr} {n : Nat} {f : Nat → Tok} (h : Toks w A n f) (hB : w.heap.size ≤ B) : TokB w B A n f := fun hn => by
 obtain ⟨b, off, h1, h2, h3⟩ := h hn
 exact ⟨b, off, h1, by omega, h2, h3⟩
theorem TokB.kept {w w' : World} {B : Nat} {A : Option Addr} {n : Nat} {f : Nat → Tok} {S : Nat → Prop} (h : TokB w B A n f) (hk : Kept S w w') (hs : ∀ i, S i → B ≤ i) : TokB w' B A n f := fun hn => by
 obtain ⟨b, off, h1, h2, h3, h4⟩ := h hn
 have e : ∀ j, w'.cell? ⟨b, j, none⟩ = w.cell? ⟨b, j, none⟩ := fun j => World.cell?_of_block (a := ⟨b, j, none⟩) (hk.block b h3 (fun hc => by have := hs b hc; omega))
 exact ⟨b, off, h1, h2, Nat.lt_of_lt_of_le h3 hk.size, fun i hi => ⟨(h4 i hi).1, (e _).trans (h4 i hi).2.1, (e _).trans (h4 i hi).2.2.1, (e _).trans (h4 i hi).2.2.2⟩⟩
theorem TokB.upd {w w' : World} {B g M L : Nat} {r r' : Option Nat} {A : Option Addr} {n : Nat} {f : Nat → Tok} (h : TokB w B A n f) (hw : Wr w B g r M L) (hu : Upd g r r' w w') : TokB w' B A n f := h.kept hu.1 hw.ge
theorem TokB.later {w w' : World} {B C : Nat} {A : Option Addr} {n : Nat} {f : Nat → Tok} (h : TokB w B A n f) (hb : Below C w w') (hC : w.heap.size ≤ C) : TokB w' B A n f := h.kept (S := fun _ => False) ⟨hb.os, hb.tape, hb.output, hb.size, fun i hi _ => hb.block i (by omega)⟩ (fun _ e => e.elim)

/-! ## The tokens' signs -/
def tokB (c d : Cod) (t : Tok) : Bs :=
 if t.l = 0 then sgB c t.b else
  (((sgB c (lsg t.l.toNat)).app (wB (t.l.toNat - (lenOf (lsg t.l.toNat)).1) (lenOf (lsg t.l.toNat)).2)).app (sgB d (dsg t.d.toNat))).app (wB (t.d.toNat - (distOf (dsg t.d.toNat)).1) (distOf (dsg t.d.toNat)).2)
def toksB (c d : Cod) (f : Nat → Tok) : Nat → Bs
 | 0 => (0, 0)
 | k + 1 => (toksB c d f k).app (tokB c d (f k))
theorem bnumber_any (gw gc i more rest Bw : Nat) (r : Option Nat) (P : Bs) (c : Cod) (hL : P.2 ≤ 800000000) (hm : more ≤ 32) (hr : rest < 4294967296) (w : World) (hB : Bw ≤ w.heap.size) (hc : CodeAt w gc c) (hw : WrB w Bw gw r P) :
  Calls Tryz.prog 85 #[.pointer (some ⟨gw, 0, none⟩), .pointer (some ⟨gc, 0, none⟩), .int .i64 (i : Nat), .int .i64 (more : Nat), .int .u32 (rest : Nat)] w fun e w' => e = .returned (.tuple #[]) ∧ Emits w Bw gw r ((P.app (sgB c i)).app (wB rest more)) w' := by
 have HP := Lib.hid (put_sg gc i Bw gw r P c (by omega) w hB hc hw)
 have hl := sgB_le c i (fun i hi => (hc.2.2.2 i hi).1)
 have hl2 : (P.app (sgB c i)).2 ≤ 900000000 := by show P.2 + (sgB c i).2 ≤ _; omega
 have HW := Lib.hid (fun r1 w1 (h1 : Bw ≤ w1.heap.size) (h2 : WrB w1 Bw gw r1 (P.app (sgB c i))) => write_b Bw gw rest more r1 (P.app (sgB c i)) hl2 hr hm w1 h1 h2)
 clear hc hw hl hl2
 go_enter Tryz.func85, Tryz.ntmps85
 go_wp2_with fail
 refine (HP.out).mono ?_; rintro e w1 ⟨⟨x, rfl⟩, r1, hw1, hu1⟩
 have HW1 := Lib.hid (HW.out r1 w1 (Nat.le_trans hB hu1.1.size) hw1)
 have HU1 := Lib.hid hu1
 clear hw1 hu1 HP HW
 go_wp2_with fail
 refine (HW1.out).mono ?_; rintro e w2 ⟨rfl, hem⟩
 have HE := Lib.hid (Emits.then HU1.out hem)
 clear hem
 go_wp2_with fail
 go_end0
 exact ⟨rfl, HE.out⟩
end Go.Proofs.YtmkeicfklbepnaaGreat

namespace Go.Proofs.YtmkeicfklbepnaaGreat
set_option maxRecDepth 100000
open Go.RowKit Go.Deep Go.Joins

end Go.Proofs.YtmkeicfklbepnaaGreat

namespace Go.Proofs.YtmkeicfklbepnaaGreat
set_option maxRecDepth 100000
open Go.Joins Go.RowKit Go.Deep

/-- What Find answers: the tokens, one behind the other, up to the text's end. -/
def Found (s : ByteArray) (t k : Nat) : Prop := posT (bt s) s.size (befT (bt s) s.size) t k = s.size ∧ ∀ j, j < k → posT (bt s) s.size (befT (bt s) s.size) t j < s.size
theorem tk_ok (s : ByteArray) (t k : Nat) (hs : s.size ≤ 10000) (hp : posT (bt s) s.size (befT (bt s) s.size) t k < s.size) : TokOk (tkT (bt s) s.size (befT (bt s) s.size) t k) ∧ 1 ≤ widT (tkT (bt s) s.size (befT (bt s) s.size) t k) ∧ posT (bt s) s.size (befT (bt s) s.size) t k + widT (tkT (bt s) s.size (befT (bt s) s.size) t k) ≤ s.size := by
 obtain ⟨h1, h2, h3, h4, h5⟩ := tok_ok (bt s) s.size t _ hp (by omega)
 have hw : 1 ≤ widT (tkT (bt s) s.size (befT (bt s) s.size) t k) := by unfold widT; omega
 obtain ⟨g1, g2, _⟩ := fits_zero h1
 refine ⟨?_, hw, ?_⟩
 ·have hr := right_pos g1
  by_cases h0 : (tkT (bt s) s.size (befT (bt s) s.size) t k).l = 0
  ·have hd := right_byte g1 h0
   have hb := h5 h0
   refine ⟨?_, by omega, by omega, ?_, ?_⟩
   ·show (tokT _ _ _ _ _).b < 256; rw [hb]; exact bt_lt s _
   ·show _ ≤ (tokT _ _ _ _ _).d; rw [hd]; omega
   ·show (tokT _ _ _ _ _).d ≤ _; rw [hd]; omega
  ·have hd := right_copy g1 h0
   have hr1 : 0 ≤ (tkT (bt s) s.size (befT (bt s) s.size) t k).l := hr.1
   have hr2 : (tkT (bt s) s.size (befT (bt s) s.size) t k).l ≤ 258 := hr.2
   refine ⟨?_, by omega, by omega, ?_, ?_⟩
   ·show (tokT _ _ _ _ _).b < 256; rw [hd.1]; omega
   ·show _ ≤ (tokT _ _ _ _ _).d; omega
   ·show (tokT _ _ _ _ _).d ≤ _; omega
 ·have : ((widT (tkT (bt s) s.size (befT (bt s) s.size) t k)).toNat : Int) = widT (tkT (bt s) s.size (befT (bt s) s.size) t k) := Int.toNat_of_nonneg (by omega)
  have h4' : posT (bt s) s.size (befT (bt s) s.size) t k + (widT (tkT (bt s) s.size (befT (bt s) s.size) t k)).toNat ≤ s.size := h4
  omega
set_option maxHeartbeats 4000000 in
theorem find_arg (s : ByteArray) (level : Int) (hl : level < 0 ∨ 9 < level) (w : World) : Calls Tryz.prog 9 #[.string s, .int .i64 level] w fun e w' => e = .returned (.tuple #[.slice none 0 0, .int .i64 2]) ∧ w' = w := by
 rcases hl with h | h
 ·have g1 : decide (level < 0) = true := decide_eq_true h
  go_enter Tryz.func9, Tryz.ntmps9
  go_wp2
  go_ret2
  exact ⟨rfl, rfl⟩
 ·have g1 : decide (level < 0) = false := decide_eq_false (by omega)
  have g2 : decide (9 < level) = true := decide_eq_true h
  go_enter Tryz.func9, Tryz.ntmps9
  go_wp2
  go_ret2
  exact ⟨rfl, rfl⟩
set_option maxHeartbeats 8000000 in
theorem find_any (s : ByteArray) (level : Nat) (hs : s.size ≤ 10000) (hl : level ≤ 9) (w : World) : Calls Tryz.prog 9 #[.string s, .int .i64 (level : Nat)] w fun e w' =>
  ∃ k A c, e = .returned (.tuple #[.slice A k c, .int .i64 0]) ∧ Found s (triesOf level) k ∧ Toks w' A k (tkT (bt s) s.size (befT (bt s) s.size) (triesOf level)) ∧ Below w.heap.size w w' := by
 obtain ⟨i0, hi, hz0, hz1, hz2⟩ := info_parts info_tok3
 have hzs := zero_search
 have hzt := zero_tok
 have ht := tries_le level hl
 have HBG := Lib.hid (fun W => begin_any s level hs hl W)
 generalize triesOf level = t at *
 have g1 : decide ((level : Int) < 0) = false := decide_eq_false (by omega)
 have g2 : decide ((9 : Int) < (level : Int)) = false := decide_eq_false (by omega)
 have g3 : decide (9 < level) = false := decide_eq_false (by omega)
 go_enter Tryz.func9, Tryz.ntmps9
 go_wp2_with fail
 refine (HBG.out _).mono ?_
 rintro e w1 ⟨A, nA, cA, rfl, hbef, hb1⟩
 have hx2 := heap_alloc_new w1 (.cells #[.string s, .slice A nA cA, .int .i64 (t : Nat)] 73)
 have hbef2 : Bef (w1.alloc (.cells #[.string s, .slice A nA cA, .int .i64 (t : Nat)] 73)) s A nA t := hbef.below (Nat.le_refl _) ((Below.refl _ _).alloc (Nat.le_refl _) _)
 have hb2 : Below w.heap.size w (w1.alloc (.cells #[.string s, .slice A nA cA, .int .i64 (t : Nat)] 73)) := hb1.alloc hb1.size _
 have hs2 : (w1.alloc (.cells #[.string s, .slice A nA cA, .int .i64 (t : Nat)] 73)).heap.size = w1.heap.size + 1 := by simp
 have HX2 := Lib.hid hx2
 have HBF := Lib.hid hbef2
 have HB2 := Lib.hid hb2
 have HS2 := Lib.hid hs2
 clear hx2 hbef hbef2 hb1 hb2 hs2 HBG
 go_wp2_with fail
 generalize w1.alloc (.cells #[.string s, .slice A nA cA, .int .i64 (t : Nat)] 73) = w2 at *
 go_loopw [6, 8] (fun v i wr => ∃ k : Nat, i = .int .i64 ((posT (bt s) s.size (befT (bt s) s.size) t k : Nat) : Int) ∧ k ≤ posT (bt s) s.size (befT (bt s) s.size) t k ∧ posT (bt s) s.size (befT (bt s) s.size) t k ≤ s.size ∧ Hid (∀ j, j < k → posT (bt s) s.size (befT (bt s) s.size) t j < s.size) ∧ Hid (wr.ownsRow w2.heap.size 76 3 v k (tokCells (tkT (bt s) s.size (befT (bt s) s.size) t) k)) ∧ Hid (Below w2.heap.size w2 wr)) (fun _ i _ => s.size - (intOf i).toNat)
 case atStart => exact ⟨0, rfl, Nat.le_refl _, Nat.zero_le _, fun j h => by omega, World.ownsRow_nil _ _ _ _, Below.refl _ _⟩
 case round =>
  obtain ⟨k, rfl, hkp, hpn, HJ, HO, HB⟩ := hrel
  have HPS : Hid (posT (bt s) s.size (befT (bt s) s.size) t (k + 1) = posT (bt s) s.size (befT (bt s) s.size) t k + (widT (tkT (bt s) s.size (befT (bt s) s.size) t k)).toNat) := rfl
  have HTS : Hid (tokCells (tkT (bt s) s.size (befT (bt s) s.size) t) (k + 1) = tokCells (tkT (bt s) s.size (befT (bt s) s.size) t) k ++ cellT (tkT (bt s) s.size (befT (bt s) s.size) t k)) := rfl
  obtain ⟨A2, cp2, rfl⟩ := row_slice' HO.out
  by_cases hpl : posT (bt s) s.size (befT (bt s) s.size) t k < s.size
  ·have hBwr := HBF.out.below (Nat.le_refl _) HB.out
   have HTA : Hid (Calls Tryz.prog 28 #[.agg #[.string s, .slice A nA cA, .int .i64 (t : Nat)], .int .i64 ((posT (bt s) s.size (befT (bt s) s.size) t k : Nat) : Int)] wr fun e w' => e = .returned (valT (tkT (bt s) s.size (befT (bt s) s.size) t k)) ∧ Below wr.heap.size wr w') := token_any s A nA cA t _ hs hpl ht wr hBwr
   obtain ⟨htok, hw1, hw2⟩ := tk_ok s t k hs hpl
   have hm : Hid (w1.heap.size < w2.heap.size) := by show w1.heap.size < _; have := HS2.out; omega
   have hX := (HB.out.block w1.heap.size hm.out).trans HX2.out
   have c0 := (cell_of_row _ _ 0 _ _ _ hX).trans (show _ = some (Value.string s) from rfl)
   have c1 := (cell_of_row _ _ 1 _ _ _ hX).trans (show _ = some (Value.slice A nA cA) from rfl)
   have c2 := (cell_of_row _ _ 2 _ _ _ hX).trans (show _ = some (Value.int .i64 (t : Nat)) from rfl)
   have HWD := Lib.hid (fun W => wide_any (tkT (bt s) s.size (befT (bt s) s.size) t k) W)
   generalize hP : posT (bt s) s.size (befT (bt s) s.size) t k = P at *
   generalize tkT (bt s) s.size (befT (bt s) s.size) t k = T at *
   have HP := Lib.hid hP
   have hpb : P < 10000 := by omega
   clear hP hX hBwr
   obtain ⟨tb, tl, td⟩ := T
   unfold valT at HTA HWD
   dsimp only at HTA HWD
   generalize hWW : widT ⟨tb, tl, td⟩ = W at *
   clear hWW
   have hW2 : W ≤ 10000 := by omega
   have hsum : (P : Int) + W ≤ 10000 := by omega
   have hsum0 : 0 ≤ (P : Int) + W := by omega
   have hwrap : IntKind.i64.wrap ((P : Int) + W) = (P : Int) + W := by rw [IntKind.wrap_i64]; omega
   go_wp2_with fail
   refine (HTA.out).mono ?_
   rintro e w3 ⟨rfl, hb3⟩
   have hx4 := heap_alloc_new w3 (.cells #[.int .u8 (tb : Nat), .int .i64 tl, .int .i64 td] 76)
   have hs4 : (w3.alloc (.cells #[.int .u8 (tb : Nat), .int .i64 tl, .int .i64 td] 76)).heap.size = w3.heap.size + 1 := by simp
   have hb4 : Below wr.heap.size wr (w3.alloc (.cells #[.int .u8 (tb : Nat), .int .i64 tl, .int .i64 td] 76)) := hb3.alloc hb3.size _
   have HX4 := Lib.hid hx4
   have HS4 := Lib.hid hs4
   have HB4 := Lib.hid hb4
   have HS3 : Hid (wr.heap.size ≤ w3.heap.size) := hb3.size
   clear hx4 hs4 hb4 hb3 HTA
   have hx5 := heap_alloc_new (w3.alloc (.cells #[.int .u8 (tb : Nat), .int .i64 tl, .int .i64 td] 76)) (.cells #[.int .u8 (tb : Nat), .int .i64 tl, .int .i64 td] 76)
   have hx45 := (Below.heap_alloc (w3.alloc (.cells #[.int .u8 (tb : Nat), .int .i64 tl, .int .i64 td] 76)) (.cells #[.int .u8 (tb : Nat), .int .i64 tl, .int .i64 td] 76) w3.heap.size (by rw [HS4.out]; omega)).trans HX4.out
   have hs5 : ((w3.alloc (.cells #[.int .u8 (tb : Nat), .int .i64 tl, .int .i64 td] 76)).alloc (.cells #[.int .u8 (tb : Nat), .int .i64 tl, .int .i64 td] 76)).heap.size = w3.heap.size + 2 := by simp
   have hb5 : Below wr.heap.size wr ((w3.alloc (.cells #[.int .u8 (tb : Nat), .int .i64 tl, .int .i64 td] 76)).alloc (.cells #[.int .u8 (tb : Nat), .int .i64 tl, .int .i64 td] 76)) := HB4.out.alloc HB4.out.size _
   rw [HS4.out] at hx5
   have ho5 := row_kept' HO.out (fun g hg => hb5.block g (HO.out.lt g hg).2)
   have HX5 := Lib.hid hx5
   have HX45 := Lib.hid hx45
   have HS5 := Lib.hid hs5
   have HB5 := Lib.hid hb5
   have HO5 := Lib.hid ho5
   clear hx5 hx45 hs5 hb5 ho5
   have hne : Hid (∀ gg, (Value.slice A2 k cp2).ownBlock = some gg → gg < wr.heap.size ∧ w2.heap.size ≤ gg) := fun gg hg => ⟨(HO.out.lt gg hg).2, (HO.out.lt gg hg).1⟩
   go_wp2_with first
    | (at_builtin; go_must (refine wpList_append_own_at _ rfl (.tmp 29) (.tmp 31) _ rfl w2.heap.size 76 i0 (.agg #[.int .u8 0, .int .i64 0, .int .i64 0]) 3 24 Tryz.underlying32 hi hz0 hz1 hz2 rfl (by decide) (.slice A2 k cp2) k _ rfl HO5.out ⟨w3.heap.size + 1, 0, none⟩ 1 1 [.int .u8 (tb : Nat), .int .i64 tl, .int .i64 td] rfl rfl (cells3 HX5.out) (cellT_one ⟨tb, tl, td⟩) (by unfold maxLen; omega) (by omega) (by have h1 := HB.out.size; have h2 := HS3.out; have h3 := HS5.out; omega) ?_; intro v' w6 hown' hgrow hnil hloc; have HO6 := Lib.hid hown'; have HB6 := Lib.hid ((HB.out.trans (HB5.out.mono HB.out.size)).grown hgrow (by have h1 := HB.out.size; have h2 := HS3.out; have h3 := HS5.out; omega) (fun j hj => (hne.out j hj).2)); have HX6 := Lib.hid ((hgrow.block w3.heap.size (by rw [HS5.out]; omega) (by intro e; have h1 := (hne.out _ e.symm).1; have h2 := HS3.out; omega)).trans HX45.out); have m0 := (cell_of_row _ _ 0 _ _ _ HX6.out).trans (show _ = some (Value.int .u8 (tb : Nat)) from rfl); have m1 := (cell_of_row _ _ 1 _ _ _ HX6.out).trans (show _ = some (Value.int .i64 tl) from rfl); have m2 := (cell_of_row _ _ 2 _ _ _ HX6.out).trans (show _ = some (Value.int .i64 td) from rfl); clear hown' hgrow hnil hloc))
    | (go_at_call 29; go_must (refine (HWD.out _).mono ?_; rintro e w7 ⟨rfl, hb7⟩; have HO7 := Lib.hid (row_kept' HO6.out (fun g hg => hb7.block g (HO6.out.lt g hg).2)); have HB7 := Lib.hid (HB6.out.trans (hb7.mono HB6.out.size)); clear hb7))
   have hPW : (P : Int) + W = ((posT (bt s) s.size (befT (bt s) s.size) t (k + 1) : Nat) : Int) := by rw [HPS.out]; omega
   go_roundw
   case rel =>
    refine ⟨k + 1, by rw [hPW], by omega, by omega, ?_, ?_, HB7⟩
    ·intro j hj
     by_cases e : j = k
     ·subst e; rw [HP.out]; omega
     ·exact HJ.out j (by omega)
    ·show World.ownsRow _ _ _ _ _ _ _
     rw [HTS.out]
     exact HO7.out
   case measure => simp [intOf]; omega
  ·have hfd : Found s t k := ⟨by omega, HJ.out⟩
   have hT := toks_of_own HO.out (fun i hi => (tk_ok s t i hs (HJ.out i hi)).1)
   have HFD := Lib.hid hfd
   have HTT := Lib.hid hT
   have hP : posT (bt s) s.size (befT (bt s) s.size) t k = s.size := by omega
   rw [hP]
   clear hfd hT
   go_wp2
   go_ret2
   exact ⟨k, A2, cp2, rfl, HFD.out, HTT.out, HB2.out.trans (HB.out.mono HB2.out.size)⟩
end Go.Proofs.YtmkeicfklbepnaaGreat

namespace Go.Proofs.YtmkeicfklbepnaaGreat
set_option maxRecDepth 100000
open Go.Joins Go.RowKit Go.Deep

end Go.Proofs.YtmkeicfklbepnaaGreat

namespace Go.Proofs.YtmkeicfklbepnaaGreat
set_option maxRecDepth 100000
open Go.Joins Go.RowKit Go.Deep Go.ChangeShapes Go.WideShapes

instance : Inhabited Tok := ⟨⟨0, 0, 0⟩⟩
/-- What a slice of tokens' cells hold. -/
theorem toks_cells {w : World} {b off n : Nat} {f : Nat → Tok} (h : Toks w (some ⟨b, off, none⟩) n f) : ∀ j u, (tokCells f n)[j]? = some u → w.cell? ((⟨b, off, none⟩ : Addr).add j) = some u := by
 intro j u hj
 have hjl := (List.getElem?_eq_some_iff.1 hj).1
 rw [tokCells_len] at hjl
 obtain ⟨b', off', he, _, hc⟩ := h (by omega)
 injection he with he
 injection he with hb ho _
 subst hb ho
 obtain ⟨_, c0, c1, c2⟩ := hc (j / 3) (by omega)
 have hjj : j = j / 3 * 3 + j % 3 := by omega
 rw [hjj, tokCells_get f n (j / 3) (j % 3) (by omega) (by omega)] at hj
 rw [Addr.add_lit]
 rcases (by omega : j % 3 = 0 ∨ j % 3 = 1 ∨ j % 3 = 2) with e | e | e
 ·rw [e] at hj
  rw [show off + j = off + j / 3 * 3 by omega, c0]
  simpa [cellT] using hj
 ·rw [e] at hj
  rw [show off + j = off + j / 3 * 3 + 1 by omega, c1]
  simpa [cellT] using hj
 ·rw [e] at hj
  rw [show off + j = off + j / 3 * 3 + 2 by omega, c2]
  simpa [cellT] using hj
end Go.Proofs.YtmkeicfklbepnaaGreat
