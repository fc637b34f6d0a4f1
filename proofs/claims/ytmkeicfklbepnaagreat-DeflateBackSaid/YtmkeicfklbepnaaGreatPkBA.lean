/-
 A sign that is read in a tree is the one that is read by the code's words.
 Contracts: the document's reader: Align and Bytes.
 The document's stream: what its blocks hold; fail, num, room.
 The document's stream: num, room.
 The document's stream: room.
-/
import Derived.Test.YtmkeicfklbepnaaGreatPkAI
import Derived.Test.YtmkeicfklbepnaaGreatPkAJ
import Derived.Test.YtmkeicfklbepnaaGreatPkAH
import Derived.Test.YtmkeicfklbepnaaGreatPkAE
import Derived.Deep.RegionHeld3
import Derived.BigQuiet

namespace Go.Proofs.YtmkeicfklbepnaaGreat
set_option maxRecDepth 100000
set_option linter.unusedVariables false
theorem sign_hit0 (c : Cod) (src : Src) (a p : Nat) (o : List Nat) (hp : p < c.n) (h1 : 1 ≤ c.ls p) (hv : rev (src.N / 2 ^ a) (c.ls p) = c.W p) (hmx : c.ls p ≤ c.mx) (hL : a + c.ls p ≤ src.L) : signM c src a o = .ok (p, a + c.ls p, o) := by
 cases hs : srch c (src.N / 2 ^ a) (min c.mx (src.L - a)) 1 with
 | some q =>
  obtain ⟨i, l⟩ := q
  obtain ⟨g1, g2, g3⟩ := srch_lt c _ _ _ _ _ hs
  have hb := srch_before c _ _ _ _ _ hs
  obtain ⟨h2, _, h3⟩ := sign_right c.ls c.n (src.N / 2 ^ a) p c.mx (src.L - a) l 0 (i : Nat) hp h1 hv hmx (by omega) (.inl ⟨i, rfl, rfl, g1, by omega, by omega, g3, fun k hk1 hk2 => hb k hk1 (by omega)⟩)
  obtain rfl : i = p := by omega
  subst h3
  unfold signM
  rw [hs]
 | none =>
  exfalso
  have hall : ∀ k l, srch c (src.N / 2 ^ a) k l = none → ∀ j, l ≤ j → j < l + k → findW c.ls c.W j (rev (src.N / 2 ^ a) j) c.n = none := by
   intro k
   induction k with
   | zero => intro l _ j h1 h2; omega
   | succ k ih =>
    intro l h j h1 h2
    rw [srch] at h
    split at h
    ·cases h
    ·rename_i hf
     by_cases e : j = l
     ·subst e
      exact hf
     ·exact ih (l + 1) h j (by omega) (by omega)
  exact find_some c.ls c.W (c.ls p) (rev (src.N / 2 ^ a) (c.ls p)) (by omega) c.n p hp rfl hv.symm (hall _ _ hs (c.ls p) h1 (by omega))
theorem pfree (ls : Nat → Nat) (n : Nat) : PFree ls (wordN ls n) n := by
 intro i j hi hj h1 hle he
 rcases Nat.lt_or_ge (ls i) (ls j) with h | h
 ·exfalso
  obtain ⟨d, hd⟩ : ∃ d, ls j = ls i + (d + 1) := ⟨ls j - ls i - 1, by omega⟩
  have a1 := first_beyond ls n (ls i) h1 d
  have a3 : firstN ls n (ls j) ≤ wordN ls n j := by
   rw [wordN, if_neg (by omega)]
   exact Nat.le_add_right _ _
  have a4 : wordN ls n i < firstN ls n (ls i) + cntN ls (ls i) n := by
   have := cnt_lt ls (ls i) n i hi rfl
   rw [wordN, if_neg (by omega)]
   omega
  rw [← hd] at a1
  have a5 : firstN ls n (ls i) + cntN ls (ls i) n ≤ wordN ls n j / 2 ^ (d + 1) := (Nat.le_div_iff_mul_le (Nat.two_pow_pos _)).2 (Nat.le_trans a1 a3)
  rw [show ls j - ls i = d + 1 by omega] at he
  omega
 ·rw [show ls j - ls i = 0 by omega, Nat.pow_zero, Nat.div_one] at he
  exact word_inj ls n i j (by omega) (by omega) he.symm
theorem nw_none {c : Cod} {X q l : Nat} (h : NoW c.ls c.W c.n X q) (h1 : 1 ≤ l) (h2 : l ≤ q) : findW c.ls c.W l (rev X l) c.n = none := noWord_of c.ls c.W c.n X q h l h1 h2
theorem sign_miss {c : Cod} {s : Src} {a q : Nat} {o : List Nat} (h : NoW c.ls c.W c.n (s.N / 2 ^ a) q) (hq : q ≤ s.L - a) (hm : s.L - a = q ∨ c.mx ≤ q) : signM c s a o = if s.L - a < c.mx then .error 3 else .error 10 := by
 unfold signM
 rw [srch_none c (s.N / 2 ^ a) _ 1 (fun j h1 h2 => nw_none h h1 (by omega))]
/-- The code may be: whole, or of one word at most. -/
theorem begins_may {c : Cod} {v q : Nat} (h15 : ∀ i, i < c.n → c.ls i ≤ 15) (hm : may c true) (hno : NoW c.ls c.W c.n v q) (hb : ¬ Begins c.ls c.W c.n v q) : c.mx ≤ q := by
 obtain ⟨h1, h2 | ⟨_, h2⟩⟩ := hm
 ·exact absurd (begins_whole c.ls c.n v 15 q h15 h2 h15 (Nat.le_refl _) (noWord_of c.ls c.W c.n v q hno)) hb
 ·by_cases h : q < c.mx
  ·exact absurd (begins_open c.ls c.n v q h15 h2 h1 h) hb
  ·omega
theorem rev_nx (X q : Nat) : rev X (q + 1) = 2 * rev X q + X / 2 ^ q % 2 := by rw [rev, Nat.mul_comm]
/-- The bits' end. -/
theorem sign_end {c : Cod} {s : Src} {a q m at_ : Nat} {o : List Nat} {T : List Int} (h15 : ∀ i, i < c.n → c.ls i ≤ 15) (hm : may c true) (hT : TW c.ls c.W c.n T m) (hn : node T (rev (s.N / 2 ^ a) q) q = some at_) (hno : NoW c.ls c.W c.n (s.N / 2 ^ a) q) (hq : s.L - a = q) :
  at_ < m ∧ T.length = 2 * m ∧ signM c s a o = if nx T at_ 0 ≠ 0 ∨ nx T at_ 1 ≠ 0 then .error 3 else .error 10 := by
 have hv := rev_lt (s.N / 2 ^ a) q
 have hl := tw_leads hT hv hn
 refine ⟨hT.lt _ _ _ hn, hT.len, ?_⟩
 rw [sign_miss hno (by omega) (.inl hq)]
 by_cases hb : nx T at_ 0 ≠ 0 ∨ nx T at_ 1 ≠ 0
 ·obtain ⟨i, i1, i2, _⟩ := hl.1 hb
  have hmx : c.ls i ≤ c.mx := by
   unfold Cod.mx
   rw [if_neg (by omega)]
   exact maxN_ge c.ls (c.n - 1) i (by omega)
  rw [if_pos (by omega), if_pos hb]
 ·have := begins_may h15 hm hno (fun h => hb (hl.2 h))
  rw [if_neg (by omega), if_neg hb]
/-- A bit more. -/
theorem sign_bit {c : Cod} {s : Src} {a q m at_ : Nat} {o : List Nat} {T : List Int} (h15 : ∀ i, i < c.n → c.ls i ≤ 15) (hm : may c true) (hT : TW c.ls c.W c.n T m) (hn : node T (rev (s.N / 2 ^ a) q) q = some at_) (hno : NoW c.ls c.W c.n (s.N / 2 ^ a) q) (hq : a + q < s.L) :
  at_ < m ∧ T.length = 2 * m ∧
  (nx T at_ (s.N / 2 ^ a / 2 ^ q % 2) < 0 → ∃ i, i < c.n ∧ nx T at_ (s.N / 2 ^ a / 2 ^ q % 2) = -1 - (i : Int) ∧ signM c s a o = .ok (i, a + (q + 1), o)) ∧
  (nx T at_ (s.N / 2 ^ a / 2 ^ q % 2) = 0 → signM c s a o = .error 10) ∧
  (0 < nx T at_ (s.N / 2 ^ a / 2 ^ q % 2) → node T (rev (s.N / 2 ^ a) (q + 1)) (q + 1) = some (nx T at_ (s.N / 2 ^ a / 2 ^ q % 2)).toNat ∧ NoW c.ls c.W c.n (s.N / 2 ^ a) (q + 1)) := by
 have hv := rev_lt (s.N / 2 ^ a) q
 have hb := Nat.mod_lt (s.N / 2 ^ a / 2 ^ q) (show 2 > 0 by omega)
 have hr := rev_nx (s.N / 2 ^ a) q
 obtain ⟨h1, h2, h3, h4, h5, h6⟩ := tw_read hT hv hb hn
 refine ⟨h1, h2, fun h0 => ?_, fun h0 => ?_, fun h0 => ?_⟩
 ·obtain ⟨i, i1, i2, i3, i4⟩ := h3 h0
  have hmx : c.ls i ≤ c.mx := by
   unfold Cod.mx
   rw [if_neg (by omega)]
   exact maxN_ge c.ls (c.n - 1) i (by omega)
  have hs := sign_hit0 c s a i o i1 (by omega) (by rw [i2, hr, i3]) hmx (by omega)
  rw [i2] at hs
  exact ⟨i, i1, i4, hs⟩
 ·have hno1 : NoW c.ls c.W c.n (s.N / 2 ^ a) (q + 1) := fun i hi j1 j2 e => by
   by_cases hl : c.ls i ≤ q
   ·exact hno i hi j1 hl e
   ·have hl2 : c.ls i = q + 1 := by omega
    rw [hl2, hr] at e
    have := h6 i hi hl2 e
    omega
  have hmx := begins_may h15 hm hno1 (by
   rintro ⟨i, i1, i2, i3⟩
   rw [hr] at i3
   exact h5 h0 i i1 (by omega) i3)
  rw [sign_miss hno1 (by omega) (.inr hmx), if_neg (by omega)]
 ·obtain ⟨g1, _⟩ := h4 h0
  refine ⟨by rw [hr]; exact g1, fun i hi j1 j2 e => ?_⟩
  by_cases hl : c.ls i ≤ q
  ·exact hno i hi j1 hl e
  ·have hl2 : c.ls i = q + 1 := by omega
   rw [hl2, hr] at e
   have := h6 i hi hl2 e
   omega
end Go.Proofs.YtmkeicfklbepnaaGreat

namespace Go.Proofs.YtmkeicfklbepnaaGreat
set_option maxRecDepth 100000
open Go.RowKit Go.Joins

theorem ralign_any (g : Nat) (s : ByteArray) (a e : Nat) (hs : s.size ≤ 1000000) (ha : a ≤ 8 * s.size) (w : World) (hc : Rd 57 w g s a e) :
  Calls Tryz.prog 19 #[.pointer (some ⟨g, 0, none⟩)] w fun r w' => r = .returned (.tuple #[]) ∧ Rd 57 w' g s (alignA a e) e ∧ w.grownBy w' (some g) := by
 by_cases he : e = 0
 ·subst he
  have HA : Hid (alignA a 0 = (a + 7) / 8 * 8) := if_pos rfl
  have HC := Lib.hid hc
  clear hc
  go_enter Tryz.func19, Tryz.ntmps19
  go_wp2
  go_loopw [2] (fun _ wr => ∃ b : Nat, a ≤ b ∧ b ≤ (a + 7) / 8 * 8 ∧ Rd 57 wr g s b 0 ∧ w.grownBy wr (some g)) (fun _ wr => match wr.cell? ⟨g, 1, none⟩ with | some (.int _ z) => 8 * s.size - z.toNat | _ => 0)
  case atStart => exact ⟨a, Nat.le_refl _, by omega, HC.out, World.grownBy.refl _ _⟩
  case round =>
   obtain ⟨b, hab, hb8, hc, hg⟩ := hrel
   have c1 := hc.c1
   have c2 := hc.c2
   have f1 := hc.fr 1
   have hm : (b : Int).tmod 8 = (b % 8 : Nat) := by rw [Int.tmod_eq_emod_of_nonneg (by omega)]; omega
   have HC' := Lib.hid hc
   have HG := Lib.hid hg
   clear hc hg
   by_cases h0 : b % 8 = 0
   ·rw [h0] at hm
    go_wp2
    go_end0
    have e1 : b = (a + 7) / 8 * 8 := by omega
    rw [HA.out, ← e1]
    exact ⟨rfl, HC'.out, HG.out⟩
   ·have hne : (((b % 8 : Nat) : Int) == 0) = false := by rw [beq_eq_false_iff_ne]; omega
    have hlt : b < 8 * s.size := by omega
    have hb1 : b + 1 ≤ (a + 7) / 8 * 8 := by omega
    generalize b % 8 = r at *
    go_wp2
    go_roundw
    case rel => exact ⟨b + 1, by omega, hb1, HC'.out.setAt (b + 1), grown_then HG.out (grown_set _ g 1 _)⟩
    case measure =>
     have hc2 : (wr.setCell ⟨g, 1, none⟩ (.int .i64 ((b : Int) + 1))).cell? ⟨g, 1, none⟩ = some (.int .i64 ((b : Int) + 1)) := (HC'.out.setAt (b + 1)).c1
     rw [c1, hc2]
     simp
     omega
 ·have HA : Hid (alignA a e = a) := if_neg he
  have c2 := hc.c2
  have he' : ((e : Int) == 0) = false := by rw [beq_eq_false_iff_ne]; omega
  have HC := Lib.hid hc
  clear hc he
  go_enter Tryz.func19, Tryz.ntmps19
  go_wp2
  go_loopw [2] (fun _ wr => wr = w) (fun _ _ => 0)
  case atStart => exact rfl
  case round =>
   subst hrel
   go_wp2
   go_end0
   rw [HA.out]
   exact ⟨rfl, HC.out, World.grownBy.refl _ _⟩

theorem rbytes_any (g : Nat) (s : ByteArray) (a e : Nat) (n : Int) (hn : (Lit.int .i64 n).wf = true) (hs : s.size ≤ 1000000) (ha : a ≤ 8 * s.size) (w : World) (hc : Rd 57 w g s a e) :
  Calls Tryz.prog 21 #[.pointer (some ⟨g, 0, none⟩), .int .i64 n] w fun r w' => r = .returned (.string (pieceB s (alignA a e) e n)) ∧ Rd 57 w' g s (bytA s (alignA a e) e n) (bytE s (alignA a e) e n) ∧ w.grownBy w' (some g) := by
 have hbn := bounds_i64 hn
 have hb := alignA_le s a e ha
 have h8 : e = 0 → alignA a e % 8 = 0 := fun h => by subst h; exact align_8 a
 have HAL := Lib.hid (ralign_any g s a e hs ha w hc)
 clear hc hn
 generalize alignA a e = b at *
 go_enter Tryz.func21, Tryz.ntmps21
 go_wp2_with fail
 refine (HAL.out).mono ?_; rintro r w1 ⟨rfl, hc, hg⟩
 have HG := Lib.hid hg
 have HC := Lib.hid hc
 have c0 := hc.c0
 have c1 := hc.c1
 have c2 := hc.c2
 have f1 := hc.fr 1
 have f2 := hc.fr 2
 clear hg HAL hc
 by_cases he : e = 0
 ·subst he
  have h8 := h8 rfl
  by_cases h0 : n < 0
  ·have hm : ¬ mayB s b 0 n = true := fun h => by
    have := of_decide_eq_true h
    omega
   have HP : Hid (pieceB s b 0 n = ⟨#[]⟩) := if_neg hm
   have HA : Hid (bytA s b 0 n = b) := if_neg hm
   have HE : Hid (bytE s b 0 n = 2) := by
    show _ = _
    unfold bytE
    rw [if_neg (by omega), if_pos h0]
   clear hm
   go_wp2
   go_ret
   refine ⟨by rw [HP.out]; rfl, ?_, grown_then HG.out (grown_set _ g 2 _)⟩
   rw [HA.out, HE.out]
   exact HC.out.setErr 2
  ·obtain ⟨m, rfl⟩ := Int.eq_ofNat_of_zero_le (show 0 ≤ n by omega)
   have h0' : decide ((m : Int) < 0) = false := decide_eq_false (by omega)
   have hqb : ((b : Int)).tdiv 8 = ((b / 8 : Nat) : Int) := by rw [Int.tdiv_eq_ediv_of_nonneg (by omega)]; omega
   by_cases hl : m ≤ s.size - b / 8
   ·have hm : mayB s b 0 (m : Nat) = true := decide_eq_true ⟨rfl, by omega, by omega⟩
    have HP : Hid (pieceB s b 0 (m : Nat) = s.extract (b / 8) (b / 8 + m)) := if_pos hm
    have HA : Hid (bytA s b 0 (m : Nat) = b + 8 * m) := by
     show _ = _
     rw [show bytA s b 0 (m : Nat) = b + 8 * (m : Int).toNat from if_pos hm]
     omega
    have HE : Hid (bytE s b 0 (m : Nat) = 0) := by
     show _ = _
     unfold bytE
     rw [if_neg (by omega), if_neg (by omega), if_pos (by omega)]
    have hm8 : b + 8 * m ≤ 8 * s.size := by omega
    have hbm : b / 8 + m ≤ s.size := by omega
    have hd : decide ((s.size : Int) - ((b / 8 : Nat) : Int) < m) = false := decide_eq_false (by omega)
    have hw1 : IntKind.i64.wrap (((b / 8 : Nat) : Int) + (m : Int)) = ((b / 8 + m : Nat) : Int) := by rw [IntKind.wrap_i64]; omega
    generalize hBB : b / 8 = q at *
    have HBB := Lib.hid hBB
    clear hm h0 hBB hl
    go_wp2
    go_quiet (fail)
    go_wp2
    go_quiet (fail)
    go_wp2
    go_ret
    refine ⟨by rw [HP.out]; rfl, ?_, grown_then HG.out (grown_then (grown_drewN _ _ _) (grown_set _ g 1 _))⟩
    rw [HA.out, HE.out]
    exact (HC.out.drewN _).setAt (b + 8 * m)
   ·have hm : ¬ mayB s b 0 (m : Nat) = true := fun h => by
     have := of_decide_eq_true h
     omega
    have HP : Hid (pieceB s b 0 (m : Nat) = ⟨#[]⟩) := if_neg hm
    have HA : Hid (bytA s b 0 (m : Nat) = b) := if_neg hm
    have HE : Hid (bytE s b 0 (m : Nat) = 3) := by
     show _ = _
     unfold bytE
     rw [if_neg (by omega), if_neg (by omega), if_neg (by omega)]
    have hd : decide ((s.size : Int) - ((b / 8 : Nat) : Int) < m) = true := decide_eq_true (by omega)
    have hqs : b / 8 ≤ s.size := by omega
    generalize hBB : b / 8 = q at *
    clear hm h0 hBB hl
    go_wp2
    go_quiet (fail)
    go_wp2
    go_ret
    refine ⟨by rw [HP.out]; rfl, ?_, grown_then HG.out (grown_then (grown_drewN _ _ _) (grown_set _ g 2 _))⟩
    rw [HA.out, HE.out]
    exact (HC.out.drewN _).setErr 3
 ·have hm : ¬ mayB s b e n = true := fun h => he (of_decide_eq_true h).1
  have he' : ((e : Int) == 0) = false := by rw [beq_eq_false_iff_ne]; omega
  have HP : Hid (pieceB s b e n = ⟨#[]⟩) := if_neg hm
  have HA : Hid (bytA s b e n = b) := if_neg hm
  have HE : Hid (bytE s b e n = e) := if_pos he
  clear hm he h8
  go_wp2
  go_ret
  refine ⟨by rw [HP.out]; rfl, ?_, HG.out⟩
  rw [HA.out, HE.out]
  exact HC.out
end Go.Proofs.YtmkeicfklbepnaaGreat

namespace Go.Proofs.YtmkeicfklbepnaaGreat
set_option maxRecDepth 100000
set_option linter.unusedVariables false
set_option linter.unusedSimpArgs false
open Go.RowKit Go.Deep Go.Joins
def stC (gr : Nat) (v : Value) (lim e : Int) : Obj := .cells #[.pointer (some ⟨gr, 0, none⟩), v, .int .i64 lim, .int .i64 e] 59 (0, 0)
/-- A stream that goes on. -/
def RS (w : World) (B g gr : Nat) (r : Option Nat) (s : ByteArray) (lim : Int) (a : Nat) (o : List Nat) : Prop :=
 ∃ v, w.heap[g]? = some (stC gr v lim 0) ∧ w.ownsRow B 5 1 v o.length (cells8 o) ∧ v.ownBlock = r ∧ Rd 57 w gr s a 0 ∧ (B ≤ g ∧ B ≤ gr ∧ a ≤ 8 * s.size ∧ (∀ x ∈ o, x < 256) ∧ o.length ≤ lim.toNat)
/-- A stream that is wrong. -/
def RB (w : World) (g k : Nat) : Prop := ∃ gr v lim, w.heap[g]? = some (stC gr v lim (k : Nat)) ∧ k ≠ 0 ∧ k < 100
def UpR (g gr : Nat) (r r' : Option Nat) (w w' : World) : Prop := Kept (fun i => i = g ∨ i = gr ∨ some i = r) w w' ∧ (r' = r ∨ ∃ j, r' = some j ∧ w.heap.size ≤ j)
theorem UpR.refl (g gr : Nat) (r : Option Nat) (w : World) : UpR g gr r r w w := ⟨Kept.refl _ _, .inl rfl⟩
theorem UpR.then {g gr : Nat} {r r1 r2 : Option Nat} {w w1 w2 : World} (h : UpR g gr r r1 w w1) (k : UpR g gr r1 r2 w1 w2) : UpR g gr r r2 w w2 := by
 refine ⟨h.1.then k.1 fun i hi e => ?_, ?_⟩
 ·rcases e with e | e | e
  ·exact .inl e
  ·exact .inr (.inl e)
  ·rcases h.2 with h2 | ⟨j, h2, h3⟩
   ·exact .inr (.inr (e.trans h2))
   ·rw [h2] at e
    injection e with e
    omega
 ·rcases k.2 with k2 | ⟨j, k2, k3⟩
  ·rcases h.2 with h2 | ⟨j, h2, h3⟩
   ·exact .inl (k2.trans h2)
   ·exact .inr ⟨j, k2.trans h2, h3⟩
  ·exact .inr ⟨j, k2, Nat.le_trans h.1.size k3⟩
theorem upr_read {g gr : Nat} {r : Option Nat} {w w' : World} (h : w.grownBy w' (some gr)) : UpR g gr r r w w' := ⟨(kept_grown h).more fun i e => by injection e with e; exact .inr (.inl e), .inl rfl⟩
theorem upr_drewN {g gr : Nat} {r : Option Nat} (w : World) (d : Nat) : UpR g gr r r w (w.drewN d) := ⟨kept_drewN _ w d, .inl rfl⟩
theorem upr_below {g gr : Nat} {r : Option Nat} {w w' : World} (h : Below w.heap.size w w') : UpR g gr r r w w' := ⟨kept_below h, .inl rfl⟩
theorem upr_set {g gr : Nat} {r : Option Nat} (w : World) (i : Nat) (v : Value) : UpR g gr r r w (w.setCell ⟨g, i, none⟩ v) := ⟨(kept_set w g i v).more fun i e => .inl e, .inl rfl⟩
theorem upr_setR {g gr : Nat} {r : Option Nat} (w : World) (i : Nat) (v : Value) : UpR g gr r r w (w.setCell ⟨gr, i, none⟩ v) := ⟨(kept_set w gr i v).more fun i e => .inr (.inl e), .inl rfl⟩
/-- What a call that goes on with the stream leaves. -/
def OutR {α : Type} (w : World) (B g gr : Nat) (r : Option Nat) (s : ByteArray) (lim : Int) (val : α → Ending → Prop) (bad : Ending → Prop) (ans : Ans α) (e : Ending) (w' : World) : Prop :=
 match ans with
 | .ok (x, a1, o1) => ∃ r', UpR g gr r r' w w' ∧ val x e ∧ RS w' B g gr r' s lim a1 o1
 | .error k => ∃ r', UpR g gr r r' w w' ∧ bad e ∧ RB w' g k
section
variable {w w' : World} {B g gr a : Nat} {r r' : Option Nat} {s : ByteArray} {lim : Int} {o : List Nat}
theorem RS.blk (h : RS w B g gr r s lim a o) : ∃ v, w.heap[g]? = some (stC gr v lim 0) ∧ w.ownsRow B 5 1 v o.length (cells8 o) ∧ v.ownBlock = r := by
 obtain ⟨v, h1, h2, h3, _⟩ := h
 exact ⟨v, h1, h2, h3⟩
theorem RS.rd (h : RS w B g gr r s lim a o) : Rd 57 w gr s a 0 := by
 obtain ⟨v, _, _, _, h, _⟩ := h
 exact h
theorem RS.le (h : RS w B g gr r s lim a o) : a ≤ 8 * s.size := by
 obtain ⟨v, _, _, _, _, h⟩ := h
 exact h.2.2.1
theorem RS.ne (h : RS w B g gr r s lim a o) : g ≠ gr := by
 obtain ⟨v, h1, _, _, h2, _⟩ := h
 rintro rfl
 unfold Rd at h2
 rw [h1] at h2
 unfold stC at h2
 injection h2 with h2
 injection h2 with _ h2
 exact absurd h2 (by decide)
/-- A row of the call's own lies apart. -/
theorem own_ne {v : Value} {n i : Nat} {xs cs : List Value} {T : TypeId} {f : Nat × Nat} {c : Array Value} (h : w.ownsRow B 5 1 v n xs) (hi : w.heap[i]? = some (.cells c T f)) (hT : T ≠ 5) : v.ownBlock ≠ some i := by
 rcases h.2 with ⟨rfl, _⟩ | ⟨g', cap, cur, rfl, _, hg, _⟩
 ·simp [Value.ownBlock]
 ·intro e
  have e' : g' = i := by simpa [Value.ownBlock] using e
  subst e'
  rw [hg] at hi
  injection hi with hi
  injection hi with _ hi
  exact hT hi.symm
theorem own_lt {v : Value} {n b : Nat} {xs : List Value} (h : w.ownsRow B 5 1 v n xs) (hb : v.ownBlock = some b) : b < w.heap.size := by
 rcases h.2 with ⟨rfl, _⟩ | ⟨g', cap, cur, rfl, _, hgx, _⟩
 ·simp [Value.ownBlock] at hb
 ·have e' : g' = b := by simpa [Value.ownBlock] using hb
  subst e'
  exact lt_of_block hgx
theorem own_keep {v : Value} {n i : Nat} {xs : List Value} (h : w.ownsRow B 5 1 v n xs) (hk : ∀ b, v.ownBlock = some b → w'.heap[b]? = w.heap[b]?) (hs : w.heap.size ≤ w'.heap.size) : w'.ownsRow B 5 1 v n xs := by
 refine ⟨h.1, ?_⟩
 rcases h.2 with h2 | ⟨g', cap, cur, rfl, h3, hg, h4⟩
 ·exact .inl h2
 ·exact .inr ⟨g', cap, cur, rfl, h3, by rw [hk g' (by simp [Value.ownBlock])]; exact hg, h4⟩
theorem RS.read {a1 : Nat} (h : RS w B g gr r s lim a o) (hg : w.grownBy w' (some gr)) (hr : Rd 57 w' gr s a1 0) (ha : a1 ≤ 8 * s.size) : RS w' B g gr r s lim a1 o := by
 have hne := h.ne
 have hrd := h.rd
 obtain ⟨v, h1, h2, h3, h4, h5, h6, h7, h8⟩ := h
 refine ⟨v, (hg.block g (lt_of_block h1) (fun e => by injection e with e; exact hne e)).trans h1, own_keep (i := 0) h2 (fun b hb => hg.block b (own_lt h2 hb) (fun e => ?_)) hg.size, h3, hr, h5, h6, ha, h8⟩
 injection e with e
 subst e
 exact own_ne (cs := []) h2 h4 (by decide) hb
theorem RS.below (h : RS w B g gr r s lim a o) (hb : Below w.heap.size w w') : RS w' B g gr r s lim a o := by
 obtain ⟨v, h1, h2, h3, h4, h5⟩ := h
 exact ⟨v, (hb.block g (lt_of_block h1)).trans h1, own_keep (i := 0) h2 (fun b hb' => hb.block b (own_lt h2 hb')) hb.size, h3, h4.below hb h4.lt, h5⟩
theorem RS.drewN (h : RS w B g gr r s lim a o) (d : Nat) : RS (w.drewN d) B g gr r s lim a o := by
 obtain ⟨v, h1, h2, h3, h4, h5⟩ := h
 exact ⟨v, h1, own_keep (i := 0) h2 (fun _ _ => rfl) (Nat.le_refl _), h3, h4.drewN d, h5⟩
end
set_option maxHeartbeats 2000000 in
theorem rfail_ok (g gr : Nat) (v : Value) (lim k : Int) (w : World) (hb : w.heap[g]? = some (stC gr v lim 0)) :
  Calls Tryz.prog 18 #[.pointer (some ⟨g, 0, none⟩), .int .i64 k] w fun e w' => e = .returned (.tuple #[]) ∧ w' = w.setCell ⟨g, 3, none⟩ (.int .i64 k) := by
 unfold stC at hb
 have c3 := (cell_of_row w g 3 _ _ _ hb).trans (show _ = some (Value.int .i64 0) from rfl)
 have f3 := frozen_of_row w g 3 _ _ hb
 clear hb
 go_enter Tryz.func18, Tryz.ntmps18
 go_wp2
 first | go_end0 | refine bodyPost_ret (results_none rfl _ _ _) rfl ?_
 exact ⟨rfl, rfl⟩
set_option maxHeartbeats 2000000 in
theorem rfail_no (g k : Nat) (x : Int) (w : World) (hb : RB w g k) :
  Calls Tryz.prog 18 #[.pointer (some ⟨g, 0, none⟩), .int .i64 x] w fun e w' => e = .returned (.tuple #[]) ∧ w' = w := by
 obtain ⟨gr, v, lim, hb, h1, h2⟩ := hb
 unfold stC at hb
 have c3 := (cell_of_row w g 3 _ _ _ hb).trans (show _ = some (Value.int .i64 (k : Nat)) from rfl)
 have hk : (((k : Nat) : Int) == 0) = false := by rw [beq_eq_false_iff_ne]; omega
 clear hb
 go_enter Tryz.func18, Tryz.ntmps18
 go_wp2
 first | go_end0 | refine bodyPost_ret (results_none rfl _ _ _) rfl ?_
 exact ⟨rfl, rfl⟩
theorem rb_set {g gr : Nat} {v : Value} {lim : Int} {w : World} (k : Nat) (hk : k ≠ 0) (hk2 : k < 100) (hb : w.heap[g]? = some (stC gr v lim 0)) : RB (w.setCell ⟨g, 3, none⟩ (.int .i64 (k : Nat))) g k :=
 ⟨gr, v, lim, heap_setCell_same w g 3 _ _ _ hb, hk, hk2⟩
end Go.Proofs.YtmkeicfklbepnaaGreat

namespace Go.Proofs.YtmkeicfklbepnaaGreat
set_option maxRecDepth 100000
set_option linter.unusedVariables false
set_option linter.unusedSimpArgs false
open Go.RowKit Go.Deep Go.Joins
def srcR (s : ByteArray) (lim : Int) : Src := ⟨num s, 8 * s.size, lim.toNat⟩
theorem RS.room {w : World} {B g gr a : Nat} {r : Option Nat} {s : ByteArray} {lim : Int} {o : List Nat} (h : RS w B g gr r s lim a o) : o.length ≤ lim.toNat := by
 obtain ⟨v, _, _, _, _, h⟩ := h
 exact h.2.2.2.2
theorem RS.small {w : World} {B g gr a : Nat} {r : Option Nat} {s : ByteArray} {lim : Int} {o : List Nat} (h : RS w B g gr r s lim a o) : ∀ x ∈ o, x < 256 := by
 obtain ⟨v, _, _, _, _, h⟩ := h
 exact h.2.2.2.1
/-- The wrong stream, behind a fault. -/
theorem RS.bad {w : World} {B g gr a : Nat} {r : Option Nat} {s : ByteArray} {lim : Int} {o : List Nat} (h : RS w B g gr r s lim a o) (k : Nat) (hk : k ≠ 0) (hk2 : k < 100) : RB (w.setCell ⟨g, 3, none⟩ (.int .i64 (k : Nat))) g k ∧ UpR g gr r r w (w.setCell ⟨g, 3, none⟩ (.int .i64 (k : Nat))) := by
 obtain ⟨v, h1, _⟩ := h
 exact ⟨rb_set k hk hk2 h1, upr_set w 3 _⟩
set_option maxHeartbeats 4000000 in
theorem rnum_any (B g gr a n : Nat) (r : Option Nat) (s : ByteArray) (lim : Int) (o : List Nat) (hn : n ≤ 16) (hs : s.size ≤ 1000000) (w : World) (hS : RS w B g gr r s lim a o) :
  Calls Tryz.prog 17 #[.pointer (some ⟨g, 0, none⟩), .int .i64 (n : Nat)] w fun e w' => OutR w B g gr r s lim (fun x e => e = .returned (.int .i64 (x : Nat))) (fun e => e = .returned (.int .i64 0)) (readM1 n (srcR s lim) a o) e w' := by
 obtain ⟨v, hb, _⟩ := hS.blk
 have hle := hS.le
 have hrd := hS.rd
 have hne := hS.ne
 have HS := Lib.hid hS
 have HB := Lib.hid hb
 unfold stC at hb
 have c0 := (cell_of_row w g 0 _ _ _ hb).trans (show _ = some (Value.pointer (some ⟨gr, 0, none⟩)) from rfl)
 have c3 := (cell_of_row w g 3 _ _ _ hb).trans (show _ = some (Value.int .i64 0) from rfl)
 have HR := Lib.hid (rread_any gr s a 0 (n : Nat) hs hle w hrd)
 have hgl := lt_of_block hb
 have HRD := Lib.hid hrd
 clear hb hS hrd
 go_enter Tryz.func17, Tryz.ntmps17
 go_wp2_with fail
 refine HR.out.mono ?_; rintro e w1 ⟨rfl, hr1, hg1⟩
 have hk : w1.heap[g]? = w.heap[g]? := hg1.block g hgl (fun e => by injection e with e; exact hne e)
 have hb1 := hk.trans HB.out
 have HB1 := Lib.hid hb1
 have HG1 := Lib.hid hg1
 unfold stC at hb1
 have k0 := (cell_of_row w1 g 0 _ _ _ hb1).trans (show _ = some (Value.pointer (some ⟨gr, 0, none⟩)) from rfl)
 have r2 := hr1.c2
 have HR1 := Lib.hid hr1
 clear hb1 hg1 hk hr1 c0 c3 HR
 by_cases hfit : a + n ≤ 8 * s.size
 ·have hE : readE s a 0 (n : Nat) = 0 := by unfold readE; rw [if_neg (by omega), if_neg (by omega), if_pos (by omega)]
  have hM : readM s a 0 (n : Nat) = n := by unfold readM; rw [if_pos ⟨rfl, by omega, by omega, by omega⟩]; rfl
  generalize readE s a 0 (n : Nat) = ee at *
  generalize readM s a 0 (n : Nat) = mm at *
  subst ee
  subst mm
  have hlt : bitsAt (num s) a n < 65536 := Nat.lt_of_lt_of_le (Nat.mod_lt _ (Nat.two_pow_pos n)) (Nat.pow_le_pow_right (by omega) (show n ≤ 16 by omega))
  have hw : IntKind.i64.wrap ((bitsAt (num s) a n : Nat) : Int) = ((bitsAt (num s) a n : Nat) : Int) := IntWalk.i64_in _ (by omega)
  have HF := Lib.hid (rfail_ok g gr v lim 0 w1 HB1.out)
  have HANS : Hid (readM1 n (srcR s lim) a o = .ok (bitsAt (num s) a n, a + n, o)) := if_pos (show a + n ≤ 8 * s.size from hfit)
  generalize bitsAt (num s) a n = X at *
  clear hlt
  go_wp2_with fail
  refine HF.out.mono ?_; rintro e w2 ⟨rfl, rfl⟩
  have hset : w1.setCell ⟨g, 3, none⟩ (.int .i64 0) = w1 ∨ True := .inr trivial
  have HB2 : Hid ((w1.setCell ⟨g, 3, none⟩ (.int .i64 0)).heap[g]? = some (stC gr v lim 0)) := heap_setCell_same w1 g 3 _ _ _ HB1.out
  go_wp2_with fail
  go_ret
  rw [HANS.out]
  refine ⟨r, (upr_read HG1.out).then (upr_set w1 3 _), rfl, ?_⟩
  have h1 := HS.out.read HG1.out HR1.out (show a + n ≤ 8 * s.size from hfit)
  obtain ⟨v1, q1, q2, q3, q4, q5⟩ := h1
  rw [HB1.out] at q1
  injection q1 with q1
  unfold stC at q1
  injection q1 with q1
  have hv : v = v1 := by simpa using q1
  subst hv
  refine ⟨v, HB2.out, own_keep (i := 0) q2 (fun b hb => Below.heap_setCell _ _ _ _ (fun e => ?_)) (by simp [World.setCell]), q3, ?_, q5⟩
  ·subst e
   exact own_ne (cs := []) q2 HB1.out (by decide) hb
  ·exact (Below.heap_setCell _ _ _ _ (fun e => hne e.symm)).trans q4
 ·have hE : readE s a 0 (n : Nat) = 3 := by unfold readE; rw [if_neg (by omega), if_neg (by omega), if_neg (by omega)]
  have hM : readM s a 0 (n : Nat) = 0 := by unfold readM; rw [if_neg (by omega)]
  generalize readE s a 0 (n : Nat) = ee at *
  generalize readM s a 0 (n : Nat) = mm at *
  subst ee
  subst mm
  rw [bitsAt_zero]
  have HF := Lib.hid (rfail_ok g gr v lim 3 w1 HB1.out)
  have HANS : Hid (readM1 n (srcR s lim) a o = .error 3) := if_neg (show ¬ a + n ≤ 8 * s.size from hfit)
  go_wp2_with fail
  refine HF.out.mono ?_; rintro e w2 ⟨rfl, rfl⟩
  go_wp2_with fail
  go_ret
  rw [HANS.out]
  exact ⟨r, (upr_read HG1.out).then (upr_set w1 3 _), rfl, rb_set 3 (by decide) (by decide) HB1.out⟩
set_option maxHeartbeats 2000000 in
theorem rnum_no (g k : Nat) (n : Int) (w : World) (hb : RB w g k) :
  Calls Tryz.prog 17 #[.pointer (some ⟨g, 0, none⟩), .int .i64 n] w fun e w' => e = .returned (.int .i64 0) ∧ w' = w := by
 obtain ⟨gr, v, lim, hb, h1, h2⟩ := hb
 unfold stC at hb
 have c3 := (cell_of_row w g 3 _ _ _ hb).trans (show _ = some (Value.int .i64 (k : Nat)) from rfl)
 have hk : (((k : Nat) : Int) != 0) = true := by rw [bne_iff_ne]; omega
 clear hb
 go_enter Tryz.func17, Tryz.ntmps17
 go_wp2
 go_ret
 exact ⟨rfl, rfl⟩
end Go.Proofs.YtmkeicfklbepnaaGreat

namespace Go.Proofs.YtmkeicfklbepnaaGreat
set_option maxRecDepth 100000
set_option linter.unusedVariables false
set_option linter.unusedSimpArgs false
open Go.RowKit Go.Deep Go.Joins
theorem row8_slice {w : World} {B n z : Nat} {e : TypeId} {v : Value} {l : List Value} (h : w.ownsRow B e z v n l) : ∃ A c, v = .slice A n c := by
 rcases h.2 with ⟨h1, h2⟩ | ⟨g, cap, cur, h1, _⟩
 ·exact ⟨none, 0, by rw [h1, h2]⟩
 ·exact ⟨some ⟨g, 0, none⟩, cap, h1⟩
def roomM (n : Nat) : Mm Unit := fun s a o => if o.length + n ≤ s.lim then .ok ((), a, o) else .error 14
set_option maxHeartbeats 4000000 in
theorem rroom_any (B g gr a n : Nat) (r : Option Nat) (s : ByteArray) (lim : Int) (o : List Nat) (hn : n ≤ 1000000) (hl : lim ≤ 1000000000) (w : World) (hS : RS w B g gr r s lim a o) :
  Calls Tryz.prog 20 #[.pointer (some ⟨g, 0, none⟩), .int .i64 (n : Nat)] w fun e w' => OutR w B g gr r s lim (fun _ e => e = .returned (.tuple #[])) (fun e => e = .returned (.tuple #[])) (roomM n (srcR s lim) a o) e w' := by
 obtain ⟨v, hb, how, _⟩ := hS.blk
 have hro := hS.room
 have HS := Lib.hid hS
 have HB := Lib.hid hb
 obtain ⟨A, cc, rfl⟩ := row8_slice how
 unfold stC at hb
 have c1 := (cell_of_row w g 1 _ _ _ hb).trans (show _ = some (Value.slice A o.length cc) from rfl)
 have c2 := (cell_of_row w g 2 _ _ _ hb).trans (show _ = some (Value.int .i64 lim) from rfl)
 have c3 := (cell_of_row w g 3 _ _ _ hb).trans (show _ = some (Value.int .i64 0) from rfl)
 clear hb hS how
 by_cases h0 : n = 0
 ·subst h0
  go_enter Tryz.func20, Tryz.ntmps20
  go_wp2_with fail
  first | go_end0 | refine bodyPost_ret (results_none rfl _ _ _) rfl ?_
  unfold roomM
  rw [if_pos (show o.length + 0 ≤ (srcR s lim).lim by show _ ≤ lim.toNat; omega)]
  exact ⟨r, UpR.refl _ _ _ _, rfl, HS.out⟩
 have h0f : (((n : Nat) : Int) == 0) = false := by rw [beq_eq_false_iff_ne]; omega
 by_cases hbad : lim.toNat < o.length + n
 ·have HANS : Hid (roomM n (srcR s lim) a o = .error 14) := if_neg (show ¬ o.length + n ≤ lim.toNat by omega)
  have HF := Lib.hid (fun d => rfail_ok g gr (.slice A o.length cc) lim 14 (w.drewN d) HB.out)
  by_cases hneg : lim < 0
  ·have hn1 : decide (lim < 0) = true := decide_eq_true hneg
   go_enter Tryz.func20, Tryz.ntmps20
   go_wp2_with fail
   go_quiet (fail)
   go_wp2_with fail
   refine (HF.out _).mono ?_; rintro e w2 ⟨rfl, rfl⟩
   go_wp2_with fail
   first | go_end0 | refine bodyPost_ret (results_none rfl _ _ _) rfl ?_
   rw [HANS.out]
   have hb2 := (HS.out.drewN nq).bad 14 (by decide) (by decide)
   exact ⟨r, (upr_drewN w nq).then hb2.2, rfl, hb2.1⟩
  ·have hn1 : decide (lim < 0) = false := decide_eq_false hneg
   have hw : IntKind.i64.wrap ((o.length : Int) + (n : Nat)) = (o.length : Int) + (n : Nat) := IntWalk.i64_in _ (by omega)
   have hn2 : decide (lim < (o.length : Int) + (n : Nat)) = true := decide_eq_true (by omega)
   go_enter Tryz.func20, Tryz.ntmps20
   go_wp2_with fail
   go_quiet (fail)
   go_wp2_with fail
   refine (HF.out _).mono ?_; rintro e w2 ⟨rfl, rfl⟩
   go_wp2_with fail
   first | go_end0 | refine bodyPost_ret (results_none rfl _ _ _) rfl ?_
   rw [HANS.out]
   have hb2 := (HS.out.drewN nq).bad 14 (by decide) (by decide)
   exact ⟨r, (upr_drewN w nq).then hb2.2, rfl, hb2.1⟩
 ·have HANS : Hid (roomM n (srcR s lim) a o = .ok ((), a, o)) := if_pos (show o.length + n ≤ lim.toNat by omega)
  have hn1 : decide (lim < 0) = false := decide_eq_false (by omega)
  have hw : IntKind.i64.wrap ((o.length : Int) + (n : Nat)) = (o.length : Int) + (n : Nat) := IntWalk.i64_in _ (by omega)
  have hn2 : decide (lim < (o.length : Int) + (n : Nat)) = false := decide_eq_false (by omega)
  go_enter Tryz.func20, Tryz.ntmps20
  go_wp2_with fail
  go_quiet (fail)
  go_wp2_with fail
  first | go_end0 | refine bodyPost_ret (results_none rfl _ _ _) rfl ?_
  rw [HANS.out]
  exact ⟨r, upr_drewN w nq, rfl, HS.out.drewN nq⟩
set_option maxHeartbeats 2000000 in
theorem rroom_no (g k : Nat) (n : Int) (w : World) (hb : RB w g k) :
  Calls Tryz.prog 20 #[.pointer (some ⟨g, 0, none⟩), .int .i64 n] w fun e w' => e = .returned (.tuple #[]) ∧ w' = w := by
 obtain ⟨gr, v, lim, hb, h1, h2⟩ := hb
 unfold stC at hb
 have c3 := (cell_of_row w g 3 _ _ _ hb).trans (show _ = some (Value.int .i64 (k : Nat)) from rfl)
 have hk : (((k : Nat) : Int) != 0) = true := by rw [bne_iff_ne]; omega
 clear hb
 go_enter Tryz.func20, Tryz.ntmps20
 go_wp2_with fail
 first | go_end0 | refine bodyPost_ret (results_none rfl _ _ _) rfl ?_
 exact ⟨rfl, rfl⟩
end Go.Proofs.YtmkeicfklbepnaaGreat
