/-
 Contracts: the reader's Read and Bytes.
 Contracts: the program's writer: what it holds is a number and how many bits it has.
-/
import Derived.Test.YtmkeicfklbepnaaGreatPkAC
import Derived.Deep.RegionHeld3
import Derived.Deep.RegionLaw
import Derived.StillTailTactics

namespace Go.Proofs.YtmkeicfklbepnaaGreat
open Go.RowKit Go.Joins

def readM (s : ByteArray) (a e : Nat) (n : Int) : Nat := if e = 0 ∧ 0 ≤ n ∧ n ≤ 32 ∧ n ≤ (8 * s.size - a : Nat) then n.toNat else 0
def readE (s : ByteArray) (a e : Nat) (n : Int) : Nat := if e ≠ 0 then e else if n < 0 ∨ 32 < n then 2 else if n ≤ (8 * s.size - a : Nat) then 0 else 3
theorem read_any (g : Nat) (s : ByteArray) (a e : Nat) (n : Int) (hs : s.size ≤ 1000000) (ha : a ≤ 8 * s.size) (w : World) (hc : Rd 83 w g s a e) :
  Calls Tryz.prog 35 #[.pointer (some ⟨g, 0, none⟩), .int .i64 n] w fun r w' => r = .returned (.int .u32 (bitsAt (num s) a (readM s a e n) : Nat)) ∧ Rd 83 w' g s (a + readM s a e n) (readE s a e n) ∧ w.grownBy w' (some g) := by
 have HC := Lib.hid hc
 by_cases hb : e = 0 ∧ 32 < n
 ·obtain ⟨rfl, h32⟩ := hb
  have HW := Lib.hid (well_yes g s a w hc)
  have c2 := hc.c2
  have f2 := hc.fr 2
  have HM : Hid (readM s a 0 n = 0) := if_neg (by omega)
  have HE : Hid (readE s a 0 n = 2) := by
   show _ = _
   unfold readE
   rw [if_neg (by omega), if_pos (by omega)]
  have hc2 : Rd 83 (w.setCell ⟨g, 2, none⟩ (.int .i64 2)) g s a 2 := hc.setErr 2
  have HC2 := Lib.hid hc2
  have hpk := peek_any g s a 2 n hs ha _ hc2
  rw [show peekM s a 2 n = 0 from if_neg (by omega), bitsAt_zero] at hpk
  have HPK := Lib.hid hpk
  have hsk := fun d => skip_any g s a 2 n hs ha _ (hc2.drewN d)
  rw [show skipA s a 2 n = a from if_neg (by omega), show skipE s a 2 n = 2 from if_pos (by omega)] at hsk
  have HSK := Lib.hid hsk
  clear hc hc2 hpk hsk
  go_enter Tryz.func35, Tryz.ntmps35
  go_wp2_with (first | (go_at_call 57; refine (HW.out).mono ?_; rintro r w' ⟨rfl, rfl⟩) | (go_at_call 58; refine (HPK.out).mono ?_; rintro r w' ⟨rfl, d, rfl⟩) | (go_at_call 59; refine (HSK.out _).mono ?_; rintro r w' ⟨rfl, hc3, hg3⟩))
  go_ret
  refine ⟨by rw [HM.out, bitsAt_zero]; rfl, ?_, grown_then (grown_set w g 2 _) (grown_then (grown_drewN _ d _) hg3)⟩
  rw [HM.out, HE.out]
  exact hc3
 ·have hpk := peek_any g s a e n hs ha w hc
  have HPK := Lib.hid hpk
  have hsk := fun d => skip_any g s a e n hs ha _ (hc.drewN d)
  have HSK := Lib.hid hsk
  have hlt := bitsAt_lt32 (num s) a _ (peekM_le s a e n)
  have hp32 := peekM_le s a e n
  by_cases hok : e = 0 ∧ 0 ≤ n ∧ n ≤ 32 ∧ n ≤ (8 * s.size - a : Nat)
  ·obtain ⟨rfl, h0, h32, hl⟩ := hok
   have HW := Lib.hid (well_yes g s a w hc)
   obtain ⟨m, rfl⟩ := Int.eq_ofNat_of_zero_le h0
   have HM : Hid (readM s a 0 (m : Nat) = m) := if_pos ⟨rfl, h0, h32, hl⟩
   have HE : Hid (readE s a 0 (m : Nat) = 0) := by
    show _ = _
    unfold readE
    rw [if_neg (by omega), if_neg (by omega), if_pos hl]
   have hPM : peekM s a 0 (m : Nat) = m := by
    unfold peekM
    rw [if_pos (by omega)]
    omega
   have HA : Hid (skipA s a 0 (m : Nat) = a + m) := if_pos ⟨rfl, h0, hl⟩
   have HSE : Hid (skipE s a 0 (m : Nat) = 0) := by
    show _ = _
    unfold skipE
    rw [if_neg (by omega), if_neg (by omega), if_pos hl]
   rw [hPM] at HPK hlt
   clear hc hb hpk hsk hPM hl h0
   go_enter Tryz.func35, Tryz.ntmps35
   go_wp2_with (first | (go_at_call 57; refine (HW.out).mono ?_; rintro r w' ⟨rfl, rfl⟩) | (go_at_call 58; refine (HPK.out).mono ?_; rintro r w' ⟨rfl, d, rfl⟩) | (go_at_call 59; refine (HSK.out _).mono ?_; rintro r w' ⟨rfl, hc3, hg3⟩))
   go_ret
   refine ⟨by rw [HM.out]; rfl, ?_, grown_then (grown_drewN _ d _) hg3⟩
   rw [HA.out, HSE.out] at hc3
   rw [HM.out, HE.out]
   exact hc3
  ·have HM : Hid (readM s a e n = 0) := if_neg hok
   have HA : Hid (skipA s a e n = a) := if_neg (by omega)
   have HEE : Hid (skipE s a e n = readE s a e n) := by
    show _ = _
    unfold skipE readE
    by_cases he : e = 0
    ·have h32 : ¬ 32 < n := by omega
     by_cases h0 : n < 0
     ·simp only [he, h0, ne_eq, not_true_eq_false, if_true, if_false, true_or]
     ·simp only [he, h0, h32, ne_eq, not_true_eq_false, if_false, or_self]
    ·rw [if_pos he, if_pos he]
   -- what is told is zero: no bits, or too few of them
   have hz : Hid (¬ ((peekM s a e n : Int) < n) → bitsAt (num s) a (peekM s a e n) = 0) := by
    intro h
    have : peekM s a e n = 0 := by
     unfold peekM at h ⊢
     split at h
     ·rename_i h2
      rw [if_pos h2]
      omega
     ·rename_i h2
      rw [if_neg h2]
    rw [this, bitsAt_zero]
   generalize peekM s a e n = p at *
   generalize bitsAt (num s) a p = v at *
   by_cases he : e = 0
   ·subst he
    have h32 : ¬ 32 < n := by omega
    have HW := Lib.hid (well_yes g s a w hc)
    by_cases hpn : (p : Int) < n
    ·clear hc hb hpk hsk hok
     go_enter Tryz.func35, Tryz.ntmps35
     go_wp2_with (first | (go_at_call 57; refine (HW.out).mono ?_; rintro r w' ⟨rfl, rfl⟩) | (go_at_call 58; refine (HPK.out).mono ?_; rintro r w' ⟨rfl, d, rfl⟩) | (go_at_call 59; refine (HSK.out _).mono ?_; rintro r w' ⟨rfl, hc3, hg3⟩))
     go_ret
     rw [HM.out, bitsAt_zero, Nat.add_zero]
     refine ⟨rfl, ?_, grown_then (grown_drewN _ d _) hg3⟩
     rw [HA.out, HEE.out] at hc3
     exact hc3
    ·have hv := hz.out hpn
     subst hv
     clear hc hb hpk hsk hok
     go_enter Tryz.func35, Tryz.ntmps35
     go_wp2_with (first | (go_at_call 57; refine (HW.out).mono ?_; rintro r w' ⟨rfl, rfl⟩) | (go_at_call 58; refine (HPK.out).mono ?_; rintro r w' ⟨rfl, d, rfl⟩) | (go_at_call 59; refine (HSK.out _).mono ?_; rintro r w' ⟨rfl, hc3, hg3⟩))
     go_ret
     rw [HM.out, bitsAt_zero, Nat.add_zero]
     refine ⟨rfl, ?_, grown_then (grown_drewN _ d _) hg3⟩
     rw [HA.out, HEE.out] at hc3
     exact hc3
   ·have HW := Lib.hid (well_no g s a e he w hc)
    by_cases hpn : (p : Int) < n
    ·clear hc hb hpk hsk hok he
     go_enter Tryz.func35, Tryz.ntmps35
     go_wp2_with (first | (go_at_call 57; refine (HW.out).mono ?_; rintro r w' ⟨rfl, rfl⟩) | (go_at_call 58; refine (HPK.out).mono ?_; rintro r w' ⟨rfl, d, rfl⟩) | (go_at_call 59; refine (HSK.out _).mono ?_; rintro r w' ⟨rfl, hc3, hg3⟩))
     go_ret
     rw [HM.out, bitsAt_zero, Nat.add_zero]
     refine ⟨rfl, ?_, grown_then (grown_drewN _ d _) hg3⟩
     rw [HA.out, HEE.out] at hc3
     exact hc3
    ·have hv := hz.out hpn
     subst hv
     clear hc hb hpk hsk hok he
     go_enter Tryz.func35, Tryz.ntmps35
     go_wp2_with (first | (go_at_call 57; refine (HW.out).mono ?_; rintro r w' ⟨rfl, rfl⟩) | (go_at_call 58; refine (HPK.out).mono ?_; rintro r w' ⟨rfl, d, rfl⟩) | (go_at_call 59; refine (HSK.out _).mono ?_; rintro r w' ⟨rfl, hc3, hg3⟩))
     go_ret
     rw [HM.out, bitsAt_zero, Nat.add_zero]
     refine ⟨rfl, ?_, grown_then (grown_drewN _ d _) hg3⟩
     rw [HA.out, HEE.out] at hc3
     exact hc3

/-- What Bytes takes, from a byte's edge on. -/
def mayB (s : ByteArray) (b e : Nat) (n : Int) : Bool := decide (e = 0 ∧ 0 ≤ n ∧ n ≤ (s.size - b / 8 : Nat))
def pieceB (s : ByteArray) (b e : Nat) (n : Int) : ByteArray := if mayB s b e n then s.extract (b / 8) (b / 8 + n.toNat) else ⟨#[]⟩
def bytA (s : ByteArray) (b e : Nat) (n : Int) : Nat := if mayB s b e n then b + 8 * n.toNat else b
def bytE (s : ByteArray) (b e : Nat) (n : Int) : Nat := if e ≠ 0 then e else if n < 0 then 2 else if n ≤ (s.size - b / 8 : Nat) then 0 else 3
theorem align_8 (a : Nat) : alignA a 0 % 8 = 0 := by unfold alignA; rw [if_pos rfl]; omega
theorem bytes_any (g : Nat) (s : ByteArray) (a e : Nat) (n : Int) (hs : s.size ≤ 1000000) (ha : a ≤ 8 * s.size) (w : World) (hc : Rd 83 w g s a e) :
  Calls Tryz.prog 62 #[.pointer (some ⟨g, 0, none⟩), .int .i64 n] w fun r w' => r = .returned (.string (pieceB s (alignA a e) e n)) ∧ Rd 83 w' g s (bytA s (alignA a e) e n) (bytE s (alignA a e) e n) ∧ w.grownBy w' (some g) := by
 have hb := alignA_le s a e ha
 have h8 : e = 0 → alignA a e % 8 = 0 := fun h => by subst h; exact align_8 a
 have HAL := Lib.hid (align_any g s a e hs ha w hc)
 clear hc
 generalize alignA a e = b at *
 go_enter Tryz.func62, Tryz.ntmps62
 go_wp2_with fail
 refine (HAL.out).mono ?_; rintro r w1 ⟨rfl, hc, hg⟩
 have HG := Lib.hid hg
 have HC := Lib.hid hc
 clear hg HAL
 by_cases he : e = 0
 ·subst he
  have h8 := h8 rfl
  have HW := Lib.hid (well_yes g s b w1 hc)
  have HL := Lib.hid (left_any g s b 0 hs hb w1 hc)
  by_cases h0 : n < 0
  ·have hm : ¬ mayB s b 0 n = true := fun h => by
    have := of_decide_eq_true h
    omega
   have HP : Hid (pieceB s b 0 n = ⟨#[]⟩) := if_neg hm
   have HA : Hid (bytA s b 0 n = b) := if_neg hm
   have HE : Hid (bytE s b 0 n = 2) := by
    show _ = _
    unfold bytE
    rw [if_neg (by omega), if_pos h0]
   have c2 := hc.c2
   have f2 := hc.fr 2
   clear hc hm
   go_wp2_with (first | (go_at_call 57; refine (HW.out).mono ?_; rintro r w' ⟨rfl, rfl⟩))
   go_ret
   refine ⟨by rw [HP.out]; rfl, ?_, grown_then HG.out (grown_set _ g 2 _)⟩
   rw [HA.out, HE.out]
   exact HC.out.setErr 2
  ·obtain ⟨m, rfl⟩ := Int.eq_ofNat_of_zero_le (show 0 ≤ n by omega)
   have hq8 : (((8 * s.size - b : Nat) : Int)).tdiv 8 = ((s.size - b / 8 : Nat) : Int) := by rw [Int.tdiv_eq_ediv_of_nonneg (by omega)]; omega
   have hqb : ((b : Int)).tdiv 8 = ((b / 8 : Nat) : Int) := by rw [Int.tdiv_eq_ediv_of_nonneg (by omega)]; omega
   have hQb : s.size - b / 8 ≤ 1000000 := by omega
   by_cases hl : m ≤ s.size - b / 8
   ·have hm : mayB s b 0 (m : Nat) = true := decide_eq_true ⟨rfl, by omega, by omega⟩
    have HP : Hid (pieceB s b 0 (m : Nat) = s.extract (b / 8) (b / 8 + m)) := if_pos hm
    have HA : Hid (bytA s b 0 (m : Nat) = b + m * 8) := by
     show _ = _
     rw [show bytA s b 0 (m : Nat) = b + 8 * (m : Int).toNat from if_pos hm]
     omega
    have HE : Hid (bytE s b 0 (m : Nat) = 0) := by
     show _ = _
     unfold bytE
     rw [if_neg (by omega), if_neg (by omega), if_pos (by omega)]
    have c0 := hc.c0
    have c1 := hc.c1
    have f1 := hc.fr 1
    have hm8 : b + m * 8 ≤ 8 * s.size := by omega
    have hbm : b / 8 + m ≤ s.size := by omega
    generalize hLL : 8 * s.size - b = L at *
    generalize hQQ : s.size - b / 8 = Q at *
    generalize hBB : b / 8 = q at *
    have HLL := Lib.hid hLL
    have HQQ := Lib.hid hQQ
    have HBB := Lib.hid hBB
    clear hc hm h0 hLL hQQ hBB
    go_wp2_with (first | (go_at_call 57; refine (HW.out).mono ?_; rintro r w' ⟨rfl, rfl⟩) | (go_at_call 91; refine (HL.out).mono ?_; rintro r w' ⟨rfl, d, rfl⟩))
    go_ret
    refine ⟨by rw [HP.out]; rfl, ?_, grown_then HG.out (grown_then (grown_drewN _ d _) (grown_set _ g 1 _))⟩
    rw [HA.out, HE.out]
    exact (HC.out.drewN d).setAt (b + m * 8)
   ·have hm : ¬ mayB s b 0 (m : Nat) = true := fun h => by
     have := of_decide_eq_true h
     omega
    have HP : Hid (pieceB s b 0 (m : Nat) = ⟨#[]⟩) := if_neg hm
    have HA : Hid (bytA s b 0 (m : Nat) = b) := if_neg hm
    have HE : Hid (bytE s b 0 (m : Nat) = 3) := by
     show _ = _
     unfold bytE
     rw [if_neg (by omega), if_neg (by omega), if_neg (by omega)]
    have c2 := hc.c2
    have f2 := hc.fr 2
    generalize hLL : 8 * s.size - b = L at *
    generalize hQQ : s.size - b / 8 = Q at *
    clear hc hm h0 hLL hQQ
    go_wp2_with (first | (go_at_call 57; refine (HW.out).mono ?_; rintro r w' ⟨rfl, rfl⟩) | (go_at_call 91; refine (HL.out).mono ?_; rintro r w' ⟨rfl, d, rfl⟩))
    go_ret
    refine ⟨by rw [HP.out]; rfl, ?_, grown_then HG.out (grown_then (grown_drewN _ d _) (grown_set _ g 2 _))⟩
    rw [HA.out, HE.out]
    exact (HC.out.drewN d).setErr 3
 ·have HW := Lib.hid (well_no g s b e he w1 hc)
  have hm : ¬ mayB s b e n = true := fun h => he (of_decide_eq_true h).1
  have HP : Hid (pieceB s b e n = ⟨#[]⟩) := if_neg hm
  have HA : Hid (bytA s b e n = b) := if_neg hm
  have HE : Hid (bytE s b e n = e) := if_pos he
  clear hc hm he h8
  go_wp2_with (first | (go_at_call 57; refine (HW.out).mono ?_; rintro r w' ⟨rfl, rfl⟩))
  go_ret
  refine ⟨by rw [HP.out]; rfl, ?_, HG.out⟩
  rw [HA.out, HE.out]
  exact HC.out
end Go.Proofs.YtmkeicfklbepnaaGreat

namespace Go.Proofs.YtmkeicfklbepnaaGreat
open Go.RowKit Go.Joins

/-- Nothing but the blocks of S, and what is new, has turned. -/
structure Kept (S : Nat → Prop) (w w' : World) : Prop where
 os : w'.os = w.os
 tape : w'.tape = w.tape
 output : w'.output = w.output
 size : w.heap.size ≤ w'.heap.size
 block : ∀ i, i < w.heap.size → ¬ S i → w'.heap[i]? = w.heap[i]?
section
variable {S S' : Nat → Prop} {w w1 w2 : World}
theorem Kept.refl (S : Nat → Prop) (w : World) : Kept S w w := ⟨rfl, rfl, rfl, Nat.le_refl _, fun _ _ _ => rfl⟩
theorem Kept.then (h : Kept S w w1) (k : Kept S' w1 w2) (hs : ∀ i, i < w.heap.size → S' i → S i) : Kept S w w2 :=
 ⟨k.os.trans h.os, k.tape.trans h.tape, k.output.trans h.output, Nat.le_trans h.size k.size, fun i hi hn => (k.block i (Nat.lt_of_lt_of_le hi h.size) (fun e => hn (hs i hi e))).trans (h.block i hi hn)⟩
theorem Kept.more (h : Kept S w w1) (hs : ∀ i, S i → S' i) : Kept S' w w1 := ⟨h.os, h.tape, h.output, h.size, fun i hi hn => h.block i hi fun e => hn (hs i e)⟩
theorem kept_alloc (S : Nat → Prop) (w : World) (o : Obj) : Kept S w (w.alloc o) := ⟨rfl, rfl, rfl, by simp, fun i hi _ => Below.heap_alloc w o i hi⟩
theorem kept_drewN (S : Nat → Prop) (w : World) (n : Nat) : Kept S w (w.drewN n) := ⟨rfl, rfl, rfl, Nat.le_refl _, fun _ _ _ => rfl⟩
theorem kept_set (w : World) (g i : Nat) (v : Value) : Kept (fun j => j = g) w (w.setCell ⟨g, i, none⟩ v) :=
 ⟨rfl, rfl, rfl, by simp [World.setCell], fun k _ hne => Below.heap_setCell _ _ _ _ hne⟩
theorem kept_grown {row : Option Nat} (h : w.grownBy w1 row) : Kept (fun j => some j = row) w w1 := ⟨h.os, h.tape, h.output, h.size, fun i hi hn => h.block i hi hn⟩
theorem Kept.below {B : Nat} (h : Kept S w w1) (hs : ∀ i, S i → B ≤ i) (hB : B ≤ w.heap.size) : Below B w w1 :=
 ⟨h.os, h.tape, h.output, h.size, fun k hk => h.block k (by omega) fun e => by have := hs k e; omega⟩
theorem kept_below (h : Below w.heap.size w w1) : Kept S w w1 := ⟨h.os, h.tape, h.output, h.size, fun i hi _ => h.block i hi⟩
end

/-- A block that is the program's writer between its steps: k whole bytes of M, m bits behind them. -/
def Wr0 (w : World) (B g : Nat) (r : Option Nat) (M k m : Nat) : Prop :=
 ∃ v, w.heap[g]? = some (.cells #[v, .int .u64 (M / 256 ^ k : Nat), .int .i64 (m : Nat)] 40 (0, 0)) ∧ w.ownsRow B 5 1 v k (cells8 (le M k)) ∧ v.ownBlock = r ∧ B ≤ g
/-- The program's writer: L bits, which are the number M. -/
def Wr (w : World) (B g : Nat) (r : Option Nat) (M L : Nat) : Prop := M < 2 ^ L ∧ Wr0 w B g r M (L / 8) (L % 8)
/-- What a call of it does to memory. -/
def Upd (g : Nat) (r r' : Option Nat) (w w' : World) : Prop := Kept (fun i => i = g ∨ some i = r) w w' ∧ (r' = r ∨ ∃ j, r' = some j ∧ w.heap.size ≤ j)
theorem Upd.refl (g : Nat) (r : Option Nat) (w : World) : Upd g r r w w := ⟨Kept.refl _ _, .inl rfl⟩
theorem Upd.then {g : Nat} {r r1 r2 : Option Nat} {w w1 w2 : World} (h : Upd g r r1 w w1) (k : Upd g r1 r2 w1 w2) : Upd g r r2 w w2 := by
 refine ⟨h.1.then k.1 ?_, ?_⟩
 ·intro i hi hs
  rcases hs with hs | hs
  ·exact .inl hs
  ·rcases h.2 with e | ⟨j, e, hj⟩
   ·exact .inr (e ▸ hs)
   ·rw [e] at hs
    injection hs with hs
    omega
 ·rcases k.2 with e | ⟨j, e, hj⟩
  ·rcases h.2 with e' | ⟨j, e', hj⟩
   ·exact .inl (e.trans e')
   ·exact .inr ⟨j, e.trans e', hj⟩
  ·exact .inr ⟨j, e, Nat.le_trans h.1.size hj⟩

theorem lt_of_block' {w : World} {g : Nat} {o : Obj} (h : w.heap[g]? = some o) : g < w.heap.size := by
 rcases Nat.lt_or_ge g w.heap.size with hlt | hge
 ·exact hlt
 ·rw [Array.getElem?_eq_none hge] at h; cases h

/-- A row of bytes is no block of another make. -/
theorem row_ne {w : World} {B g n : Nat} {v : Value} {l : List Value} {cs : Array Value} {T : TypeId} (hT : T ≠ 5) (ho : w.ownsRow B 5 1 v n l) (hh : w.heap[g]? = some (.cells cs T (0, 0))) : v.ownBlock ≠ some g := by
 rcases ho.2 with ⟨rfl, _⟩ | ⟨g', cap, cur, rfl, _, hb, _⟩
 ·simp [Value.ownBlock]
 ·intro he
  have e : g' = g := by simpa [Value.ownBlock] using he
  subst e
  rw [hh] at hb
  simp at hb
  exact hT hb.2

/-- The row is kept where its block is. -/
theorem row_kept {w w' : World} {B n : Nat} {v : Value} {l : List Value} (ho : w.ownsRow B 5 1 v n l) (hk : ∀ g, v.ownBlock = some g → w'.heap[g]? = w.heap[g]?) : w'.ownsRow B 5 1 v n l := by
 refine ⟨ho.1, ?_⟩
 rcases ho.2 with ⟨rfl, h⟩ | ⟨g, cap, cur, rfl, hg, hb, h⟩
 ·exact .inl ⟨rfl, h⟩
 ·exact .inr ⟨g, cap, cur, rfl, hg, (hk g rfl).trans hb, h⟩

theorem le_step (M k : Nat) : cells8 (le M (k + 1)) = cells8 (le M k) ++ [.int .u8 ((M / 256 ^ k % 256 : Nat) : Int)] := by rw [le, cells8_app]; rfl

theorem or_walk2 (X x k : Nat) (hX : X < 2 ^ k) (hx : x < 4294967296) (hk : k < 8) : bits .or .u64 (X : Int) (IntKind.u64.wrap ((x : Int) * 2 ^ k)) = ((X + x * 2 ^ k : Nat) : Int) := by
 have hp : (2 : Nat) ^ k ≤ 128 := Nat.pow_le_pow_right (n := 2) (by omega) (show k ≤ 7 by omega)
 have h1 : x * 2 ^ k < 18446744073709551616 := by
  have : x * 2 ^ k ≤ 4294967296 * 128 := Nat.mul_le_mul (by omega) hp
  omega
 have e2 : ((x : Int) * 2 ^ k) = ((x * 2 ^ k : Nat) : Int) := by simp
 have h2 : IntKind.u64.wrap ((x : Int) * 2 ^ k) = ((x * 2 ^ k : Nat) : Int) := by
  rw [e2, IntKind.wrap_u64]
  omega
 rw [h2, u64_or_nat X _ (by omega) h1, or_step X x k hX]

theorem le_mod' (M N k : Nat) (h : M % 256 ^ k = N % 256 ^ k) : le M k = le N k := by
 induction k with
 | zero => rfl
 | succ k ih =>
  have hk : M % 256 ^ k = N % 256 ^ k := by
   have h1 := congrArg (· % 256 ^ k) h
   simpa [Nat.mod_mod_of_dvd _ (Nat.pow_dvd_pow 256 (Nat.le_succ k))] using h1
  rw [le, le, ih hk]
  have h1 := congrArg (· / 256 ^ k) h
  simp only [Nat.pow_succ, Nat.mod_mul_right_div_self] at h1
  rw [h1]
/-- A number of more bits behind: the whole bytes stay, and what is behind them grows. -/
theorem put_le (M L x : Nat) : le (M + x * 2 ^ L) (L / 8) = le M (L / 8) := by
 refine le_mod' _ _ _ ?_
 have e : (2 : Nat) ^ L = 256 ^ (L / 8) * 2 ^ (L % 8) := by rw [p256, ← Nat.pow_add, show 8 * (L / 8) + L % 8 = L by omega]
 rw [e, show x * (256 ^ (L / 8) * 2 ^ (L % 8)) = 256 ^ (L / 8) * (x * 2 ^ (L % 8)) from by ac_rfl, Nat.add_mul_mod_self_left]
theorem put_div (M L x : Nat) : (M + x * 2 ^ L) / 256 ^ (L / 8) = M / 256 ^ (L / 8) + x * 2 ^ (L % 8) := by
 have e : (2 : Nat) ^ L = 256 ^ (L / 8) * 2 ^ (L % 8) := by rw [p256, ← Nat.pow_add, show 8 * (L / 8) + L % 8 = L by omega]
 rw [e, show x * (256 ^ (L / 8) * 2 ^ (L % 8)) = 256 ^ (L / 8) * (x * 2 ^ (L % 8)) from by ac_rfl, Nat.add_mul_div_left _ _ (Nat.pow_pos (by omega))]
theorem put_lt (M L x n : Nat) (hM : M < 2 ^ L) (hx : x < 2 ^ n) : M + x * 2 ^ L < 2 ^ (L + n) := by
 have h : (x + 1) * 2 ^ L ≤ 2 ^ n * 2 ^ L := Nat.mul_le_mul_right _ hx
 rw [Nat.add_mul] at h
 rw [Nat.pow_add, Nat.mul_comm (2 ^ L)]
 omega
theorem div_lt (M k m : Nat) (hM : M < 2 ^ (8 * k + m)) : M / 256 ^ k < 2 ^ m := by
 rw [Nat.div_lt_iff_lt_mul (Nat.pow_pos (by omega)), p256, ← Nat.pow_add, Nat.add_comm]
 exact hM

theorem after_append {wr w2 : World} {g : Nat} {o : Obj} {v : Value} {cs : Array Value} {T : TypeId} (hb : wr.heap[g]? = some (.cells cs T (0, 0))) (hg : (wr.alloc o).drew.grownBy w2 v.ownBlock) (hne : v.ownBlock ≠ some g) : w2.heap[g]? = some (.cells cs T (0, 0)) :=
 (hg.block g (by have := lt_of_block' hb; simp; omega) (Ne.symm hne)).trans ((Below.heap_alloc wr o g (lt_of_block' hb)).trans hb)
/-- The loop's measure: how many bits stand behind the whole bytes. -/
def measW (g : Nat) (w : World) : Nat := match w.cell? ⟨g, 2, none⟩ with
 | some (.int _ z) => z.toNat
 | _ => 0
theorem measW_of {g : Nat} {w : World} {v q : Value} {m : Nat} {T : TypeId} (h : w.heap[g]? = some (.cells #[v, q, .int .i64 (m : Nat)] T (0, 0))) : measW g w = m := by
 unfold measW
 rw [cell_of_row w g 2 _ _ _ h]
 simp

/-- What Write puts behind. -/
def wM (M L v : Nat) (n : Int) : Nat := if 1 ≤ n ∧ n ≤ 32 then M + v % 2 ^ n.toNat * 2 ^ L else M
def wL (L : Nat) (n : Int) : Nat := if 1 ≤ n ∧ n ≤ 32 then L + n.toNat else L
set_option maxRecDepth 100000 in
set_option maxHeartbeats 8000000 in
theorem write_ok (B g : Nat) (r : Option Nat) (M L v n : Nat) (hL : L ≤ 1000000000) (hv : v < 4294967296) (hn : 1 ≤ n) (hn2 : n ≤ 32) (w : World) (hB : B ≤ w.heap.size) (hc : Wr w B g r M L) :
  Calls Tryz.prog 52 #[.pointer (some ⟨g, 0, none⟩), .int .u32 v, .int .i64 n] w fun e w' => e = .returned (.tuple #[]) ∧ ∃ r', Wr w' B g r' (M + v % 2 ^ n * 2 ^ L) (L + n) ∧ Upd g r r' w w' := by
 obtain ⟨hM, v0, hb0, ho0, hr0, hBg⟩ := hc
 have hx : v % 2 ^ n < 2 ^ n := Nat.mod_lt _ (Nat.two_pow_pos n)
 have hx32 : v % 2 ^ n < 4294967296 := Nat.lt_of_le_of_lt (Nat.mod_le _ _) hv
 have HLT := Lib.hid (put_lt M L _ n hM hx)
 have HLE := Lib.hid (put_le M L (v % 2 ^ n))
 have hdl := div_lt M (L / 8) (L % 8) (by rw [show 8 * (L / 8) + L % 8 = L by omega]; exact hM)
 have HOR := Lib.hid (or_walk2 _ _ _ hdl hx32 (Nat.mod_lt _ (by omega)))
 have HPD := Lib.hid (put_div M L (v % 2 ^ n))
 have hd64 : M / 256 ^ (L / 8) < 18446744073709551616 := Nat.lt_trans (Nat.lt_of_lt_of_le hdl (Nat.pow_le_pow_right (by omega) (show L % 8 ≤ 8 by omega))) (by decide)
 have HLow := Lib.hid (fun w => lowest_any v n (by omega) hn2 w)
 generalize hxx : v % 2 ^ n = x at *
 generalize hq : M / 256 ^ (L / 8) = q at *
 have hm : L % 8 < 8 := Nat.mod_lt _ (by omega)
 generalize hmm : L % 8 = m at *
 have c0 : w.cell? ⟨g, 0, none⟩ = some v0 := by rw [cell_of_row w g 0 _ _ _ hb0]; rfl
 have c1 : w.cell? ⟨g, 1, none⟩ = some (.int .u64 q) := by rw [cell_of_row w g 1 _ _ _ hb0]; rfl
 have c2 : w.cell? ⟨g, 2, none⟩ = some (.int .i64 m) := by rw [cell_of_row w g 2 _ _ _ hb0]; rfl
 have f1 : w.frozen? ⟨g, 1, none⟩ = false := frozen_of_row w g 1 _ _ hb0
 have f2 : w.frozen? ⟨g, 2, none⟩ = false := frozen_of_row w g 2 _ _ hb0
 have HB0 := Lib.hid hb0
 have HO0 := Lib.hid ho0
 have HmL := Lib.hid hmm
 clear hb0 ho0 hxx hq hmm hM hx hdl
 have hwv : IntKind.u64.wrap (v : Int) = v := by rw [IntKind.wrap_u64]; omega
 have hwx : IntKind.u64.wrap (x : Int) = x := by rw [IntKind.wrap_u64]; omega
 go_enter Tryz.func52, Tryz.ntmps52
 go_wp2
 go_still_tail 17, (by kernel_rfl)
 still_call ((HLow.out _).mono fun _ _ h => ⟨h.1, h.2.symm⟩)
 repeat still_step
 refine wpStill_nil ?_
 change wpList _ _ _ _ _ w.drew
 rw [HOR.out]
 replace c0 : w.drew.cell? ⟨g, 0, none⟩ = some v0 := c0
 replace c1 : w.drew.cell? ⟨g, 1, none⟩ = some (.int .u64 q) := c1
 replace c2 : w.drew.cell? ⟨g, 2, none⟩ = some (.int .i64 m) := c2
 replace f1 : w.drew.frozen? ⟨g, 1, none⟩ = false := f1
 replace f2 : w.drew.frozen? ⟨g, 2, none⟩ = false := f2
 have HK : Hid (Kept (fun i => i = g ∨ some i = r) w w.drew) := kept_drewN _ w 1
 replace HB0 : Hid (w.drew.heap[g]? = some (.cells #[v0, .int .u64 (q : Nat), .int .i64 (m : Nat)] 40 (0, 0))) := HB0
 replace HO0 : Hid (w.drew.ownsRow B 5 1 v0 (L / 8) (cells8 (le M (L / 8)))) := HO0.out.drew
 generalize w.drew = w1 at *
 go_wp2
 have HI : Hid (∃ k m' r', 8 * k + m' = L + n ∧ m' ≤ 39 ∧ Wr0 ((w1.setCell ⟨g, 1, none⟩ (.int .u64 ((q : Int) + (x : Int) * 2 ^ m))).setCell ⟨g, 2, none⟩ (.int .i64 ((m : Int) + (n : Int)))) B g r' (M + x * 2 ^ L) k m' ∧
   Upd g r r' w ((w1.setCell ⟨g, 1, none⟩ (.int .u64 ((q : Int) + (x : Int) * 2 ^ m))).setCell ⟨g, 2, none⟩ (.int .i64 ((m : Int) + (n : Int))))) := by
  have hne := row_ne (by decide) HO0.out HB0.out
  have hmL := HmL.out
  refine ⟨L / 8, m + n, r, by omega, by omega, ⟨v0, ?_, ?_, hr0, hBg⟩, (HK.out.then (kept_set _ g 1 _) (fun i _ e => .inl e)).then (kept_set _ g 2 _) (fun i _ e => .inl e), .inl rfl⟩
  ·rw [HPD.out]
   have h2 := heap_setCell_same (w1.setCell ⟨g, 1, none⟩ (.int .u64 ((q + x * 2 ^ m : Nat) : Int))) g 2 _ _ (.int .i64 ((m + n : Nat) : Int)) (heap_setCell_same w1 g 1 _ _ (.int .u64 ((q + x * 2 ^ m : Nat) : Int)) HB0.out)
   rw [show ((q : Int) + (x : Int) * 2 ^ m) = ((q + x * 2 ^ m : Nat) : Int) by simp, show ((m : Int) + (n : Int)) = ((m + n : Nat) : Int) by simp]
   exact h2
  ·rw [HLE.out]
   refine row_kept HO0.out fun b hb => ?_
   have hgb : b ≠ g := fun e => hne (by rw [hb, e])
   rw [Below.heap_setCell _ _ _ _ hgb, Below.heap_setCell _ _ _ _ hgb]
 generalize (w1.setCell ⟨g, 1, none⟩ (.int .u64 ((q : Int) + (x : Int) * 2 ^ m))).setCell ⟨g, 2, none⟩ (.int .i64 ((m : Int) + (n : Int))) = W2 at *
 obtain ⟨i0, hi, hz0, hz1, hz2⟩ := info_parts info8
 clear HB0 HO0 c0 c1 c2 f1 f2
 go_loopw [41] (fun _ wr => ∃ k m' r', 8 * k + m' = L + n ∧ m' ≤ 39 ∧ Wr0 wr B g r' (M + x * 2 ^ L) k m' ∧ Upd g r r' w wr) (fun _ wr => measW g wr)
 case atStart => exact HI.out
 case round =>
  obtain ⟨k, m', r', hkm, hm39, ⟨v', hb', ho', hr', _⟩, hU⟩ := hrel
  have hMM := HLT.out
  have hql : (M + x * 2 ^ L) / 256 ^ k < 2 ^ m' := div_lt _ k m' (by rw [hkm]; exact hMM)
  have hq64 : (M + x * 2 ^ L) / 256 ^ k < 18446744073709551616 := Nat.lt_trans (Nat.lt_of_lt_of_le hql (Nat.pow_le_pow_right (by omega) hm39)) (by decide)
  have HMM := Lib.hid hMM
  have HST := Lib.hid (le_step (M + x * 2 ^ L) k)
  have hdd : (M + x * 2 ^ L) / 256 ^ k / 256 = (M + x * 2 ^ L) / 256 ^ (k + 1) := by rw [Nat.div_div_eq_div_mul, Nat.pow_succ]
  have HDD := Lib.hid hdd
  clear hMM hql hdd
  generalize hNN : M + x * 2 ^ L = N at *
  have HNN := Lib.hid hNN
  clear hNN
  generalize hqq : N / 256 ^ k = y at *
  have HQ := Lib.hid hqq
  have hne := row_ne (by decide) ho' hb'
  have HM' := Lib.hid (measW_of hb')
  have HO := Lib.hid ho'
  have HB := Lib.hid hb'
  have HU := Lib.hid hU
  have c0 : wr.cell? ⟨g, 0, none⟩ = some v' := by rw [cell_of_row wr g 0 _ _ _ hb']; rfl
  have c1 : wr.cell? ⟨g, 1, none⟩ = some (.int .u64 y) := by rw [cell_of_row wr g 1 _ _ _ hb']; rfl
  have c2 : wr.cell? ⟨g, 2, none⟩ = some (.int .i64 m') := by rw [cell_of_row wr g 2 _ _ _ hb']; rfl
  clear hb' ho' hU hqq
  by_cases h8 : 8 ≤ m'
  ·have hkl : k ≤ 1000000032 := by omega
   obtain ⟨z, hz, hzy⟩ : ∃ z : Nat, IntKind.u8.wrap (y : Int) = (z : Int) ∧ y % 256 = z := ⟨y % 256, by rw [IntKind.wrap_u8]; omega, rfl⟩
   have HZ := Lib.hid hzy
   clear hzy
   go_wp2
   have c0a : (wr.alloc (.cells #[.int .u8 (z : Nat)] 5)).cell? ⟨g, 0, none⟩ = some v' := by rw [World.cell?_alloc_lt _ _ _ (lt_of_block' HB.out)]; exact c0
   go_region_law ((refine step_append_lies _ (by rfl) (.tmp 50) (.tmp 56) _ (by rfl) B 5 i0 (.int .u8 0) 1 1 Tryz.underlying37 hi hz0 hz1 hz2 rfl (by decide) v' k (cells8 (le N k)) (by rfl) (HO.out.alloc _).drew ⟨wr.heap.size, 0, none⟩ 1 1 [.int .u8 (z : Nat)] (by rfl) rfl (by exact World.news_of_block (heap_alloc_new _ _)) (by intro u hu; simp at hu; subst hu; rfl) (by omega) (by unfold maxLen; omega) (by omega) (by have := HU.out.1.size; simp; omega) (wr.heap.size + 1) (by simp) ?_; intro g2 cap w2 hown hgrow hat hlt; have hb2 := after_append HB.out hgrow hne; have k0 := cell_of_row w2 g 0 _ _ _ hb2; have kf := frozen_of_row w2 g 0 _ _ hb2))
   all_goals
    have hne2 := row_ne (by decide) hown hb2
    have hn2 : g2 ≠ g := fun e => hne2 (by simp [Value.ownBlock, e])
    have hb3 := heap_setCell_same w2 g 0 _ _ (.slice (some ⟨g2, 0, none⟩) (k + 1) cap) hb2
    have ho3 : (w2.setCell ⟨g, 0, none⟩ (.slice (some ⟨g2, 0, none⟩) (k + 1) cap)).ownsRow B 5 1 (.slice (some ⟨g2, 0, none⟩) (k + 1) cap) (k + 1) (cells8 (le N k) ++ [.int .u8 (z : Nat)]) :=
     row_kept hown fun b hb => Below.heap_setCell _ _ _ _ (by simp [Value.ownBlock] at hb; subst hb; exact hn2)
    have HU3 : Hid (Upd g r' (some g2) wr (w2.setCell ⟨g, 0, none⟩ (.slice (some ⟨g2, 0, none⟩) (k + 1) cap))) := by
     refine ⟨(((kept_alloc _ wr _).then (kept_drewN (fun i => i = g ∨ some i = r') _ 1) (fun _ _ e => e)).then (kept_grown hgrow) ?_).then (kept_set w2 g 0 _) (fun i _ e => .inl e), ?_⟩
     ·intro i _ e
      rw [hr'] at e
      exact .inr e
     ·rcases hat with e | e
      ·exact .inl (by rw [← e, hr'])
      ·exact .inr ⟨g2, rfl, by omega⟩
    generalize hw3 : w2.setCell ⟨g, 0, none⟩ (.slice (some ⟨g2, 0, none⟩) (k + 1) cap) = w3 at *
    have c1' : w3.cell? ⟨g, 1, none⟩ = some (.int .u64 y) := by rw [cell_of_row w3 g 1 _ _ _ hb3]; rfl
    have c2' : w3.cell? ⟨g, 2, none⟩ = some (.int .i64 m') := by rw [cell_of_row w3 g 2 _ _ _ hb3]; rfl
    have f1' : w3.frozen? ⟨g, 1, none⟩ = false := frozen_of_row w3 g 1 _ _ hb3
    have f2' : w3.frozen? ⟨g, 2, none⟩ = false := frozen_of_row w3 g 2 _ _ hb3
    have HB3 := Lib.hid hb3
    have HO3 := Lib.hid ho3
    clear hb3 ho3 hb2 hown hgrow hat hw3 k0 kf c0 c1 c2 c0a hlt
    go_wp2
    go_roundw
    case rel =>
     (repeat apply Exists.intro)
     refine ⟨⟨k + 1, m' - 8, some g2, by omega, by omega, ?_, HU.out.then ⟨(HU3.out.1.then (kept_set _ g 1 _) (fun i _ e => .inl e)).then (kept_set _ g 2 _) (fun i _ e => .inl e), HU3.out.2⟩⟩, rfl⟩
     have hd := HDD.out
     have e1 : ((y : Int) / 256) = ((N / 256 ^ (k + 1) : Nat) : Int) := by rw [← hd]; simp
     have e2 : ((m' : Int) - 8) = ((m' - 8 : Nat) : Int) := by omega
     refine ⟨.slice (some ⟨g2, 0, none⟩) (k + 1) cap, ?_, ?_, rfl, hBg⟩
     ·rw [e1, e2]
      exact heap_setCell_same _ g 2 _ _ _ (heap_setCell_same w3 g 1 _ _ _ HB3.out)
     ·rw [HST.out, HZ.out]
      exact row_kept HO3.out fun b hb => by
       have hbg : b ≠ g := by simp [Value.ownBlock] at hb; subst hb; exact hn2
       rw [Below.heap_setCell _ _ _ _ hbg, Below.heap_setCell _ _ _ _ hbg]
    case measure =>
     have e2 : ((m' : Int) - 8) = ((m' - 8 : Nat) : Int) := by omega
     rw [HM'.out, e2, measW_of (heap_setCell_same _ g 2 _ _ _ (heap_setCell_same w3 g 1 _ _ _ HB3.out))]
     omega
  ·go_wp2
   go_end0
   have hNN := HNN.out
   subst hNN
   obtain ⟨e1, e2⟩ : k = (L + n) / 8 ∧ m' = (L + n) % 8 := by omega
   refine ⟨rfl, r', ⟨HMM.out, ?_⟩, HU.out⟩
   rw [← e1, ← e2]
   exact ⟨v', by rw [HQ.out]; exact HB.out, HO.out, hr', hBg⟩
end Go.Proofs.YtmkeicfklbepnaaGreat
