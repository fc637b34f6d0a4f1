/-
 What comes again in a text that begins with a triple, three times in a row.
 block: Size and Best.
 Contracts: the document's counts; tokens as the document's; the chapter's examples.
 BlockSizes: the statement's own right, the document's StoredBits and Fixed; the sizes of stored and fixed blocks; which kind is best.
 Layer 9: what Find's tokens are in bytes; one part; few tokens of one byte again and again.
-/
import Derived.Test.YtmkeicfklbepnaaGreatPkCI
import Derived.Test.YtmkeicfklbepnaaGreatPkCG
import Derived.Test.YtmkeicfklbepnaaGreatBlkD

namespace Go.Proofs.YtmkeicfklbepnaaGreat
set_option maxRecDepth 100000
open Go.Joins Go.RowKit Go.Deep

/-- A triple as a text. -/
def tri (x y z : Nat) : ByteArray := text [x, y, z]
def nine (T : ByteArray) : ByteArray := T ++ T ++ T ++ T ++ T ++ T ++ T ++ T ++ T
end Go.Proofs.YtmkeicfklbepnaaGreat

namespace Go.Proofs.YtmkeicfklbepnaaGreat
set_option maxRecDepth 100000
open Go.RowKit Go.Joins Go.Deep

theorem fix15 : (∀ i, i < fixS.n → fixS.ls i ≤ 15) ∧ (∀ i, i < fixD.n → fixD.ls i ≤ 15) := ⟨bx_15, bd_15⟩
theorem dyn15 (f : Nat → Tok) (n : Nat) : (∀ i, i < (dynS f n).n → (dynS f n).ls i ≤ 15) ∧ (∀ i, i < (dynD f n).n → (dynD f n).ls i ≤ 15) :=
 ⟨fun i hi => dLS_le f n i (by have h1 : i < dHS f n := hi; have := dHS_bd f n; omega), fun i hi => dLD_le f n i (by have h1 : i < dHD f n := hi; have := dHD_bd f n; omega)⟩
theorem stB_len (s : ByteArray) (P : Bs) : (stB s P).2 = up8 P.2 + 16 + 16 + 8 * s.size := rfl
theorem blkB_le {k : Nat} {f : Nat → Tok} {n : Nat} {s : ByteArray} {last : Bool} {P : Bs} (hc : chkE (k : Nat) f n s = 0) (hn : n ≤ 100000) : (blkB k f n s last P).2 ≤ P.2 + 6000000 := by
 obtain ⟨k', hk, hk2, hr, hs⟩ := chk_zero hc
 obtain rfl : k = k' := by omega
 unfold blkB
 split
 ·have := hs (by assumption)
  have h8 := up8_le ((P.app (wB (if last = true then 1 else 0) 1)).app (wB k 2)).2
  have e : ((P.app (wB (if last = true then 1 else 0) 1)).app (wB k 2)).2 = P.2 + 1 + 2 := rfl
  rw [stB_len]
  omega
 ·split
  ·have h1 := toksB_le fixS fixD f fix15.1 fix15.2 n
   have h2 := sgB_le fixS 256 fix15.1
   show P.2 + 1 + 2 + (toksB fixS fixD f n).2 + (sgB fixS 256).2 ≤ _
   omega
  ·have h1 := toksB_le (dynS f n) (dynD f n) f (dyn15 f n).1 (dyn15 f n).2 n
   have h2 := sgB_le (dynS f n) 256 (dyn15 f n).1
   have h3 := dynB_le f n
   show P.2 + 1 + 2 + (dynB f n).2 + (toksB (dynS f n) (dynD f n) f n).2 + (sgB (dynS f n) 256).2 ≤ _
   omega
/-- How far the bits ahead reach into a byte. -/
def ahN (at_ : Int) : Nat := (at_.tmod 8).natAbs
theorem ahN_lt (x : Int) : ahN x ≤ 7 := by
 unfold ahN
 have h1 := Int.tmod_lt_of_pos x (show (0 : Int) < 8 by decide)
 have h2 := Int.lt_tmod_of_pos x (show (0 : Int) < 8 by decide)
 omega
noncomputable def sizeN (k : Nat) (f : Nat → Tok) (n : Nat) (s : ByteArray) (a : Nat) : Nat := (blkB k f n s false (Bs.app (0, 0) (wB 0 a))).2 - a
noncomputable def sizeV (kind : Int) (f : Nat → Tok) (n : Nat) (s : ByteArray) (x : Int) : Int := if chkE kind f n s = 0 then ((sizeN kind.toNat f n s (ahN x) : Nat) : Int) else 0
set_option maxHeartbeats 2000000 in
theorem size_any (kind : Int) (A : Option Addr) (n cap : Nat) (f : Nat → Tok) (s : ByteArray) (x : Int) (hn : n ≤ 100000) (w : World) (hT : Toks w A n f) :
  Calls Tryz.prog 50 #[.int .i64 kind, .slice A n cap, .string s, .int .i64 x] w fun e w' => e = .returned (.tuple #[.int .i64 (sizeV kind f n s x), .int .i64 (chkE kind f n s)]) ∧ Below w.heap.size w w' := by
 obtain ⟨a, ha⟩ : ∃ a, a = ahN x := ⟨_, rfl⟩
 have ha7 := ahN_lt x
 rw [← ha] at ha7
 obtain ⟨V, hV⟩ : ∃ V, V = sizeV kind f n s x := ⟨_, rfl⟩
 rw [← hV]
 obtain ⟨X, hX⟩ : ∃ X, X = chkE kind f n s := ⟨_, rfl⟩
 rw [← hX]
 unfold sizeV at hV
 rw [← ha, ← hX] at hV
 unfold ahN at ha
 have hzw : ∀ W : World, (zeroValue 40).run Tryz.prog W = .ok (.agg #[.slice none 0 0, .int .u64 0, .int .i64 0]) W := fun W => by kernel_rfl
 have hw0 : WrB (w.alloc (.cells #[.slice none 0 0, .int .u64 0, .int .i64 0] 40)) w.heap.size w.heap.size none (0, 0) := wr_new w w.heap.size (Nat.le_refl _)
 have hb0 : Below w.heap.size w (w.alloc (.cells #[.slice none 0 0, .int .u64 0, .int .i64 0] 40)) := (Below.refl _ _).alloc (Nat.le_refl _) _
 have hs0 : w.heap.size ≤ (w.alloc (.cells #[.slice none 0 0, .int .u64 0, .int .i64 0] 40)).heap.size := by simp
 have HWR := Lib.hid (write_b w.heap.size w.heap.size 0 a none (0, 0) (by show (0 : Nat) ≤ _; omega) (by omega) (by omega) _ hs0 hw0)
 rw [show ((0 : Nat) : Int) = 0 from rfl] at HWR
 have HT0 := Lib.hid ((hT.tokB (Nat.le_refl w.heap.size)).later hb0 (Nat.le_refl _))
 have HW0 := Lib.hid hw0
 have HB0 := Lib.hid hb0
 have HS0 := Lib.hid hs0
 have HV := Lib.hid hV
 have HX := Lib.hid hX
 have hr1 := Int.tmod_lt_of_pos x (show (0 : Int) < 8 by decide)
 have hr2 := Int.lt_tmod_of_pos x (show (0 : Int) < 8 by decide)
 clear hw0 hb0 hs0 hV hX hT
 have hmx : (if x.tmod 8 < wrap64 (-x.tmod 8) then wrap64 (-x.tmod 8) else x.tmod 8) = (a : Int) := by
  unfold wrap64
  split <;> omega
 clear hr1 hr2 ha
 go_enter Tryz.func50, Tryz.ntmps50
 go_upto_region 3 with fail
 try rw [hmx]
 clear hmx
 generalize w.alloc (.cells #[.slice none 0 0, .int .u64 0, .int .i64 0] 40) = w0 at *
 go_wp2_with fail
 (with_reducible refine (HWR.out).mono ?_); rintro e w1 ⟨rfl, r1, hw1, hu1⟩
 have HB1 : Hid (Below w.heap.size w w1) := Kept.below0 HS0.out HB0.out hu1.1 (Wr.ge HW0.out)
 have HT1 := Lib.hid (HT0.out.upd HW0.out hu1)
 have HS1 : Hid (w.heap.size ≤ w1.heap.size) := Nat.le_trans HS0.out hu1.1.size
 have HW1 := Lib.hid hw1
 clear hw1 hu1 HWR
 by_cases h0 : X = 0
 ·subst h0
  obtain ⟨k, hk, hk2, _, _⟩ := chk_zero HX.out.symm
  subst hk
  have hV2 : V = ((sizeN k f n s a : Nat) : Int) := by
   have h := HV.out
   rw [if_pos rfl, Int.toNat_natCast] at h
   exact h
  have HP := Lib.hid (bput_any w.heap.size w.heap.size k A n cap f s false r1 _ hn (by show 0 + a ≤ _; omega) w1 HS1.out HT1.out HW1.out HX.out.symm)
  have hle := blkB_le (last := false) (P := Bs.app (0, 0) (wB 0 a)) HX.out.symm hn
  have hle2 : (blkB k f n s false (Bs.app (0, 0) (wB 0 a))).2 ≤ 7000000 := by
   have : (Bs.app (0, 0) (wB 0 a)).2 = 0 + a := rfl
   omega
  have hge : a ≤ (blkB k f n s false (Bs.app (0, 0) (wB 0 a))).2 := by
   have h9 : (Bs.app (0, 0) (wB 0 a)).2 = 0 + a := rfl
   unfold blkB
   split
   ·rw [stB_len]
    have h8 := up8_ge (((Bs.app (0, 0) (wB 0 a)).app (wB (if false = true then 1 else 0) 1)).app (wB k 2)).2
    have e : (((Bs.app (0, 0) (wB 0 a)).app (wB (if false = true then 1 else 0) 1)).app (wB k 2)).2 = 0 + a + 1 + 2 := rfl
    omega
   ·split
    ·show a ≤ 0 + a + 1 + 2 + _ + _
     omega
    ·show a ≤ 0 + a + 1 + 2 + _ + _ + _
     omega
  unfold sizeN at hV2
  generalize blkB k f n s false (Bs.app (0, 0) (wB 0 a)) = Q at *
  have HV2 := Lib.hid hV2
  clear hV2 hle
  go_wp2_with fail
  (with_reducible refine (HP.out).mono ?_); rintro e w2 ⟨rfl, r2, hw2, hu2⟩
  have HB2 : Hid (Below w.heap.size w w2) := Kept.below0 HS1.out HB1.out hu2.1 (Wr.ge HW1.out)
  have HLN := Lib.hid (wlen_any w.heap.size w.heap.size r2 Q.1 Q.2 (by omega) w2 hw2)
  clear hw2 hu2 HP
  have hsub : (Q.2 : Int) - (a : Int) = ((Q.2 - a : Nat) : Int) := by omega
  have hsw : IntKind.i64.wrap ((Q.2 : Int) - (a : Int)) = ((Q.2 - a : Nat) : Int) := by rw [IntKind.wrap_i64]; omega
  go_wp2_with fail
  (refine (HLN.out).mono ?_); rintro e w3 ⟨rfl, d3, rfl⟩
  have HB3 := Lib.hid (below_drewN HB2.out d3)
  go_wp2_with fail
  go_ret2
  exact ⟨by rw [HV2.out]; rfl, HB3.out⟩
 ·have hV0 : V = 0 := by
   have h := HV.out
   rwa [if_neg h0] at h
  subst hV0
  have HP := Lib.hid (bput_bad w.heap.size kind A n cap f s false X h0 (by omega) w1 HT1.out.toks HX.out.symm)
  have hx' : (X == 0) = false := by rw [beq_eq_false_iff_ne]; exact h0
  clear h0
  go_wp2_with fail
  (with_reducible refine (HP.out).mono ?_); rintro e w2 ⟨rfl, hb2⟩
  have HB2 := Lib.hid (HB1.out.trans (hb2.mono HB1.out.size))
  clear hb2
  go_wp2_with fail
  go_ret2
  exact ⟨rfl, HB2.out⟩

/-- The best kind so far, and its size (-1: none). -/
noncomputable def bstN (f : Nat → Tok) (n : Nat) (s : ByteArray) (x : Int) : Nat → Nat × Int
 | 0 => (0, -1)
 | k + 1 => if chkE (k : Nat) f n s = 0 ∧ ((bstN f n s x k).2 < 0 ∨ sizeV (k : Nat) f n s x < (bstN f n s x k).2) then (k, sizeV (k : Nat) f n s x) else bstN f n s x k
set_option maxHeartbeats 2000000 in
theorem best_any (A : Option Addr) (n cap : Nat) (f : Nat → Tok) (s : ByteArray) (x : Int) (hn : n ≤ 100000) (w : World) (hT : Toks w A n f) :
  Calls Tryz.prog 32 #[.slice A n cap, .string s, .int .i64 x] w fun e w' => e = .returned (.int .i64 ((bstN f n s x 3).1 : Nat)) ∧ Below w.heap.size w w' := by
 have HSZ := Lib.hid (fun k w1 (h : Below w.heap.size w w1) => size_any k A n cap f s x hn w1 (hT.below (Nat.le_refl _) h))
 clear hT
 go_enter Tryz.func32, Tryz.ntmps32
 go_wp2_with fail
 go_loopw [7, 8, 9] (fun vb vl vk wr => ∃ k : Nat, k ≤ 3 ∧ vb = .int .i64 ((bstN f n s x k).1 : Nat) ∧ vl = .int .i64 (bstN f n s x k).2 ∧ vk = .int .i64 (k : Nat) ∧ Hid (Below w.heap.size w wr)) (fun _ _ vk _ => 3 - (intOf vk).toNat)
 case atStart => exact ⟨0, Nat.zero_le _, rfl, rfl, rfl, Below.refl _ _⟩
 case round =>
  obtain ⟨k, hk, rfl, rfl, rfl, HB⟩ := hrel
  by_cases hk3 : k < 3
  ·have hkI : (k : Int) ≤ 2 := by omega
   have HS := Lib.hid (HSZ.out (k : Nat) wr HB.out)
   have HST := Lib.hid (show bstN f n s x (k + 1) = if chkE (k : Nat) f n s = 0 ∧ ((bstN f n s x k).2 < 0 ∨ sizeV (k : Nat) f n s x < (bstN f n s x k).2) then (k, sizeV (k : Nat) f n s x) else bstN f n s x k from rfl)
   generalize bstN f n s x k = N0 at *
   generalize sizeV (k : Nat) f n s x = V at *
   generalize chkE (k : Nat) f n s = X at *
   obtain ⟨b0, l0⟩ := N0
   dsimp only at *
   go_wp2_with fail
   (with_reducible refine (HS.out).mono ?_); rintro e w2 ⟨rfl, hb2⟩
   have HB2 := Lib.hid (HB.out.trans (hb2.mono HB.out.size))
   clear hb2 HS
   by_cases hX : X = 0
   ·by_cases hl : l0 < 0
    ·have HN : Hid (bstN f n s x (k + 1) = (k, V)) := HST.out.trans (if_pos ⟨hX, .inl hl⟩)
     subst hX
     go_wp2_with fail
     go_roundw
     case rel => exact ⟨k + 1, by omega, by rw [HN.out], by rw [HN.out], by go_num, HB2⟩
     case measure => simp [intOf]; omega
    ·by_cases hv : V < l0
     ·have HN : Hid (bstN f n s x (k + 1) = (k, V)) := HST.out.trans (if_pos ⟨hX, .inr hv⟩)
      subst hX
      go_wp2_with fail
      go_roundw
      case rel => exact ⟨k + 1, by omega, by rw [HN.out], by rw [HN.out], by go_num, HB2⟩
      case measure => simp [intOf]; omega
     ·have HN : Hid (bstN f n s x (k + 1) = (b0, l0)) := HST.out.trans (if_neg (by omega))
      subst hX
      go_wp2_with fail
      go_roundw
      case rel => exact ⟨k + 1, by omega, by rw [HN.out], by rw [HN.out], by go_num, HB2⟩
      case measure => simp [intOf]; omega
   ·have HN : Hid (bstN f n s x (k + 1) = (b0, l0)) := HST.out.trans (if_neg (by omega))
    have hx' : (X == 0) = false := by rw [beq_eq_false_iff_ne]; exact hX
    clear hX
    go_wp2_with fail
    go_roundw
    case rel => exact ⟨k + 1, by omega, by rw [HN.out], by rw [HN.out], by go_num, HB2⟩
    case measure => simp [intOf]; omega
  ·obtain rfl : k = 3 := by omega
   go_wp2_with fail
   go_ret
   exact ⟨rfl, HB.out⟩
end Go.Proofs.YtmkeicfklbepnaaGreat

namespace Go.Proofs.YtmkeicfklbepnaaGreat
set_option maxRecDepth 100000
open Go.Joins Go.RowKit Go.Deep

end Go.Proofs.YtmkeicfklbepnaaGreat

namespace Go.Proofs.YtmkeicfklbepnaaGreat
set_option maxRecDepth 100000
open Go.RowKit Go.Joins Go.Deep

def allR (f : Nat → Tok) (n : Nat) : Prop := ∀ i, i < n → rightT (f i) = true
/-! ## Sizes -/
def fxT (t : Tok) : Nat := if t.l = 0 then (if 144 ≤ t.b then 9 else 8) else (if 280 ≤ lsg t.l.toNat then 8 else 7) + (lenOf (lsg t.l.toNat)).2 + 5 + (distOf (dsg t.d.toNat)).2
def fxN (f : Nat → Tok) : Nat → Nat
 | 0 => 10
 | k + 1 => fxN f k + fxT (f k)
/-! ## The best kind -/
theorem chk_right {f : Nat → Tok} {n : Nat} {s : ByteArray} (hr : allR f n) (k : Nat) (hk : k ≤ 2) : chkE (k : Nat) f n s = if k = 0 ∧ 65535 < s.size then 5 else 0 := by
 unfold chkE
 rw [if_neg (by omega), if_pos (show ∀ i, i < n → rightT (f i) = true from hr)]
 by_cases h : k = 0 ∧ 65535 < s.size
 ·rw [if_pos h, if_pos ⟨by omega, h.2⟩]
 ·rw [if_neg h, if_neg (by omega)]
theorem chk_wrong {f : Nat → Tok} {n : Nat} {s : ByteArray} (hr : ¬ allR f n) (k : Nat) (hk : k ≤ 2) : chkE (k : Nat) f n s = 8 := by
 unfold chkE
 rw [if_neg (by omega), if_neg (show ¬ ∀ i, i < n → rightT (f i) = true from hr)]
theorem bst_wrong {f : Nat → Tok} {n : Nat} {s : ByteArray} (x : Int) (hr : ¬ allR f n) : ∀ k, k ≤ 3 → bstN f n s x k = (0, -1)
 | 0, _ => rfl
 | k + 1, hk => by
  rw [bstN, chk_wrong hr k (by omega), if_neg (by omega)]
  exact bst_wrong x hr k (by omega)
/-- What is known of the best so far. -/
theorem bst_ok {f : Nat → Tok} {n : Nat} {s : ByteArray} (x : Int) : ∀ k, k ≤ 3 →
  (bstN f n s x k = (0, -1) ∧ ∀ j : Nat, j < k → chkE (j : Nat) f n s ≠ 0) ∨
  ((bstN f n s x k).1 < k ∧ chkE ((bstN f n s x k).1 : Nat) f n s = 0 ∧ (bstN f n s x k).2 = sizeV ((bstN f n s x k).1 : Nat) f n s x ∧
   ∀ j : Nat, j < k → chkE (j : Nat) f n s = 0 → sizeV ((bstN f n s x k).1 : Nat) f n s x ≤ sizeV (j : Nat) f n s x ∧ (sizeV ((bstN f n s x k).1 : Nat) f n s x < sizeV (j : Nat) f n s x ∨ (bstN f n s x k).1 ≤ j))
 | 0, _ => .inl ⟨rfl, fun j h => by omega⟩
 | k + 1, hk => by
  have ih := bst_ok (f := f) (n := n) (s := s) x k (by omega)
  have hpos : ∀ j : Nat, 0 ≤ sizeV (j : Nat) f n s x := fun j => by unfold sizeV; split <;> omega
  rw [bstN]
  by_cases hc : chkE (k : Nat) f n s = 0 ∧ ((bstN f n s x k).2 < 0 ∨ sizeV (k : Nat) f n s x < (bstN f n s x k).2)
  ·rw [if_pos hc]
   refine .inr ⟨by show k < k + 1; omega, hc.1, rfl, fun j hj hcj => ?_⟩
   dsimp only
   by_cases e : j = k
   ·subst e; exact ⟨by omega, .inr (Nat.le_refl _)⟩
   ·rcases ih with ⟨h1, h2⟩ | ⟨h1, h2, h3, h4⟩
    ·exact absurd hcj (h2 j (by omega))
    ·have h5 := h4 j (by omega) hcj
     have h6 := hpos (bstN f n s x k).1
     rw [h3] at hc
     exact ⟨by omega, .inl (by omega)⟩
  ·rw [if_neg hc]
   rcases ih with ⟨h1, h2⟩ | ⟨h1, h2, h3, h4⟩
   ·refine .inl ⟨h1, fun j hj hcj => ?_⟩
    by_cases e : j = k
    ·subst e; rw [h1] at hc; exact hc ⟨hcj, .inl (by show (-1 : Int) < 0; omega)⟩
    ·exact h2 j (by omega) hcj
   ·refine .inr ⟨by omega, h2, h3, fun j hj hcj => ?_⟩
    by_cases e : j = k
    ·subst e
     have h6 := hpos (bstN f n s x j).1
     rw [h3] at hc
     exact ⟨by omega, .inr (by omega)⟩
    ·exact h4 j (by omega) hcj
end Go.Proofs.YtmkeicfklbepnaaGreat

namespace Go.Proofs.YtmkeicfklbepnaaGreat
set_option maxRecDepth 100000
open Go.RowKit Go.Joins Go.Deep

theorem wd_wid {t : Tok} (h : rightT t = true) : wdT t = (widT t).toNat := by
 unfold wdT widT
 rw [if_pos h]
 by_cases h0 : t.l = 0
 ·rw [if_pos h0, h0]; rfl
 ·obtain ⟨_, h1, _, _⟩ := right_copy h h0
  rw [if_neg h0]
  omega
theorem found_right (s : ByteArray) (t k : Nat) (hs : s.size ≤ 10000) (h : Found s t k) (i : Nat) (hi : i < k) : rightT (tkT (bt s) s.size (befT (bt s) s.size) t i) = true := by
 obtain ⟨h1, _⟩ := tok_ok (bt s) s.size t _ (h.2 i hi) (by omega)
 exact (fits_zero h1).1
theorem found_wsum (s : ByteArray) (t k : Nat) (hs : s.size ≤ 10000) (h : Found s t k) : ∀ j, j ≤ k → wsum (tkT (bt s) s.size (befT (bt s) s.size) t) j = posT (bt s) s.size (befT (bt s) s.size) t j
 | 0, _ => rfl
 | j + 1, hj => by
  have ih := found_wsum s t k hs h j (by omega)
  have hr := found_right s t k hs h j (by omega)
  show wsum _ j + wdT _ = _
  rw [ih, posT, wd_wid hr]
  rfl
theorem found_sum (s : ByteArray) (t k : Nat) (hs : s.size ≤ 10000) (h : Found s t k) : wsum (tkT (bt s) s.size (befT (bt s) s.size) t) k = s.size := by
 rw [found_wsum s t k hs h k (Nat.le_refl _)]
 exact h.1
theorem spl_small (f : Nat → Tok) : ∀ k, wsum f k ≤ 32768 → spl f k = ([], 0, wsum f k)
 | 0, _ => rfl
 | k + 1, h => by
  have e : wsum f (k + 1) = wsum f k + wdT (f k) := rfl
  have ih := spl_small f k (by omega)
  rw [spl, ih, if_neg (by show ¬ 32768 < wsum f k + wdT (f k); omega)]
  rfl
theorem parts_small (f : Nat → Tok) (n : Nat) (h0 : n ≠ 0) (h : wsum f n ≤ 32768) : partsOf f n = [(0, n)] := by
 unfold partsOf
 rw [if_neg h0, spl_small f n h]
 rfl

/-! ## One byte again and again -/
/-! ## Deflate's answer -/
/-- How many tokens Find's answer has. -/
noncomputable def kT (s : ByteArray) (t : Nat) : Nat := Classical.epsilon (Found s t)
theorem kT_eq {s : ByteArray} {t k : Nat} (h : Found s t k) : kT s t = k := found_one s t _ _ (Classical.epsilon_spec ⟨k, h⟩) h
/-- The kind of a part's block. -/
noncomputable def kindF (level : Nat) (f : Nat → Tok) (n : Nat) (s : ByteArray) (x : Nat) : Nat := if level = 0 then 0 else (bstN f n s (x : Nat) 3).1
theorem kind_ok (level : Nat) (f : Nat → Tok) (n : Nat) (s : ByteArray) (x : Nat) (hr : ∀ i, i < n → rightT (f i) = true) (hs : s.size ≤ 65535) : chkE (kindF level f n s x : Nat) f n s = 0 ∧ kindF level f n s x ≤ 2 := by
 have h0 : chkE ((0 : Nat) : Int) f n s = 0 := by rw [chk_right hr 0 (by omega), if_neg (by omega)]
 unfold kindF
 by_cases hl : level = 0
 ·rw [if_pos hl]; exact ⟨h0, by omega⟩
 ·rw [if_neg hl]
  rcases bst_ok (f := f) (n := n) (s := s) (x : Nat) 3 (by omega) with ⟨_, h2⟩ | ⟨h1, h2, _, _⟩
  ·exact absurd h0 (h2 0 (by omega))
  ·exact ⟨h2, by omega⟩
noncomputable def dflB (s : ByteArray) (level : Nat) : Bs :=
 blkB (kindF level (tkT (bt s) s.size (befT (bt s) s.size) (triesOf level)) (kT s (triesOf level)) s 0) (tkT (bt s) s.size (befT (bt s) s.size) (triesOf level)) (kT s (triesOf level)) s true (0, 0)
noncomputable def dflT (s : ByteArray) (level : Nat) : ByteArray := text (le (dflB s level).1 (((dflB s level).2 + 7) / 8))
theorem blk_last (k : Nat) (f : Nat → Tok) (n : Nat) (s : ByteArray) (P : Bs) : (blkB k f n s true P).2 = (blkB k f n s false P).2 := by
 unfold blkB
 split
 ·rw [stB_len, stB_len]; rfl
 split <;> rfl
end Go.Proofs.YtmkeicfklbepnaaGreat
