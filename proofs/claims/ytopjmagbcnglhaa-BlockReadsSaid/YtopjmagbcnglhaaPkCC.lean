/-
  block: Size and Best.
  What two blocks, put one behind the other, are read as: by mathematics.
  Contracts: the document's counts; tokens as the document's; the chapter's examples.
-/
import Derived.Test.YtopjmagbcnglhaaBlkP
import Derived.Test.YtopjmagbcnglhaaRfO
import Derived.Test.YtopjmagbcnglhaaBlkD

namespace Go.Proofs.Ytopjmagbcnglhaa
set_option maxRecDepth 100000
open Go.RowKit Go.Joins Go.Deep

theorem fix15 : (∀ i, i < fixS.n → fixS.ls i ≤ 15) ∧ (∀ i, i < fixD.n → fixD.ls i ≤ 15) := ⟨bx_15, bd_15⟩
theorem dyn15 (f : Nat → Tok) (n : Nat) : (∀ i, i < (dynS f n).n → (dynS f n).ls i ≤ 15) ∧ (∀ i, i < (dynD f n).n → (dynD f n).ls i ≤ 15) :=
  ⟨fun i hi => dLS_le f n i (by have h1 : i < dHS f n := hi; have := dHS_bd f n; omega), fun i hi => dLD_le f n i (by have h1 : i < dHD f n := hi; have := dHD_bd f n; omega)⟩
theorem stB_len (s : ByteArray) (P : Bs) : (stB s P).2 = up8 P.2 + 16 + 16 + 8 * s.size := rfl
theorem blkB_le {k : Nat} {f : Nat → Tok} {n : Nat} {s : ByteArray} {last : Bool} {P : Bs} (hc : chkE (k : Nat) f n s = 0) (hn : n ≤ 100000) : (blkB k f n s last P).2 ≤ P.2 + 6000000 := by
  obtain ⟨k', hk, hk2, hr, hs⟩ := chk_zero hc
  obtain rfl : k = k' := by omega
  unfold blkB
  split
  · have := hs (by assumption)
    have h8 := up8_le ((P.app (wB (if last = true then 1 else 0) 1)).app (wB k 2)).2
    have e : ((P.app (wB (if last = true then 1 else 0) 1)).app (wB k 2)).2 = P.2 + 1 + 2 := rfl
    rw [stB_len]
    omega
  · split
    · have h1 := toksB_le fixS fixD f fix15.1 fix15.2 n
      have h2 := sgB_le fixS 256 fix15.1
      show P.2 + 1 + 2 + (toksB fixS fixD f n).2 + (sgB fixS 256).2 ≤ _
      omega
    · have h1 := toksB_le (dynS f n) (dynD f n) f (dyn15 f n).1 (dyn15 f n).2 n
      have h2 := sgB_le (dynS f n) 256 (dyn15 f n).1
      have h3 := dynB_le f n
      show P.2 + 1 + 2 + (dynB f n).2 + (toksB (dynS f n) (dynD f n) f n).2 + (sgB (dynS f n) 256).2 ≤ _
      omega
/-- How far the bits ahead reach into a byte. -/
def ahN (at_ : Int) : Nat := (at_.tmod 8).natAbs
theorem ahN_lt (x : Int) : ahN x ≤ 7 := by
  unfold ahN
  have h1 := Int.tmod_lt_of_pos x (show (0 : Int) < 8 by decide)
  have h2 := Int.lt_tmod_of_pos x (show (0 : Int) < 8 by decide)
  omega
noncomputable def sizeN (k : Nat) (f : Nat → Tok) (n : Nat) (s : ByteArray) (a : Nat) : Nat := (blkB k f n s false (Bs.app (0, 0) (wB 0 a))).2 - a
noncomputable def sizeV (kind : Int) (f : Nat → Tok) (n : Nat) (s : ByteArray) (x : Int) : Int := if chkE kind f n s = 0 then ((sizeN kind.toNat f n s (ahN x) : Nat) : Int) else 0
set_option maxHeartbeats 2000000 in
theorem size_any (kind : Int) (A : Option Addr) (n cap : Nat) (f : Nat → Tok) (s : ByteArray) (x : Int) (hn : n ≤ 100000) (w : World) (hT : Toks w A n f) :
    Calls Try.prog 9 #[.int .i64 kind, .slice A n cap, .string s, .int .i64 x] w fun e w' => e = .returned (.tuple #[.int .i64 (sizeV kind f n s x), .int .i64 (chkE kind f n s)]) ∧ Below w.heap.size w w' := by
  obtain ⟨a, ha⟩ : ∃ a, a = ahN x := ⟨_, rfl⟩
  have ha7 := ahN_lt x
  rw [← ha] at ha7
  obtain ⟨V, hV⟩ : ∃ V, V = sizeV kind f n s x := ⟨_, rfl⟩
  rw [← hV]
  obtain ⟨X, hX⟩ : ∃ X, X = chkE kind f n s := ⟨_, rfl⟩
  rw [← hX]
  unfold sizeV at hV
  rw [← ha, ← hX] at hV
  unfold ahN at ha
  have hzw : ∀ W : World, (zeroValue 32).run Try.prog W = .ok (.agg #[.slice none 0 0, .int .u64 0, .int .i64 0]) W := fun W => by kernel_rfl
  have hw0 : WrB (w.alloc (.cells #[.slice none 0 0, .int .u64 0, .int .i64 0] 32)) w.heap.size w.heap.size none (0, 0) := wr_new w w.heap.size (Nat.le_refl _)
  have hb0 : Below w.heap.size w (w.alloc (.cells #[.slice none 0 0, .int .u64 0, .int .i64 0] 32)) := (Below.refl _ _).alloc (Nat.le_refl _) _
  have hs0 : w.heap.size ≤ (w.alloc (.cells #[.slice none 0 0, .int .u64 0, .int .i64 0] 32)).heap.size := by simp
  have HWR := Lib.hid (write_b w.heap.size w.heap.size 0 a none (0, 0) (by show (0 : Nat) ≤ _; omega) (by omega) (by omega) _ hs0 hw0)
  rw [show ((0 : Nat) : Int) = 0 from rfl] at HWR
  have HT0 := Lib.hid ((hT.tokB (Nat.le_refl w.heap.size)).later hb0 (Nat.le_refl _))
  have HW0 := Lib.hid hw0
  have HB0 := Lib.hid hb0
  have HS0 := Lib.hid hs0
  have HV := Lib.hid hV
  have HX := Lib.hid hX
  have hr1 := Int.tmod_lt_of_pos x (show (0 : Int) < 8 by decide)
  have hr2 := Int.lt_tmod_of_pos x (show (0 : Int) < 8 by decide)
  clear hw0 hb0 hs0 hV hX hT
  have hmx : (if x.tmod 8 < wrap64 (-x.tmod 8) then wrap64 (-x.tmod 8) else x.tmod 8) = (a : Int) := by
    unfold wrap64
    split <;> omega
  clear hr1 hr2 ha
  go_enter Try.func9, Try.ntmps9
  go_upto_region 3 with fail
  try rw [hmx]
  clear hmx
  generalize w.alloc (.cells #[.slice none 0 0, .int .u64 0, .int .i64 0] 32) = w0 at *
  go_wp2_with fail
  (with_reducible refine (HWR.out).mono ?_); rintro e w1 ⟨rfl, r1, hw1, hu1⟩
  have HB1 : Hid (Below w.heap.size w w1) := Kept.below0 HS0.out HB0.out hu1.1 (Wr.ge HW0.out)
  have HT1 := Lib.hid (HT0.out.upd HW0.out hu1)
  have HS1 : Hid (w.heap.size ≤ w1.heap.size) := Nat.le_trans HS0.out hu1.1.size
  have HW1 := Lib.hid hw1
  clear hw1 hu1 HWR
  by_cases h0 : X = 0
  · subst h0
    obtain ⟨k, hk, hk2, _, _⟩ := chk_zero HX.out.symm
    subst hk
    have hV2 : V = ((sizeN k f n s a : Nat) : Int) := by
      have h := HV.out
      rw [if_pos rfl, Int.toNat_natCast] at h
      exact h
    have HP := Lib.hid (bput_any w.heap.size w.heap.size k A n cap f s false r1 _ hn (by show 0 + a ≤ _; omega) w1 HS1.out HT1.out HW1.out HX.out.symm)
    have hle := blkB_le (last := false) (P := Bs.app (0, 0) (wB 0 a)) HX.out.symm hn
    have hle2 : (blkB k f n s false (Bs.app (0, 0) (wB 0 a))).2 ≤ 7000000 := by
      have : (Bs.app (0, 0) (wB 0 a)).2 = 0 + a := rfl
      omega
    have hge : a ≤ (blkB k f n s false (Bs.app (0, 0) (wB 0 a))).2 := by
      have h9 : (Bs.app (0, 0) (wB 0 a)).2 = 0 + a := rfl
      unfold blkB
      split
      · rw [stB_len]
        have h8 := up8_ge (((Bs.app (0, 0) (wB 0 a)).app (wB (if false = true then 1 else 0) 1)).app (wB k 2)).2
        have e : (((Bs.app (0, 0) (wB 0 a)).app (wB (if false = true then 1 else 0) 1)).app (wB k 2)).2 = 0 + a + 1 + 2 := rfl
        omega
      · split
        · show a ≤ 0 + a + 1 + 2 + _ + _
          omega
        · show a ≤ 0 + a + 1 + 2 + _ + _ + _
          omega
    unfold sizeN at hV2
    generalize blkB k f n s false (Bs.app (0, 0) (wB 0 a)) = Q at *
    have HV2 := Lib.hid hV2
    clear hV2 hle
    go_wp2_with fail
    (with_reducible refine (HP.out).mono ?_); rintro e w2 ⟨rfl, r2, hw2, hu2⟩
    have HB2 : Hid (Below w.heap.size w w2) := Kept.below0 HS1.out HB1.out hu2.1 (Wr.ge HW1.out)
    have HLN := Lib.hid (wlen_any w.heap.size w.heap.size r2 Q.1 Q.2 (by omega) w2 hw2)
    clear hw2 hu2 HP
    have hsub : (Q.2 : Int) - (a : Int) = ((Q.2 - a : Nat) : Int) := by omega
    have hsw : IntKind.i64.wrap ((Q.2 : Int) - (a : Int)) = ((Q.2 - a : Nat) : Int) := by rw [IntKind.wrap_i64]; omega
    go_wp2_with fail
    (refine (HLN.out).mono ?_); rintro e w3 ⟨rfl, d3, rfl⟩
    have HB3 := Lib.hid (below_drewN HB2.out d3)
    go_wp2_with fail
    go_ret2
    exact ⟨by rw [HV2.out]; rfl, HB3.out⟩
  · have hV0 : V = 0 := by
      have h := HV.out
      rwa [if_neg h0] at h
    subst hV0
    have HP := Lib.hid (bput_bad w.heap.size kind A n cap f s false X h0 (by omega) w1 HT1.out.toks HX.out.symm)
    have hx' : (X == 0) = false := by rw [beq_eq_false_iff_ne]; exact h0
    clear h0
    go_wp2_with fail
    (with_reducible refine (HP.out).mono ?_); rintro e w2 ⟨rfl, hb2⟩
    have HB2 := Lib.hid (HB1.out.trans (hb2.mono HB1.out.size))
    clear hb2
    go_wp2_with fail
    go_ret2
    exact ⟨rfl, HB2.out⟩

/-- The best kind so far, and its size (-1: none). -/
noncomputable def bstN (f : Nat → Tok) (n : Nat) (s : ByteArray) (x : Int) : Nat → Nat × Int
  | 0 => (0, -1)
  | k + 1 => if chkE (k : Nat) f n s = 0 ∧ ((bstN f n s x k).2 < 0 ∨ sizeV (k : Nat) f n s x < (bstN f n s x k).2) then (k, sizeV (k : Nat) f n s x) else bstN f n s x k
end Go.Proofs.Ytopjmagbcnglhaa

namespace Go.Proofs.Ytopjmagbcnglhaa
set_option maxRecDepth 100000
set_option linter.unusedVariables false
open Go.RowKit Go.Joins Go.Deep
theorem up8_part (L : Nat) : up8 (L % 8 + 1 + 2) - L % 8 = up8 (L + 1 + 2) - L := by unfold up8; omega
/-- A block's bits are as many wherever it stands in a byte. -/
theorem size_at {k n : Nat} {f : Nat → Tok} {s : ByteArray} {P : Bs} : sizeN k f n s (P.2 % 8) = (blkB k f n s true P).2 - P.2 := by
  unfold sizeN blkB
  have h0 : (Bs.app (0, 0) (wB 0 (P.2 % 8))).2 = P.2 % 8 := Nat.zero_add _
  have hu := up8_part P.2
  by_cases hk : k = 0
  · rw [if_pos hk, if_pos hk, stB_len, stB_len]
    show up8 ((Bs.app (0, 0) (wB 0 (P.2 % 8))).2 + 1 + 2) + 16 + 16 + 8 * s.size - P.2 % 8 = up8 (P.2 + 1 + 2) + 16 + 16 + 8 * s.size - P.2
    rw [h0]
    have h1 := up8_ge (P.2 % 8 + 1 + 2)
    have h2 := up8_ge (P.2 + 1 + 2)
    omega
  · rw [if_neg hk, if_neg hk]
    by_cases h1 : k = 1
    · rw [if_pos h1, if_pos h1]
      show (Bs.app (0, 0) (wB 0 (P.2 % 8))).2 + 1 + 2 + (toksB fixS fixD f n).2 + (sgB fixS 256).2 - P.2 % 8 = P.2 + 1 + 2 + (toksB fixS fixD f n).2 + (sgB fixS 256).2 - P.2
      rw [h0]
      omega
    · rw [if_neg h1, if_neg h1]
      show (Bs.app (0, 0) (wB 0 (P.2 % 8))).2 + 1 + 2 + (dynB f n).2 + (toksB (dynS f n) (dynD f n) f n).2 + (sgB (dynS f n) 256).2 - P.2 % 8 = P.2 + 1 + 2 + (dynB f n).2 + (toksB (dynS f n) (dynD f n) f n).2 + (sgB (dynS f n) 256).2 - P.2
      rw [h0]
      omega
theorem blkB_ge (k n : Nat) (f : Nat → Tok) (s : ByteArray) (last : Bool) (P : Bs) : P.2 ≤ (blkB k f n s last P).2 := by
  unfold blkB
  split
  · rw [stB_len]
    show P.2 ≤ up8 (P.2 + 1 + 2) + 16 + 16 + 8 * s.size
    have := up8_ge (P.2 + 1 + 2)
    omega
  · split
    · show P.2 ≤ P.2 + 1 + 2 + _ + _
      omega
    · show P.2 ≤ P.2 + 1 + 2 + _ + _ + _
      omega
theorem blkB_small {k : Nat} {f : Nat → Tok} {n : Nat} {s : ByteArray} {last : Bool} {P : Bs} (hc : chkE (k : Nat) f n s = 0) (hn : n ≤ 1000) : (blkB k f n s last P).2 ≤ P.2 + 600000 := by
  obtain ⟨k', hk, hk2, hr, hs⟩ := chk_zero hc
  obtain rfl : k = k' := by omega
  unfold blkB
  split
  · have := hs (by assumption)
    have h8 := up8_le ((P.app (wB (if last = true then 1 else 0) 1)).app (wB k 2)).2
    have e : ((P.app (wB (if last = true then 1 else 0) 1)).app (wB k 2)).2 = P.2 + 1 + 2 := rfl
    rw [stB_len]
    omega
  · split
    · have h1 := toksB_le fixS fixD f fix15.1 fix15.2 n
      have h2 := sgB_le fixS 256 fix15.1
      show P.2 + 1 + 2 + (toksB fixS fixD f n).2 + (sgB fixS 256).2 ≤ _
      omega
    · have h1 := toksB_le (dynS f n) (dynD f n) f (dyn15 f n).1 (dyn15 f n).2 n
      have h2 := sgB_le (dynS f n) 256 (dyn15 f n).1
      have h3 := dynB_le f n
      show P.2 + 1 + 2 + (dynB f n).2 + (toksB (dynS f n) (dynD f n) f n).2 + (sgB (dynS f n) 256).2 ≤ _
      omega
theorem sizeV_at {k n : Nat} {f : Nat → Tok} {s : ByteArray} {P : Bs} (hc : chkE (k : Nat) f n s = 0) : sizeV (k : Nat) f n s (P.2 : Nat) = (((blkB k f n s true P).2 - P.2 : Nat) : Int) := by
  unfold sizeV
  have ha : ahN ((P.2 : Nat) : Int) = P.2 % 8 := by
    unfold ahN
    rw [Int.tmod_eq_emod_of_nonneg (by omega)]
    omega
  rw [if_pos hc, ha, Int.toNat_natCast, size_at]
theorem exp_right (f : Nat → Tok) : ∀ n, expE f n = 0 → ∀ i, i < n → rightT (f i) = true
  | 0, _, i, hi => by omega
  | n + 1, he, i, hi => by
    have he0 : expE f n = 0 := expE_pre f (n + 1) n (by omega) he
    by_cases e : i = n
    · subst e
      rw [expE, if_pos he0] at he
      exact (fits_zero he).1
    · exact exp_right f n he0 i (by omega)
theorem chk_exp {f : Nat → Tok} {n k : Nat} {s : ByteArray} (he : expE f n = 0) (hk : k ≤ 2) (hs : s.size ≤ 65535) : chkE (k : Nat) f n s = 0 := by
  unfold chkE
  rw [if_neg (by omega), if_pos (fun i hi => exp_right f n he i hi), if_neg (by omega)]
theorem wr_later {w w' : World} {B g : Nat} {r : Option Nat} {P : Bs} (h : WrB w B g r P) (hb : Below w.heap.size w w') : WrB w' B g r P := Wr.stay h fun i hi _ => hb.block i hi
theorem wr_same {w w' : World} {B g : Nat} {r : Option Nat} {P : Bs} (h : WrB w B g r P) (hb : w'.heap = w.heap) : WrB w' B g r P := Wr.stay h fun i hi _ => by rw [hb]
theorem below_dN {B : Nat} {a w : World} (h : Below B a w) (d : Nat) : Below B a (w.drewN d) := ⟨h.os, h.tape, h.output, h.size, h.block⟩
/-- What was written is there. -/
theorem has_done {P : Bs} (hw : WfB P) (lim : Int) : Has (srcR (text (le P.1 ((P.2 + 7) / 8))) lim) 0 P := by
  have hsz : (text (le P.1 ((P.2 + 7) / 8))).size = (P.2 + 7) / 8 := by rw [text_size, le_len]
  have hp : P.2 ≤ 8 * ((P.2 + 7) / 8) := by omega
  have hlt : P.1 < 2 ^ (8 * ((P.2 + 7) / 8)) := Nat.lt_of_lt_of_le hw (Nat.pow_le_pow_right (by omega) hp)
  refine ⟨?_, ?_⟩
  · show num (text (le P.1 ((P.2 + 7) / 8))) / 2 ^ 0 % 2 ^ P.2 = P.1
    rw [num_text, Nat.mod_eq_of_lt hlt, Nat.pow_zero, Nat.div_one, Nat.mod_eq_of_lt hw]
  · show 0 + P.2 ≤ 8 * (text (le P.1 ((P.2 + 7) / 8))).size
    rw [hsz]
    omega
theorem blkT_text {k n : Nat} {f : Nat → Tok} (he : expE f n = 0) (hb : ∀ i, i < n → (f i).b < 256) : blkT k f n (text (expO f n)) = expO f n := by
  unfold blkT
  split
  · exact nums_text _ (expO_lt f n hb)
  · rfl
theorem two_blocks {k1 k2 n1 n2 : Nat} {f1 f2 : Nat → Tok} (h1 : k1 ≤ 2) (h2 : k2 ≤ 2) (e1 : expE f1 n1 = 0) (e2 : expE f2 n2 = 0) (b1 : ∀ i, i < n1 → (f1 i).b < 256) (b2 : ∀ i, i < n2 → (f2 i).b < 256) (s1 : (expO f1 n1).length ≤ 20000) (s2 : (expO f2 n2).length ≤ 20000) :
    inflM (srcR (text (le (blkB k2 f2 n2 (text (expO f2 n2)) true (blkB k1 f1 n1 (text (expO f1 n1)) false (0, 0))).1 (((blkB k2 f2 n2 (text (expO f2 n2)) true (blkB k1 f1 n1 (text (expO f1 n1)) false (0, 0))).2 + 7) / 8))) 50000) 0 [] =
      .ok ((), (blkB k2 f2 n2 (text (expO f2 n2)) true (blkB k1 f1 n1 (text (expO f1 n1)) false (0, 0))).2, expO f1 n1 ++ expO f2 n2) := by
  have w1 : WfB (blkB k1 f1 n1 (text (expO f1 n1)) false (0, 0)) := wf_blkB _ _ _ _ _ wf_nil
  have w2 := wf_blkB k2 f2 n2 (text (expO f2 n2)) true w1
  have hh := has_done w2 50000
  have t1 := blkT_text (k := k1) e1 b1
  have t2 := blkT_text (k := k2) e2 b2
  obtain ⟨g1, g2⟩ := has_block (o := expO f1 n1) w1 h2 (fun _ => by rw [text_size]; omega) (fun _ i hi => ⟨exp_right f2 n2 e2 i hi, b2 i hi⟩) (fun _ => e2) (by rw [t2]; show _ ≤ (50000 : Int).toNat; omega) hh
  obtain ⟨_, g4⟩ := has_block (o := []) wf_nil h1 (fun _ => by rw [text_size]; omega) (fun _ i hi => ⟨exp_right f1 n1 e1 i hi, b1 i hi⟩) (fun _ => e1) (by rw [t1]; show 0 + _ ≤ (50000 : Int).toNat; omega) g1
  rw [t1] at g4
  rw [t2] at g2
  exact infl_two g4 g2
end Go.Proofs.Ytopjmagbcnglhaa

namespace Go.Proofs.Ytopjmagbcnglhaa
set_option maxRecDepth 100000
open Go.Joins Go.RowKit Go.Deep

set_option maxHeartbeats 8000000 in
theorem to8_any (A : Option Addr) (n cap : Nat) (f : Nat → Tok) (w : World) (hT : Toks w A n f) (hn : n ≤ 5864062014634) :
    Calls Try.prog 6 #[.slice A n cap] w fun e w' => ∃ A2 c2, e = .returned (.slice A2 n c2) ∧ Toks w' A2 n f ∧ Below w.heap.size w w' := by
  obtain ⟨i0, hi, hz0, hz1, hz2⟩ := info_parts info_rtok3
  have hit := info_tok
  have HT := Lib.hid hT
  clear hT
  go_enter Try.func6, Try.ntmps6
  go_wp2_with fail
  go_loopw [3, 8] (fun v i wr => ∃ k : Nat, k ≤ n ∧ i = .int .i64 (k : Nat) ∧ Hid (wr.ownsRow w.heap.size 46 3 v k (tokCells f k)) ∧ Hid (Below w.heap.size w wr)) (fun _ i _ => n - (intOf i).toNat)
  case atStart => exact ⟨0, Nat.zero_le _, rfl, World.ownsRow_nil _ _ _ _, Below.refl _ _⟩
  case round =>
    obtain ⟨k, hk, rfl, HO, HB⟩ := hrel
    have HTS : Hid (tokCells f (k + 1) = tokCells f k ++ cellT (f k)) := rfl
    obtain ⟨A2, cp2, rfl⟩ := row_slice' HO.out
    by_cases hkn : k < n
    · obtain ⟨b, off, rfl, hbl, hc⟩ := (HT.out.below (Nat.le_refl _) HB.out) (by omega)
      obtain ⟨hok, c0, c1, c2⟩ := hc k hkn
      clear hc hok
      generalize f k = T at *
      obtain ⟨tb, tl, td⟩ := T
      dsimp only at c0 c1 c2
      have hx5 := heap_alloc_new (wr.alloc (.cells #[.int .u8 (tb : Nat), .int .i64 tl, .int .i64 td] 48)) (.cells #[.int .u8 (tb : Nat), .int .i64 tl, .int .i64 td] 46)
      have hs4 : (wr.alloc (.cells #[.int .u8 (tb : Nat), .int .i64 tl, .int .i64 td] 48)).heap.size = wr.heap.size + 1 := by simp
      have hs5 : ((wr.alloc (.cells #[.int .u8 (tb : Nat), .int .i64 tl, .int .i64 td] 48)).alloc (.cells #[.int .u8 (tb : Nat), .int .i64 tl, .int .i64 td] 46)).heap.size = wr.heap.size + 2 := by simp
      have hb5 : Below w.heap.size w ((wr.alloc (.cells #[.int .u8 (tb : Nat), .int .i64 tl, .int .i64 td] 48)).alloc (.cells #[.int .u8 (tb : Nat), .int .i64 tl, .int .i64 td] 46)) := (HB.out.alloc HB.out.size _).alloc (by have := HB.out.size; simp; omega) _
      have ho5 := (HO.out.alloc (.cells #[.int .u8 (tb : Nat), .int .i64 tl, .int .i64 td] 48)).alloc (.cells #[.int .u8 (tb : Nat), .int .i64 tl, .int .i64 td] 46)
      rw [hs4] at hx5
      have HX5 := Lib.hid hx5
      have HS5 := Lib.hid hs5
      have HB5 := Lib.hid hb5
      have HO5 := Lib.hid ho5
      clear hx5 hs5 hs4 hb5 ho5
      go_wp2_with (at_builtin; go_must (refine wpList_append_own_at _ rfl (.tmp 12) (.tmp 14) _ rfl w.heap.size 46 i0 (.agg #[.int .u8 0, .int .i64 0, .int .i64 0]) 3 24 Try.underlying26 hi hz0 hz1 hz2 rfl (by decide) (.slice A2 k cp2) k _ rfl HO5.out ⟨wr.heap.size + 1, 0, none⟩ 1 1 [.int .u8 (tb : Nat), .int .i64 tl, .int .i64 td] rfl rfl (cells3 HX5.out) (cellT_one ⟨tb, tl, td⟩) (by unfold maxLen; omega) (by omega) (by have h1 := HB.out.size; have h3 := HS5.out; omega) ?_; intro v' w6 hown' hgrow hnil hloc; have HO6 := Lib.hid hown'; have HB6 := Lib.hid (HB5.out.grown hgrow (by have h1 := HB.out.size; have h3 := HS5.out; omega) (fun j hj => (HO.out.lt j hj).1)); clear hown' hgrow hnil hloc))
      go_roundw
      case rel =>
        refine ⟨k + 1, by omega, by go_num, ?_, HB6⟩
        show World.ownsRow _ _ _ _ _ _ _
        rw [HTS.out]
        exact HO6.out
      case measure => simp [intOf]; omega
    · obtain rfl : k = n := by omega
      have HTT := Lib.hid (toks_of_own HO.out (fun i hi => by
        obtain ⟨_, _, _, _, hc⟩ := HT.out (by omega)
        exact (hc i hi).1))
      go_wp2
      go_ret
      exact ⟨A2, cp2, rfl, HTT.out, HB.out⟩
theorem ex_len : lenT 11 = (265, 1, 0) := by decide +kernel
theorem ex_dst : dstT 5 = (4, 1, 0) := by decide +kernel
set_option maxHeartbeats 4000000 in
theorem awake8_any (w : World) : Calls Try.prog 4 #[] w fun e w' => e = .returned (.bool true) ∧ w = w' := by
  have h1 := blen_any 11 w
  have h2 := bdist_any 5 w
  rw [ex_len] at h1
  rw [ex_dst] at h2
  have H1 := Lib.hid h1
  have H2 := Lib.hid h2
  clear h1 h2
  go_enter Try.func4, Try.ntmps4
  go_wp2_with fail
  refine (H1.out).mono ?_; rintro e w1 ⟨rfl, rfl⟩
  go_wp2_with fail
  refine (H2.out).mono ?_; rintro e w1 ⟨rfl, rfl⟩
  go_wp2
  go_ret
  exact ⟨rfl, rfl⟩
end Go.Proofs.Ytopjmagbcnglhaa
