/-
  BlockSizes: the statement's own right, the document's StoredBits and Fixed; the sizes of stored and fixed blocks; which kind is best.
  BlockSizes: the document's Fixed.
  BlockSizes: the statement's own walk.
-/
import Derived.Test.YtabpcipfijakjaaPkD
import Derived.Test.YtabpcipfijakjaaPkE

namespace Go.Proofs.Ytabpcipfijakjaa
set_option maxRecDepth 100000
open Go.RowKit Go.Joins Go.Deep

def allR (f : Nat → Tok) (n : Nat) : Prop := ∀ i, i < n → rightT (f i) = true
set_option maxHeartbeats 2000000 in
theorem right8_yes (A : Option Addr) (n cap : Nat) (f : Nat → Tok) (w : World) (hT : Toks w A n f) (hn : n ≤ 100000) (hr : allR f n) :
    Calls Try.prog 29 #[.slice A n cap] w fun e w' => e = .returned (.bool true) ∧ Below w.heap.size w w' := by
  have hit := info_tok
  have HT := Lib.hid hT
  have HR := Lib.hid hr
  clear hT hr
  go_enter Try.func29, Try.ntmps29
  go_wp2_with fail
  go_loopw [7] (fun i wr => ∃ k : Nat, k ≤ n ∧ i = .int .i64 (k : Nat) ∧ Hid (Below w.heap.size w wr)) (fun i _ => n - (intOf i).toNat)
  case atStart => exact ⟨0, Nat.zero_le _, rfl, Below.refl _ _⟩
  case round =>
    obtain ⟨k, hk, rfl, HB⟩ := hrel
    by_cases hkn : k < n
    · obtain ⟨b, off, rfl, hbl, hc⟩ := (HT.out.below (Nat.le_refl _) HB.out) (by omega)
      obtain ⟨_, c0, c1, c2⟩ := hc k hkn
      have HRT := Lib.hid (rright_any (f k))
      have hrk := HR.out k hkn
      have HBA := Lib.hid (HB.out.trans (((Below.refl wr.heap.size wr).alloc (Nat.le_refl _) (.cells #[.int .u8 ((f k).b : Nat), .int .i64 (f k).l, .int .i64 (f k).d] 70)).mono HB.out.size))
      rw [hrk] at HRT
      clear hc hrk
      generalize f k = U at *
      obtain ⟨tb, tl, td⟩ := U
      unfold valT at HRT
      dsimp only at *
      go_wp2_with fail
      generalize wr.alloc (.cells #[.int .u8 (tb : Nat), .int .i64 tl, .int .i64 td] 70) = w6 at *
      refine (HRT.out _).mono ?_; rintro e w7 ⟨rfl, hb7⟩
      have HB7 := Lib.hid (HBA.out.trans (hb7.mono HBA.out.size))
      clear hb7
      go_wp2_with fail
      go_roundw
      case rel => exact ⟨k + 1, by omega, by go_num, HB7⟩
      case measure => simp [intOf]; omega
    · obtain rfl : k = n := by omega
      go_wp2_with fail
      go_ret
      exact ⟨rfl, HB.out⟩
set_option maxHeartbeats 2000000 in
theorem right8_no (A : Option Addr) (n cap : Nat) (f : Nat → Tok) (w : World) (hT : Toks w A n f) (hn : n ≤ 100000) (hr : ¬ allR f n) :
    Calls Try.prog 29 #[.slice A n cap] w fun e w' => e = .returned (.bool false) ∧ Below w.heap.size w w' := by
  have hit := info_tok
  have HT := Lib.hid hT
  have HR := Lib.hid hr
  clear hT hr
  go_enter Try.func29, Try.ntmps29
  go_wp2_with fail
  go_loopw [7] (fun i wr => ∃ k : Nat, k ≤ n ∧ i = .int .i64 (k : Nat) ∧ Hid (Below w.heap.size w wr) ∧ Hid (∀ j, j < k → rightT (f j) = true)) (fun i _ => n - (intOf i).toNat)
  case atStart => exact ⟨0, Nat.zero_le _, rfl, Below.refl _ _, fun j h => by omega⟩
  case round =>
    obtain ⟨k, hk, rfl, HB, HK⟩ := hrel
    by_cases hkn : k < n
    · obtain ⟨b, off, rfl, hbl, hc⟩ := (HT.out.below (Nat.le_refl _) HB.out) (by omega)
      obtain ⟨_, c0, c1, c2⟩ := hc k hkn
      have HRT := Lib.hid (rright_any (f k))
      have HSTEP : Hid (rightT (f k) = true → ∀ j, j < k + 1 → rightT (f j) = true) := fun h j hj => by
        by_cases e : j = k
        · subst e; exact h
        · exact HK.out j (by omega)
      have HBA := Lib.hid (HB.out.trans (((Below.refl wr.heap.size wr).alloc (Nat.le_refl _) (.cells #[.int .u8 ((f k).b : Nat), .int .i64 (f k).l, .int .i64 (f k).d] 70)).mono HB.out.size))
      clear hc
      generalize f k = U at *
      generalize hrt : rightT U = r at *
      clear hrt
      obtain ⟨tb, tl, td⟩ := U
      unfold valT at HRT
      dsimp only at *
      go_wp2_with fail
      generalize wr.alloc (.cells #[.int .u8 (tb : Nat), .int .i64 tl, .int .i64 td] 70) = w6 at *
      refine (HRT.out _).mono ?_; rintro e w7 ⟨rfl, hb7⟩
      have HB7 := Lib.hid (HBA.out.trans (hb7.mono HBA.out.size))
      clear hb7
      cases r with
      | false =>
        go_wp2_with fail
        go_ret
        exact ⟨rfl, HB7.out⟩
      | true =>
        go_wp2_with fail
        go_roundw
        case rel => exact ⟨k + 1, by omega, by go_num, HB7, HSTEP.out (by trivial)⟩
        case measure => simp [intOf]; omega
    · obtain rfl : k = n := by omega
      exact absurd HK.out HR.out
set_option maxHeartbeats 1000000 in
theorem rstored_any (m a : Nat) (ha : a ≤ 7) (hm : m ≤ 1000000) (w : World) :
    Calls Try.prog 30 #[.int .i64 (m : Nat), .int .i64 (a : Nat)] w fun e w' => e = .returned (.int .i64 ((up8 (a + 3) - a + 32 + 8 * m : Nat) : Int)) ∧ w' = w := by
  have h1 := up8_ge (a + 3)
  have h2 := up8_le (a + 3)
  have h3 := up8_mod (a + 3)
  generalize up8 (a + 3) = u at *
  go_enter Try.func30, Try.ntmps30
  go_wp2_with fail
  go_loopw [5] (fun v wr => ∃ k : Nat, 3 ≤ k ∧ a + k ≤ u ∧ v = .int .i64 (k : Nat) ∧ wr = w) (fun v _ => u - (intOf v).toNat)
  case atStart => exact ⟨3, Nat.le_refl _, by omega, rfl, rfl⟩
  case round =>
    obtain ⟨k, hk3, hku, rfl, rfl⟩ := hrel
    have hmod : ((a : Int) + (k : Int)).tmod 8 = (((a + k) % 8 : Nat) : Int) := by rw [Int.tmod_eq_emod_of_nonneg (by omega)]; omega
    by_cases he : a + k = u
    · have hz : (a + k) % 8 = 0 := by rw [he]; exact h3
      have hmz : ((a : Int) + (k : Int)).tmod 8 = 0 := by rw [hmod, hz]; rfl
      have hkk : k = u - a := by omega
      go_wp2_with fail
      go_ret
      exact ⟨by first | done | rfl | (congr 2; done) | (congr 2; omega) | (congr 3; omega), rfl⟩
    · have hz : (a + k) % 8 ≠ 0 := by omega
      have hmz : (((a : Int) + (k : Int)).tmod 8 == 0) = false := by rw [hmod, beq_eq_false_iff_ne]; omega
      go_wp2_with fail
      go_roundw
      case rel => exact ⟨k + 1, by omega, by omega, by go_num, by trivial⟩
      case measure => simp [intOf]; omega

/-! ## Sizes -/
theorem size_stored (f : Nat → Tok) (n : Nat) (s : ByteArray) (a : Nat) : sizeN 0 f n s a = up8 (a + 3) + 32 + 8 * s.size - a := by
  have e : sizeN 0 f n s a = up8 (0 + a + 1 + 2) + 16 + 16 + 8 * s.size - a := rfl
  rw [e, show 0 + a + 1 + 2 = a + 3 by omega]
def fxT (t : Tok) : Nat := if t.l = 0 then (if 144 ≤ t.b then 9 else 8) else (if 280 ≤ lsg t.l.toNat then 8 else 7) + (lenOf (lsg t.l.toNat)).2 + 5 + (distOf (dsg t.d.toNat)).2
def fxN (f : Nat → Tok) : Nat → Nat
  | 0 => 10
  | k + 1 => fxN f k + fxT (f k)
theorem fixS_len : ∀ i, i < 288 → (sgB fixS i).2 = if i < 144 then 8 else if i < 256 then 9 else if i < 280 then 7 else 8 := fun i hi => by
  unfold sgB
  rw [if_pos (show i < fixS.n from hi)]
  show (if i < 144 then 8 else if i < 256 then 9 else if i < 280 then 7 else if i < 288 then 8 else 0) = _
  (repeat' split) <;> omega
theorem fixD_len (i : Nat) (hi : i < 32) : (sgB fixD i).2 = 5 := by
  unfold sgB
  rw [if_pos (show i < fixD.n from hi)]
  show (if i < 32 then 5 else 0) = 5
  rw [if_pos hi]
theorem tok_fixed (t : Tok) (hb : t.b < 256) (hr : rightT t = true) : (tokB fixS fixD t).2 = fxT t := by
  unfold tokB fxT
  by_cases h0 : t.l = 0
  · rw [if_pos h0, if_pos h0, fixS_len _ (by omega)]
    (repeat' split) <;> omega
  · obtain ⟨_, h1, h2, h3, h4⟩ := right_copy hr h0
    have hl := lsg_ok t.l.toNat (by omega) (by omega)
    have hd := dsg_ok t.d.toNat (by omega) (by omega)
    rw [if_neg h0, if_neg h0]
    show (sgB fixS (lsg t.l.toNat)).2 + (lenOf (lsg t.l.toNat)).2 + (sgB fixD (dsg t.d.toNat)).2 + (distOf (dsg t.d.toNat)).2 = _
    rw [fixS_len _ (by omega), fixD_len _ (by omega)]
    (repeat' split) <;> omega
theorem toks_fixed (f : Nat → Tok) : ∀ k, (∀ i, i < k → (f i).b < 256 ∧ rightT (f i) = true) → 10 + (toksB fixS fixD f k).2 = fxN f k
  | 0, _ => rfl
  | k + 1, h => by
    have ih := toks_fixed f k fun i hi => h i (by omega)
    have h1 := tok_fixed (f k) (h k (by omega)).1 (h k (by omega)).2
    show 10 + ((toksB fixS fixD f k).2 + (tokB fixS fixD (f k)).2) = fxN f k + fxT (f k)
    omega
theorem size_fixed (f : Nat → Tok) (n : Nat) (s : ByteArray) (a : Nat) (h : ∀ i, i < n → (f i).b < 256 ∧ rightT (f i) = true) : sizeN 1 f n s a = fxN f n := by
  have e : sizeN 1 f n s a = 0 + a + 1 + 2 + (toksB fixS fixD f n).2 + (sgB fixS 256).2 - a := rfl
  have h1 := toks_fixed f n h
  have h2 := fixS_len 256 (by omega)
  rw [if_neg (by omega), if_neg (by omega), if_pos (by omega)] at h2
  omega

/-! ## The best kind -/
theorem chk_right {f : Nat → Tok} {n : Nat} {s : ByteArray} (hr : allR f n) (k : Nat) (hk : k ≤ 2) : chkE (k : Nat) f n s = if k = 0 ∧ 65535 < s.size then 5 else 0 := by
  unfold chkE
  rw [if_neg (by omega), if_pos (show ∀ i, i < n → rightT (f i) = true from hr)]
  by_cases h : k = 0 ∧ 65535 < s.size
  · rw [if_pos h, if_pos ⟨by omega, h.2⟩]
  · rw [if_neg h, if_neg (by omega)]
theorem chk_wrong {f : Nat → Tok} {n : Nat} {s : ByteArray} (hr : ¬ allR f n) (k : Nat) (hk : k ≤ 2) : chkE (k : Nat) f n s = 8 := by
  unfold chkE
  rw [if_neg (by omega), if_neg (show ¬ ∀ i, i < n → rightT (f i) = true from hr)]
theorem bst_wrong {f : Nat → Tok} {n : Nat} {s : ByteArray} (x : Int) (hr : ¬ allR f n) : ∀ k, k ≤ 3 → bstN f n s x k = (0, -1)
  | 0, _ => rfl
  | k + 1, hk => by
    rw [bstN, chk_wrong hr k (by omega), if_neg (by omega)]
    exact bst_wrong x hr k (by omega)
/-- What is known of the best so far. -/
theorem bst_ok {f : Nat → Tok} {n : Nat} {s : ByteArray} (x : Int) : ∀ k, k ≤ 3 →
    (bstN f n s x k = (0, -1) ∧ ∀ j : Nat, j < k → chkE (j : Nat) f n s ≠ 0) ∨
    ((bstN f n s x k).1 < k ∧ chkE ((bstN f n s x k).1 : Nat) f n s = 0 ∧ (bstN f n s x k).2 = sizeV ((bstN f n s x k).1 : Nat) f n s x ∧
      ∀ j : Nat, j < k → chkE (j : Nat) f n s = 0 → sizeV ((bstN f n s x k).1 : Nat) f n s x ≤ sizeV (j : Nat) f n s x ∧ (sizeV ((bstN f n s x k).1 : Nat) f n s x < sizeV (j : Nat) f n s x ∨ (bstN f n s x k).1 ≤ j))
  | 0, _ => .inl ⟨rfl, fun j h => by omega⟩
  | k + 1, hk => by
    have ih := bst_ok (f := f) (n := n) (s := s) x k (by omega)
    have hpos : ∀ j : Nat, 0 ≤ sizeV (j : Nat) f n s x := fun j => by unfold sizeV; split <;> omega
    rw [bstN]
    by_cases hc : chkE (k : Nat) f n s = 0 ∧ ((bstN f n s x k).2 < 0 ∨ sizeV (k : Nat) f n s x < (bstN f n s x k).2)
    · rw [if_pos hc]
      refine .inr ⟨by show k < k + 1; omega, hc.1, rfl, fun j hj hcj => ?_⟩
      dsimp only
      by_cases e : j = k
      · subst e; exact ⟨by omega, .inr (Nat.le_refl _)⟩
      · rcases ih with ⟨h1, h2⟩ | ⟨h1, h2, h3, h4⟩
        · exact absurd hcj (h2 j (by omega))
        · have h5 := h4 j (by omega) hcj
          have h6 := hpos (bstN f n s x k).1
          rw [h3] at hc
          exact ⟨by omega, .inl (by omega)⟩
    · rw [if_neg hc]
      rcases ih with ⟨h1, h2⟩ | ⟨h1, h2, h3, h4⟩
      · refine .inl ⟨h1, fun j hj hcj => ?_⟩
        by_cases e : j = k
        · subst e; rw [h1] at hc; exact hc ⟨hcj, .inl (by show (-1 : Int) < 0; omega)⟩
        · exact h2 j (by omega) hcj
      · refine .inr ⟨by omega, h2, h3, fun j hj hcj => ?_⟩
        by_cases e : j = k
        · subst e
          have h6 := hpos (bstN f n s x j).1
          rw [h3] at hc
          exact ⟨by omega, .inr (by omega)⟩
        · exact h4 j (by omega) hcj
end Go.Proofs.Ytabpcipfijakjaa

namespace Go.Proofs.Ytabpcipfijakjaa
set_option maxRecDepth 100000
open Go.RowKit Go.Joins Go.Deep

theorem lenof_le (x : Nat) (h1 : 257 ≤ x) (h2 : x ≤ 285) : (lenOf x).2 ≤ 5 := by
  by_cases h : x = 285
  · subst h; decide +kernel
  · have hs := lb_step x (by omega) h1
    rw [hs.2.2.2.2.2]
    exact hs.2.1
theorem distof_le (x : Nat) (h : x ≤ 29) : (distOf x).2 ≤ 13 := by
  have hs := fb_step x (by omega)
  rw [hs.2.2.2.2.2]
  exact hs.2.1
theorem fxT_le (t : Tok) (hr : rightT t = true) : fxT t ≤ 31 := by
  unfold fxT
  by_cases h0 : t.l = 0
  · rw [if_pos h0]; split <;> omega
  · obtain ⟨_, h1, h2, h3, h4⟩ := right_copy hr h0
    have hl := lsg_ok t.l.toNat (by omega) (by omega)
    have hd := dsg_ok t.d.toNat (by omega) (by omega)
    have k1 := lenof_le _ hl.1 hl.2.1
    have k2 := distof_le _ hd.1
    rw [if_neg h0]
    split <;> omega
theorem fxN_le (f : Nat → Tok) : ∀ k, (∀ i, i < k → rightT (f i) = true) → fxN f k ≤ 10 + 31 * k
  | 0, _ => Nat.le_refl _
  | k + 1, h => by
    have ih := fxN_le f k fun i hi => h i (by omega)
    have h1 := fxT_le (f k) (h k (by omega))
    show fxN f k + fxT (f k) ≤ _
    omega
set_option maxHeartbeats 8000000 in
theorem rfixed_any (A : Option Addr) (n cap : Nat) (f : Nat → Tok) (w : World) (hT : Toks w A n f) (hn : n ≤ 1000) (hr : allR f n) :
    Calls Try.prog 31 #[.slice A n cap] w fun e w' => e = .returned (.int .i64 (fxN f n : Nat)) ∧ Below w.heap.size w w' := by
  have hit := info_rtok
  have HT := Lib.hid hT
  have HR := Lib.hid hr
  clear hT hr
  go_enter Try.func31, Try.ntmps31
  go_wp2_with fail
  go_loopw [3, 14] (fun v i wr => ∃ k : Nat, k ≤ n ∧ i = .int .i64 (k : Nat) ∧ v = .int .i64 (fxN f k : Nat) ∧ Hid (Below w.heap.size w wr)) (fun _ i _ => n - (intOf i).toNat)
  case atStart => exact ⟨0, Nat.zero_le _, rfl, rfl, Below.refl _ _⟩
  case round =>
    obtain ⟨k, hk, rfl, rfl, HB⟩ := hrel
    have hle := fxN_le f k fun i hi => HR.out i (by omega)
    by_cases hkn : k < n
    · obtain ⟨b, off, rfl, hbl, hc⟩ := (HT.out.below (Nat.le_refl _) HB.out) (by omega)
      obtain ⟨hok, c0, c1, c2⟩ := hc k hkn
      have hrk := HR.out k hkn
      have hrc := fun h => right_copy (t := f k) hrk h
      have HFX := Lib.hid (show fxN f (k + 1) = fxN f k + fxT (f k) from rfl)
      have HFT := Lib.hid (show fxT (f k) = if (f k).l = 0 then (if 144 ≤ (f k).b then 9 else 8) else (if 280 ≤ lsg (f k).l.toNat then 8 else 7) + (lenOf (lsg (f k).l.toNat)).2 + 5 + (distOf (dsg (f k).d.toNat)).2 from rfl)
      have HBA := Lib.hid (HB.out.trans (((Below.refl wr.heap.size wr).alloc (Nat.le_refl _) (.cells #[.int .u8 ((f k).b : Nat), .int .i64 (f k).l, .int .i64 (f k).d] 75)).mono HB.out.size))
      clear hc hrk
      generalize hF1 : fxN f (k + 1) = F1 at *
      have HF1 := Lib.hid hF1
      clear hF1
      generalize fxN f k = F0 at *
      generalize fxT (f k) = T at *
      generalize f k = U at *
      obtain ⟨tb, tl, td⟩ := U
      dsimp only at *
      have htb := hok.1
      clear hok
      by_cases hl0 : tl = 0
      · subst hl0
        have hT0 := HFT.out.trans (if_pos rfl)
        by_cases h144 : 144 ≤ tb
        · have HS : Hid (F1 = F0 + 9) := by show _ = _; rw [HFX.out, hT0, if_pos h144]
          have g : decide ((144 : Int) ≤ (tb : Int)) = true := decide_eq_true (by omega)
          clear hT0 hrc
          go_wp2_with fail
          go_roundw
          case rel => exact ⟨k + 1, by omega, by go_num, by rw [HF1.out, HS.out]; go_num, HBA⟩
          case measure => simp [intOf]; omega
        · have HS : Hid (F1 = F0 + 8) := by show _ = _; rw [HFX.out, hT0, if_neg h144]
          have g : decide ((144 : Int) ≤ (tb : Int)) = false := decide_eq_false (by omega)
          clear hT0 hrc
          go_wp2_with fail
          go_roundw
          case rel => exact ⟨k + 1, by omega, by go_num, by rw [HF1.out, HS.out]; go_num, HBA⟩
          case measure => simp [intOf]; omega
      · obtain ⟨hb0, h3, h4, h5, h6⟩ := hrc hl0
        subst hb0
        obtain ⟨l, rfl⟩ : ∃ m : Nat, tl = (m : Nat) := ⟨tl.toNat, by omega⟩
        obtain ⟨d, rfl⟩ : ∃ m : Nat, td = (m : Nat) := ⟨td.toNat, by omega⟩
        have hT0 := HFT.out.trans (if_neg hl0)
        rw [Int.toNat_natCast, Int.toNat_natCast] at hT0
        have hlo := lsg_ok l (by omega) (by omega)
        have hdo := dsg_ok d (by omega) (by omega)
        have k1 := lenof_le _ hlo.1 hlo.2.1
        have k2 := distof_le _ hdo.1
        have hLL := fun W => rlen_any (l : Int) W
        simp only [lenT_in l (by omega)] at hLL
        have hDD := fun W => rdist_any (d : Int) ⟨by omega, by omega⟩ W
        simp only [dstT_in d (by omega)] at hDD
        have HLL := Lib.hid hLL
        have HDD := Lib.hid hDD
        have hxl := hlo.2.1
        clear hLL hDD hlo hdo hrc HFT
        generalize (lenOf (lsg l)).2 = E1 at *
        generalize (distOf (dsg d)).2 = E2 at *
        generalize lsg l = x at *
        generalize dsg d = y at *
        have hz : ((l : Int) == 0) = false := by rw [beq_eq_false_iff_ne]; omega
        by_cases h280 : 280 ≤ x
        · have HS : Hid (F1 = F0 + 7 + E1 + 5 + E2 + 1) := by show _ = _; rw [HFX.out, hT0, if_pos h280]; omega
          have g : decide ((280 : Int) ≤ (x : Int)) = true := decide_eq_true (by omega)
          clear hT0 hl0 h3 h4 h5 h6
          go_wp2_with fail
          refine (HLL.out _).mono ?_; rintro e w8 ⟨rfl, rfl⟩
          go_wp2_with fail
          refine (HDD.out _).mono ?_; rintro e w8 ⟨rfl, rfl⟩
          go_wp2_with fail
          go_roundw
          case rel => exact ⟨k + 1, by omega, by go_num, by rw [HF1.out, HS.out]; go_num, HBA⟩
          case measure => simp [intOf]; omega
        · have HS : Hid (F1 = F0 + 7 + E1 + 5 + E2) := by show _ = _; rw [HFX.out, hT0, if_neg h280]; omega
          have g : decide ((280 : Int) ≤ (x : Int)) = false := decide_eq_false (by omega)
          clear hT0 hl0 h3 h4 h5 h6
          go_wp2_with fail
          refine (HLL.out _).mono ?_; rintro e w8 ⟨rfl, rfl⟩
          go_wp2_with fail
          refine (HDD.out _).mono ?_; rintro e w8 ⟨rfl, rfl⟩
          go_wp2_with fail
          go_roundw
          case rel => exact ⟨k + 1, by omega, by go_num, by rw [HF1.out, HS.out]; go_num, HBA⟩
          case measure => simp [intOf]; omega
    · obtain rfl : k = n := by omega
      go_wp2_with fail
      go_ret
      exact ⟨rfl, HB.out⟩
end Go.Proofs.Ytabpcipfijakjaa

namespace Go.Proofs.Ytabpcipfijakjaa
set_option maxRecDepth 100000
open Go.RowKit Go.Joins Go.Deep

theorem chk_cases (kind : Int) (f : Nat → Tok) (n : Nat) (s : ByteArray) :
    ((kind < 0 ∨ 2 < kind) ∧ chkE kind f n s = 2) ∨ (0 ≤ kind ∧ kind ≤ 2 ∧ ¬ allR f n ∧ chkE kind f n s = 8) ∨
    (kind = 0 ∧ allR f n ∧ 65535 < s.size ∧ chkE kind f n s = 5) ∨ (0 ≤ kind ∧ kind ≤ 2 ∧ allR f n ∧ chkE kind f n s = 0) := by
  unfold chkE
  by_cases h1 : kind < 0 ∨ 2 < kind
  · exact .inl ⟨h1, if_pos h1⟩
  · rw [if_neg h1]
    by_cases hr : allR f n
    · rw [if_pos (show ∀ i, i < n → rightT (f i) = true from hr)]
      by_cases h2 : kind = 0 ∧ 65535 < s.size
      · rw [if_pos h2]; exact .inr (.inr (.inl ⟨h2.1, hr, h2.2, rfl⟩))
      · rw [if_neg h2]; exact .inr (.inr (.inr ⟨by omega, by omega, hr, rfl⟩))
    · rw [if_neg (show ¬ ∀ i, i < n → rightT (f i) = true from hr)]
      exact .inr (.inl ⟨by omega, by omega, hr, rfl⟩)
theorem put_sum (Bw gw : Nat) (kind : Int) (A : Option Addr) (n cap : Nat) (f : Nat → Tok) (s : ByteArray) (X : Int) (hX : X = chkE kind f n s) (hn : n ≤ 100000) (w0 w : World) (h0 : w0.heap.size = Bw) (hT : Toks w0 A n f) (hB : Below Bw w0 w) (hw : WrB w Bw gw none (0, 0)) :
    Calls Try.prog 24 #[.pointer (some ⟨gw, 0, none⟩), .int .i64 kind, .slice A n cap, .string s, .bool false] w fun e w' => e = .returned (.int .i64 X) ∧ ∃ r P, P.2 ≤ 7000000 ∧ (X ≠ 0 → P.2 = 0) ∧ WrB w' Bw gw r P ∧ Below Bw w0 w' := by
  subst h0
  have hs : w0.heap.size ≤ w.heap.size := hB.size
  have hT1 := (hT.tokB (Nat.le_refl w0.heap.size)).later hB (Nat.le_refl _)
  by_cases hz : X = 0
  · subst hz
    obtain ⟨k, hk, hk2, _, _⟩ := chk_zero hX.symm
    subst hk
    refine (bput_any w0.heap.size gw k A n cap f s false none (0, 0) hn (by show (0 : Nat) ≤ _; omega) w hs hT1 hw hX.symm).mono ?_
    rintro e w' ⟨rfl, r', hw', hu'⟩
    have hle := blkB_le (last := false) (P := (0, 0)) hX.symm hn
    refine ⟨rfl, r', _, ?_, fun h => absurd rfl h, hw', Kept.below0 hs hB hu'.1 (Wr.ge hw)⟩
    have e0 : ((0, 0) : Bs).2 = 0 := rfl
    omega
  · refine (bput_bad gw kind A n cap f s false X hz (by omega) w hT1.toks hX.symm).mono ?_
    rintro e w' ⟨rfl, hb'⟩
    exact ⟨rfl, none, (0, 0), by show (0 : Nat) ≤ _; omega, fun _ => rfl, hw.below hb', hB.trans (hb'.mono hs)⟩
set_option maxHeartbeats 8000000 in
theorem blockSizes_walk (kind : Int) (A : Option Addr) (n cap : Nat) (f : Nat → Tok) (s : ByteArray) (x : Int) (w : World) (hT : Toks w A n f) :
    Calls Try.prog 5 #[.int .i64 kind, .slice A n cap, .string s, .int .i64 x] w fun e w' => e = .returned (.bool true) ∧ Below w.heap.size w w' := by
  by_cases hbig : 400 < n ∨ 70000 < s.size
  · go_enter Try.func5, Try.ntmps5
    go_wp2_with fail
    refine (awake8_any _).mono ?_; rintro e w1 ⟨rfl, rfl⟩
    by_cases h1 : 400 < n
    · have g1 : decide ((400 : Int) < (n : Int)) = true := decide_eq_true (by omega)
      have g2 : decide (400 < n) = true := decide_eq_true h1
      go_wp2
      go_ret
      exact ⟨rfl, Below.refl _ _⟩
    · have g1 : decide ((400 : Int) < (n : Int)) = false := decide_eq_false (by omega)
      have g2 : decide (400 < n) = false := decide_eq_false h1
      have g3 : decide ((70000 : Int) < (s.size : Int)) = true := decide_eq_true (by omega)
      have g4 : decide (70000 < s.size) = true := decide_eq_true (by omega)
      go_wp2
      go_ret
      exact ⟨rfl, Below.refl _ _⟩
  · have g1 : decide ((400 : Int) < (n : Int)) = false := decide_eq_false (by omega)
    have g2 : decide (400 < n) = false := decide_eq_false (by omega)
    have g3 : decide ((70000 : Int) < (s.size : Int)) = false := decide_eq_false (by omega)
    have g4 : decide (70000 < s.size) = false := decide_eq_false (by omega)
    have hn4 : n ≤ 400 := by omega
    have hs7 : s.size ≤ 70000 := by omega
    clear hbig
    have HT := Lib.hid hT
    have HSZ := Lib.hid (size_any kind A n cap f s x (by omega) w hT)
    clear hT
    obtain ⟨X, hX⟩ : ∃ X, X = chkE kind f n s := ⟨_, rfl⟩
    obtain ⟨V, hV⟩ : ∃ V, V = sizeV kind f n s x := ⟨_, rfl⟩
    obtain ⟨b, hb⟩ : ∃ b, b = (bstN f n s x 3).1 := ⟨_, rfl⟩
    rw [← hX, ← hV] at HSZ
    have HX := Lib.hid hX
    have HV := Lib.hid hV
    have HBN := Lib.hid hb
    clear hX hV hb
    go_enter Try.func5, Try.ntmps5
    go_wp2_with fail
    refine (awake8_any _).mono ?_; rintro e w1 ⟨rfl, rfl⟩
    go_wp2_with fail
    (with_reducible refine (HSZ.out).mono ?_); rintro e w2 ⟨rfl, hb2⟩
    have HB2 := Lib.hid hb2
    clear hb2 HSZ
    have hw0 : WrB (w2.alloc (.cells #[.slice none 0 0, .int .u64 0, .int .i64 0] 45)) w.heap.size w2.heap.size none (0, 0) := wr_new w2 w.heap.size HB2.out.size
    have hb3 : Below w.heap.size w (w2.alloc (.cells #[.slice none 0 0, .int .u64 0, .int .i64 0] 45)) := HB2.out.alloc HB2.out.size _
    have HP := Lib.hid (put_sum w.heap.size w2.heap.size kind A n cap f s X HX.out (by omega) w _ rfl HT.out hb3 hw0)
    obtain ⟨gw, hgw⟩ : ∃ gw, gw = w2.heap.size := ⟨_, rfl⟩
    clear hw0 hb3
    have hr1 := Int.tmod_lt_of_pos x (show (0 : Int) < 8 by decide)
    have hr2 := Int.lt_tmod_of_pos x (show (0 : Int) < 8 by decide)
    obtain ⟨a, ha⟩ : ∃ a, a = ahN x := ⟨_, rfl⟩
    have HA := Lib.hid ha
    unfold ahN at ha
    have ha7 : a ≤ 7 := by omega
    go_wp2_with fail
    (with_reducible refine (HP.out).mono ?_); rintro e w4 ⟨rfl, r4, P4, hP7, hP0, hw4, hb4⟩
    rw [← hgw] at hw4
    rw [← hgw]
    have HB4 := Lib.hid hb4
    have HW4 := Lib.hid hw4
    have HP0 := Lib.hid hP0
    have HGW := Lib.hid hgw
    have HB := Lib.hid (best_any A n cap f s x (by omega) w4 (HT.out.below (Nat.le_refl _) hb4))
    rw [← HBN.out] at HB
    clear hb4 hw4 hP0 hgw HP
    have hcase : (decide (-(a : Int) < 0) = true ∧ x.tmod 8 = -(a : Int) ∧ wrap64 (a : Int) = (a : Int) ∧ 0 < a) ∨ (decide ((a : Int) < 0) = false ∧ x.tmod 8 = (a : Int)) := by
      by_cases h9 : x.tmod 8 < 0
      · exact .inl ⟨decide_eq_true (by omega), by omega, by unfold wrap64; omega, by omega⟩
      · exact .inr ⟨decide_eq_false (by omega), by omega⟩
    clear ha hr1 hr2
    obtain ⟨R, hR⟩ : ∃ R : Bool, R = true ↔ allR f n := by
      by_cases h : allR f n
      · exact ⟨true, fun _ => h, fun _ => rfl⟩
      · exact ⟨false, (fun h2 => by cases h2), fun h2 => absurd h2 h⟩
    have HR : Hid (∀ W, Below w.heap.size w W → Calls Try.prog 29 #[.slice A n cap] W fun e w' => e = .returned (.bool R) ∧ Below w.heap.size w w' ∧ Below W.heap.size W w') := fun W hW => by
      have hTW := HT.out.below (Nat.le_refl _) hW
      cases R with
      | true =>
        refine (right8_yes A n cap f W hTW (by omega) (hR.1 rfl)).mono ?_
        rintro e w' ⟨rfl, h⟩
        exact ⟨rfl, hW.trans (h.mono hW.size), h⟩
      | false =>
        refine (right8_no A n cap f W hTW (by omega) (fun h => by cases hR.2 h)).mono ?_
        rintro e w' ⟨rfl, h⟩
        exact ⟨rfl, hW.trans (h.mono hW.size), h⟩
    have HRR := Lib.hid hR
    clear hR
    have HLEN : Hid (∀ W, Below w4.heap.size w4 W → Calls Try.prog 25 #[.pointer (some ⟨gw, 0, none⟩)] W fun e w' => e = .returned (.int .i64 (P4.2 : Nat)) ∧ Below W.heap.size W w') := fun W hW => by
      refine (wlen_any w.heap.size gw r4 P4.1 P4.2 (by omega) W (HW4.out.below hW)).mono ?_
      rintro e w' ⟨rfl, d, rfl⟩
      exact ⟨rfl, below_drewN (Below.refl _ _) d⟩
    rcases hcase with ⟨g5, hr, g6, g7⟩ | ⟨g5, hr⟩
    all_goals
      go_wp2_with fail
      (with_reducible refine (HB.out).mono ?_); rintro e w5 ⟨rfl, hb5⟩
      have HB5 := Lib.hid (HB4.out.trans (hb5.mono HB4.out.size))
      have HB45 := Lib.hid hb5
      clear hb5 HB hr
      rcases chk_cases kind f n s with ⟨hk, hc⟩ | ⟨hk1, hk2, hr, hc⟩ | ⟨hk, hr, hs, hc⟩ | ⟨hk1, hk2, hr, hc⟩
      · have e1 : X = 2 := HX.out.trans hc
        have e2 : V = 0 := HV.out.trans (by unfold sizeV; rw [if_neg (by omega)])
        have e3 : P4.2 = 0 := HP0.out (by omega)
        rw [e3] at HLEN
        subst e1 e2
        have hbR : R = true ∨ (R = false ∧ b = 0) := by
          cases R with
          | true => exact .inl rfl
          | false => exact .inr ⟨rfl, HBN.out.trans (by rw [bst_wrong x (fun h => by cases HRR.out.2 h) 3 (by omega)])⟩
        rcases hbR with rfl | ⟨rfl, rfl⟩
        all_goals
          rcases hk with hk | hk
          · have gk : decide (kind < 0) = true := decide_eq_true hk
            go_wp2_with fail
            (with_reducible refine (HR.out w5 HB5.out).mono ?_); rintro e w6 ⟨rfl, hb6, hb56⟩
            go_wp2_with fail
            (with_reducible refine (HLEN.out w6 (HB45.out.trans (hb56.mono HB45.out.size))).mono ?_); rintro e w7 ⟨rfl, hb7⟩
            go_wp2_with fail
            go_ret
            exact ⟨rfl, hb6.trans (hb7.mono hb6.size)⟩
          · have gk : decide (kind < 0) = false := decide_eq_false (by omega)
            have gk2 : decide (2 < kind) = true := decide_eq_true hk
            go_wp2_with fail
            (with_reducible refine (HR.out w5 HB5.out).mono ?_); rintro e w6 ⟨rfl, hb6, hb56⟩
            go_wp2_with fail
            (with_reducible refine (HLEN.out w6 (HB45.out.trans (hb56.mono HB45.out.size))).mono ?_); rintro e w7 ⟨rfl, hb7⟩
            go_wp2_with fail
            go_ret
            exact ⟨rfl, hb6.trans (hb7.mono hb6.size)⟩
      · have e1 : X = 8 := HX.out.trans hc
        have e2 : V = 0 := HV.out.trans (by unfold sizeV; rw [if_neg (by omega)])
        have e3 : P4.2 = 0 := HP0.out (by omega)
        rw [e3] at HLEN
        subst e1 e2
        have e4 : R = false := by
          cases R with
          | true => exact absurd (HRR.out.1 rfl) hr
          | false => rfl
        have e5 : b = 0 := HBN.out.trans (by rw [bst_wrong x hr 3 (by omega)])
        subst e4 e5
        have gk : decide (kind < 0) = false := decide_eq_false (by omega)
        have gk2 : decide (2 < kind) = false := decide_eq_false (by omega)
        clear hr hc
        go_wp2_with fail
        (with_reducible refine (HR.out w5 HB5.out).mono ?_); rintro e w6 ⟨rfl, hb6, hb56⟩
        go_wp2_with fail
        (with_reducible refine (HR.out w6 hb6).mono ?_); rintro e w7 ⟨rfl, hb7, hb67⟩
        go_wp2_with fail
        (with_reducible refine (HLEN.out w7 ((HB45.out.trans (hb56.mono HB45.out.size)).trans (hb67.mono (Nat.le_trans HB45.out.size hb56.size)))).mono ?_); rintro e w8 ⟨rfl, hb8⟩
        go_wp2_with fail
        go_ret
        exact ⟨rfl, hb7.trans (hb8.mono hb7.size)⟩
      · have e1 : X = 5 := HX.out.trans hc
        have e2 : V = 0 := HV.out.trans (by unfold sizeV; rw [if_neg (by omega)])
        have e3 : P4.2 = 0 := HP0.out (by omega)
        have c1 : chkE ((1 : Nat) : Int) f n s = 0 := by rw [chk_right hr 1 (by omega), if_neg (by omega)]
        have hb0 : b ≠ 0 := fun h0 => by
          have hb1 := HBN.out
          rw [h0] at hb1
          rcases bst_ok (f := f) (n := n) (s := s) x 3 (by omega) with ⟨_, h2⟩ | ⟨_, h2, _⟩
          · exact h2 1 (by omega) c1
          · rw [← hb1] at h2
            subst hk
            rw [show ((0 : Nat) : Int) = 0 from rfl, hc] at h2
            omega
        rw [e3] at HLEN
        subst e1 e2
        have e4 : R = true := HRR.out.2 hr
        subst e4
        have gb : ((b : Int) == 0) = false := by rw [beq_eq_false_iff_ne]; omega
        have gb2 : ((b : Int) != 0) = true := by rw [bne_iff_ne]; omega
        have gk : decide (kind < 0) = false := decide_eq_false (by omega)
        have gk2 : decide (2 < kind) = false := decide_eq_false (by omega)
        have gk3 : (kind == 0) = true := by rw [beq_iff_eq]; exact hk
        have gs : decide ((65535 : Int) < (s.size : Int)) = true := decide_eq_true (by omega)
        have gs2 : decide (65535 < s.size) = true := decide_eq_true hs
        clear hr hc hk hs c1
        go_wp2_with fail
        (with_reducible refine (HR.out w5 HB5.out).mono ?_); rintro e w6 ⟨rfl, hb6, hb56⟩
        go_wp2_with fail
        (with_reducible refine (HR.out w6 hb6).mono ?_); rintro e w7 ⟨rfl, hb7, hb67⟩
        go_wp2_with fail
        (with_reducible refine (HLEN.out w7 ((HB45.out.trans (hb56.mono HB45.out.size)).trans (hb67.mono (Nat.le_trans HB45.out.size hb56.size)))).mono ?_); rintro e w8 ⟨rfl, hb8⟩
        go_wp2_with fail
        go_ret
        exact ⟨rfl, hb7.trans (hb8.mono hb7.size)⟩
      · have e1 : X = 0 := HX.out.trans hc
        subst e1
        have e4 : R = true := HRR.out.2 hr
        subst e4
        obtain ⟨k, rfl⟩ : ∃ k : Nat, kind = (k : Nat) := ⟨kind.toNat, by omega⟩
        have hVk : V = ((sizeN k f n s a : Nat) : Int) := HV.out.trans (by unfold sizeV; rw [if_pos hc, ← HA.out]; rfl)
        obtain ⟨L, hL⟩ : ∃ L, L = sizeV (b : Nat) f n s x := ⟨_, rfl⟩
        have hbest : chkE (b : Nat) f n s = 0 ∧ L ≤ V ∧ (L < V ∨ b ≤ k) := by
          rcases bst_ok (f := f) (n := n) (s := s) x 3 (by omega) with ⟨_, h2⟩ | ⟨_, h2, _, h4⟩
          · exact absurd hc (h2 k (by omega))
          · have h5 := h4 k (by omega) hc
            rw [← HBN.out] at h2 h5
            rw [← hL, ← HV.out] at h5
            exact ⟨h2, h5⟩
        obtain ⟨hcb, hLV, hLb⟩ := hbest
        have HSB : Hid (∀ W, Below w.heap.size w W → Calls Try.prog 26 #[.int .i64 (b : Nat), .slice A n cap, .string s, .int .i64 x] W fun e w' => e = .returned (.tuple #[.int .i64 L, .int .i64 0]) ∧ Below w.heap.size w w') := fun W hW => by
          have h := size_any (b : Nat) A n cap f s x (by omega) W (HT.out.below (Nat.le_refl _) hW)
          rw [hcb, ← hL] at h
          refine h.mono ?_
          rintro e w' ⟨rfl, hb'⟩
          exact ⟨rfl, hW.trans (hb'.mono hW.size)⟩
        have HNIL := Lib.hid (fun W => bput_nil (k : Nat) A n cap s true W)
        have gk : decide ((k : Int) < 0) = false := decide_eq_false (by omega)
        have gk2 : decide ((2 : Int) < (k : Int)) = false := decide_eq_false (by omega)
        have gk2' : decide (2 < k) = false := decide_eq_false (by omega)
        have gL : decide (L ≤ V) = true := decide_eq_true hLV
        have hs0 : k = 0 → s.size ≤ 65535 := fun h0 => by
          have h9 := chk_right hr k (by omega) (s := s)
          rw [hc] at h9
          by_cases h8 : s.size ≤ 65535
          · exact h8
          · rw [if_pos ⟨h0, by omega⟩] at h9; omega
        have HST : Hid (k = 0 → ∀ W, Calls Try.prog 30 #[.int .i64 (s.size : Nat), .int .i64 (a : Nat)] W fun e w' => e = .returned (.int .i64 V) ∧ w' = W) := fun h0 W => by
          have h := rstored_any s.size a ha7 (by omega) W
          have hu := up8_ge (a + 3)
          subst h0
          rw [hVk, size_stored, show up8 (a + 3) + 32 + 8 * s.size - a = up8 (a + 3) - a + 32 + 8 * s.size from by omega]
          exact h
        have HFX : Hid (k = 1 → ∀ A2 c2 W, Toks W A2 n f → Calls Try.prog 31 #[.slice A2 n c2] W fun e w' => e = .returned (.int .i64 V) ∧ Below W.heap.size W w') := fun h1 A2 c2 W hTW => by
          have h := rfixed_any A2 n c2 f W hTW (by omega) hr
          subst h1
          rw [hVk, size_fixed f n s a (fun i hi => ⟨by
            obtain ⟨_, _, _, _, hcc⟩ := hTW (by omega)
            exact (hcc i hi).1.1, hr i hi⟩)]
          exact h
        have HTO := Lib.hid (fun W (hW : Below w.heap.size w W) => to8_any A n cap f W (HT.out.below (Nat.le_refl _) hW) (by omega))
        clear hr hc hVk hL hcb hLV HV HX HBN HRR HP0
        go_wp2_with fail
        (with_reducible refine (HR.out w5 HB5.out).mono ?_); rintro e w6 ⟨rfl, hb6, hb56⟩
        go_wp2_with fail
        (with_reducible refine (HR.out w6 hb6).mono ?_); rintro e w7 ⟨rfl, hb7, hb67⟩
        have HB7 := Lib.hid hb7
        clear hb7 hb67 hb6 hb56
        have hLb' : decide (L < V) = true ∨ (decide (L < V) = false ∧ decide ((b : Int) ≤ (k : Int)) = true ∧ decide (b ≤ k) = true) := by
          by_cases h9 : L < V
          · exact .inl (decide_eq_true h9)
          · exact .inr ⟨decide_eq_false h9, decide_eq_true (by omega), decide_eq_true (by omega)⟩
        clear hLb
        by_cases k0 : k = 0
        · have gk3 : ((k : Int) == 0) = true := by rw [beq_iff_eq]; omega
          have gk5 : ((k : Int) == 1) = false := by rw [beq_eq_false_iff_ne]; omega
          have gs : decide ((65535 : Int) < (s.size : Int)) = false := decide_eq_false (by have := hs0 k0; omega)
          have gs2 : decide (65535 < s.size) = false := decide_eq_false (by have := hs0 k0; omega)
          have HST2 := Lib.hid (HST.out k0)
          rcases hLb' with gL2 | ⟨gL2, gL3, gL4⟩
          all_goals
            clear k0 hs0 HST HFX
            go_wp2_with fail
            (with_reducible refine (HNIL.out _).mono ?_); rintro e w8 ⟨rfl, rfl⟩
            go_wp2_with fail
            (with_reducible refine (HST2.out _).mono ?_); rintro e w8 ⟨rfl, rfl⟩
            go_wp2_with fail
            (with_reducible refine (HSB.out _ HB7.out).mono ?_); rintro e w9 ⟨rfl, hb9⟩
            go_wp2_with fail
            go_ret
            exact ⟨rfl, hb9⟩
        · by_cases k1 : k = 1
          · have gk3 : ((k : Int) == 0) = false := by rw [beq_eq_false_iff_ne]; omega
            have gk5 : ((k : Int) == 1) = true := by rw [beq_iff_eq]; omega
            have HFX2 := Lib.hid (HFX.out k1)
            rcases hLb' with gL2 | ⟨gL2, gL3, gL4⟩
            all_goals
              clear k0 k1 hs0 HST HFX
              go_wp2_with fail
              (with_reducible refine (HNIL.out _).mono ?_); rintro e w8 ⟨rfl, rfl⟩
              go_wp2_with fail
              (with_reducible refine (HTO.out _ HB7.out).mono ?_); rintro e w8 ⟨A2, c2, rfl, hT8, hb8⟩
              have HB8 := Lib.hid (HB7.out.trans (hb8.mono HB7.out.size))
              have HFX3 := Lib.hid (HFX2.out A2 c2 w8 hT8)
              clear hT8 hb8 HFX2
              go_wp2_with fail
              (with_reducible refine (HFX3.out).mono ?_); rintro e w9 ⟨rfl, hb9⟩
              have HB9 := Lib.hid (HB8.out.trans (hb9.mono HB8.out.size))
              clear hb9 HFX3
              go_wp2_with fail
              (with_reducible refine (HSB.out _ HB9.out).mono ?_); rintro e w10 ⟨rfl, hb10⟩
              go_wp2_with fail
              go_ret
              exact ⟨rfl, hb10⟩
          · have gk3 : ((k : Int) == 0) = false := by rw [beq_eq_false_iff_ne]; omega
            have gk5 : ((k : Int) == 1) = false := by rw [beq_eq_false_iff_ne]; omega
            rcases hLb' with gL2 | ⟨gL2, gL3, gL4⟩
            all_goals
              clear k0 k1 hs0 HST HFX
              go_wp2_with fail
              (with_reducible refine (HNIL.out _).mono ?_); rintro e w8 ⟨rfl, rfl⟩
              go_wp2_with fail
              (with_reducible refine (HSB.out _ HB7.out).mono ?_); rintro e w9 ⟨rfl, hb9⟩
              go_wp2_with fail
              go_ret
              exact ⟨rfl, hb9⟩
end Go.Proofs.Ytabpcipfijakjaa
