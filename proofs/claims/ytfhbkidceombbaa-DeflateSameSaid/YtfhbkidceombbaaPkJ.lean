/-
  Layer 9: what Find's tokens are in bytes; one part; few tokens of one byte again and again.
  Layer 9: put; Deflate of a text that is one part.
-/
import Derived.Test.YtfhbkidceombbaaPkG
import Derived.Test.YtfhbkidceombbaaPkH
import Derived.Test.YtfhbkidceombbaaPkD
import Derived.Deep.CutBlock

namespace Go.Proofs.Ytfhbkidceombbaa
set_option maxRecDepth 100000
open Go.RowKit Go.Joins Go.Deep

theorem wd_wid {t : Tok} (h : rightT t = true) : wdT t = (widT t).toNat := by
  unfold wdT widT
  rw [if_pos h]
  by_cases h0 : t.l = 0
  · rw [if_pos h0, h0]; rfl
  · obtain ⟨_, h1, _, _⟩ := right_copy h h0
    rw [if_neg h0]
    omega
theorem found_right (s : ByteArray) (t k : Nat) (hs : s.size ≤ 10000) (h : Found s t k) (i : Nat) (hi : i < k) : rightT (tkT (bt s) s.size (befT (bt s) s.size) t i) = true := by
  obtain ⟨h1, _⟩ := tok_ok (bt s) s.size t _ (h.2 i hi) (by omega)
  exact (fits_zero h1).1
theorem found_wsum (s : ByteArray) (t k : Nat) (hs : s.size ≤ 10000) (h : Found s t k) : ∀ j, j ≤ k → wsum (tkT (bt s) s.size (befT (bt s) s.size) t) j = posT (bt s) s.size (befT (bt s) s.size) t j
  | 0, _ => rfl
  | j + 1, hj => by
    have ih := found_wsum s t k hs h j (by omega)
    have hr := found_right s t k hs h j (by omega)
    show wsum _ j + wdT _ = _
    rw [ih, posT, wd_wid hr]
    rfl
theorem found_sum (s : ByteArray) (t k : Nat) (hs : s.size ≤ 10000) (h : Found s t k) : wsum (tkT (bt s) s.size (befT (bt s) s.size) t) k = s.size := by
  rw [found_wsum s t k hs h k (Nat.le_refl _)]
  exact h.1
theorem spl_small (f : Nat → Tok) : ∀ k, wsum f k ≤ 32768 → spl f k = ([], 0, wsum f k)
  | 0, _ => rfl
  | k + 1, h => by
    have e : wsum f (k + 1) = wsum f k + wdT (f k) := rfl
    have ih := spl_small f k (by omega)
    rw [spl, ih, if_neg (by show ¬ 32768 < wsum f k + wdT (f k); omega)]
    rfl
theorem parts_small (f : Nat → Tok) (n : Nat) (h0 : n ≠ 0) (h : wsum f n ≤ 32768) : partsOf f n = [(0, n)] := by
  unfold partsOf
  rw [if_neg h0, spl_small f n h]
  rfl

/-! ## One byte again and again -/
theorem prev_same (a : Nat → Nat) (n c p : Nat) (ha : ∀ i, i < n → a i = c) (h1 : 1 ≤ p) (hp : p + 2 < n) : prevT a p = some (p - 1) := by
  obtain ⟨q, rfl⟩ : ∃ q, p = q + 1 := ⟨p - 1, by omega⟩
  unfold prevT
  rw [lastB, if_pos]
  · rfl
  · unfold same3
    exact decide_eq_true ⟨by rw [ha _ (by omega), ha _ (by omega)], by rw [ha _ (by omega), ha _ (by omega)], by rw [ha _ (by omega), ha _ (by omega)]⟩
theorem long_most (a : Nat → Nat) (n t p : Nat) : (longT a n (befT a n) t p).1 ≤ min (n - p) 258 := by
  rcases long_ok a n t p with ⟨h, _⟩ | ⟨_, h, _⟩ <;> omega
theorem wid_same (a : Nat → Nat) (n c t p : Nat) (ht : 1 ≤ t) (hn : n ≤ 10000) (ha : ∀ i, i < n → a i = c) (h1 : 1 ≤ p) (hp : p + 2 < n) : (widT (tokT a n (befT a n) t p)).toNat = min (n - p) 258 := by
  have hq := prev_same a n c p ha h1 hp
  have g1 := long_ge a n t p (p - 1) (min (n - p) 258) ht hp hn hq (fun i hi => by rw [ha _ (by omega), ha _ (by omega)]) (by omega) (Nat.le_refl _)
  have g2 := long_most a n t p
  have g3 := long_most a n t (p + 1)
  unfold tokT
  rw [if_neg (by omega)]
  unfold widT
  simp only
  omega
theorem few_same (s : ByteArray) (t k c : Nat) (hs : s.size = 1000) (ht : 1 ≤ t) (ha : ∀ i, i < 1000 → bt s i = c) (hf : Found s t k) : k ≤ 5 := by
  have ha' : ∀ i, i < s.size → bt s i = c := fun i hi => ha i (by omega)
  have e1 : posT (bt s) s.size (befT (bt s) s.size) t 1 = 1 := by
    rw [posT, posT, tok_byte _ _ _ _ rfl]
  have step := fun p h1 hp => wid_same (bt s) s.size c t p ht (by omega) ha' h1 hp
  have e2 : posT (bt s) s.size (befT (bt s) s.size) t 2 = 259 := by
    rw [posT, e1, step 1 (by omega) (by omega)]; omega
  have e3 : posT (bt s) s.size (befT (bt s) s.size) t 3 = 517 := by
    rw [posT, e2, step 259 (by omega) (by omega)]; omega
  have e4 : posT (bt s) s.size (befT (bt s) s.size) t 4 = 775 := by
    rw [posT, e3, step 517 (by omega) (by omega)]; omega
  have e5 : posT (bt s) s.size (befT (bt s) s.size) t 5 = 1000 := by
    rw [posT, e4, step 775 (by omega) (by omega)]; omega
  by_cases hk : k ≤ 5
  · exact hk
  · have := hf.2 5 (by omega)
    omega

/-! ## Deflate's answer -/
/-- How many tokens Find's answer has. -/
noncomputable def kT (s : ByteArray) (t : Nat) : Nat := Classical.epsilon (Found s t)
theorem kT_eq {s : ByteArray} {t k : Nat} (h : Found s t k) : kT s t = k := found_one s t _ _ (Classical.epsilon_spec ⟨k, h⟩) h
/-- The kind of a part's block. -/
noncomputable def kindF (level : Nat) (f : Nat → Tok) (n : Nat) (s : ByteArray) (x : Nat) : Nat := if level = 0 then 0 else (bstN f n s (x : Nat) 3).1
theorem kind_ok (level : Nat) (f : Nat → Tok) (n : Nat) (s : ByteArray) (x : Nat) (hr : ∀ i, i < n → rightT (f i) = true) (hs : s.size ≤ 65535) : chkE (kindF level f n s x : Nat) f n s = 0 ∧ kindF level f n s x ≤ 2 := by
  have h0 : chkE ((0 : Nat) : Int) f n s = 0 := by rw [chk_right hr 0 (by omega), if_neg (by omega)]
  unfold kindF
  by_cases hl : level = 0
  · rw [if_pos hl]; exact ⟨h0, by omega⟩
  · rw [if_neg hl]
    rcases bst_ok (f := f) (n := n) (s := s) (x : Nat) 3 (by omega) with ⟨_, h2⟩ | ⟨h1, h2, _, _⟩
    · exact absurd h0 (h2 0 (by omega))
    · exact ⟨h2, by omega⟩
noncomputable def dflB (s : ByteArray) (level : Nat) : Bs :=
  blkB (kindF level (tkT (bt s) s.size (befT (bt s) s.size) (triesOf level)) (kT s (triesOf level)) s 0) (tkT (bt s) s.size (befT (bt s) s.size) (triesOf level)) (kT s (triesOf level)) s true (0, 0)
noncomputable def dflT (s : ByteArray) (level : Nat) : ByteArray := text (le (dflB s level).1 (((dflB s level).2 + 7) / 8))
theorem blk_last (k : Nat) (f : Nat → Tok) (n : Nat) (s : ByteArray) (P : Bs) : (blkB k f n s true P).2 = (blkB k f n s false P).2 := by
  unfold blkB
  split
  · rw [stB_len, stB_len]; rfl
  split <;> rfl
theorem dfl_short (s : ByteArray) (level c k : Nat) (hl : 1 ≤ level) (hs : s.size = 1000) (ha : ∀ i, i < 1000 → bt s i = c) (hf : Found s (triesOf level) k) : (dflT s level).size < 100 := by
  have hk := kT_eq hf
  have ht : 1 ≤ triesOf level := by
    unfold triesOf
    rw [if_neg (by omega)]
    have := Nat.one_le_two_pow (n := level)
    omega
  have h5 := few_same s (triesOf level) k c hs ht ha hf
  have hr := found_right s (triesOf level) k (by omega) hf
  unfold dflT
  rw [text_size, le_len]
  unfold dflB
  rw [hk]
  generalize tkT (bt s) s.size (befT (bt s) s.size) (triesOf level) = f at *
  rw [blk_last]
  have hc1 : chkE ((1 : Nat) : Int) f k s = 0 := by rw [chk_right hr 1 (by omega), if_neg (by omega)]
  have hz : ∀ j, chkE (j : Nat) f k s = 0 → sizeV (j : Nat) f k s ((0 : Nat) : Int) = (((blkB j f k s false (0, 0)).2 : Nat) : Int) := fun j hj => by
    unfold sizeV
    rw [if_pos hj, Int.toNat_natCast]
    rfl
  have hb : (blkB (kindF level f k s 0) f k s false (0, 0)).2 ≤ (blkB 1 f k s false (0, 0)).2 := by
    unfold kindF
    rw [if_neg (by omega)]
    rcases bst_ok (f := f) (n := k) (s := s) ((0 : Nat) : Int) 3 (by omega) with ⟨_, h2⟩ | ⟨h1, h2, _, h4⟩
    · exact absurd hc1 (h2 1 (by omega))
    · have h6 := (h4 1 (by omega) hc1).1
      rw [hz _ h2, hz 1 hc1] at h6
      omega
  have h1 := toksB_le fixS fixD f fix15.1 fix15.2 k
  have h2 := sgB_le fixS 256 fix15.1
  have e : (blkB 1 f k s false (0, 0)).2 = 0 + 1 + 2 + (toksB fixS fixD f k).2 + (sgB fixS 256).2 := rfl
  omega
end Go.Proofs.Ytfhbkidceombbaa

namespace Go.Proofs.Ytfhbkidceombbaa
set_option maxRecDepth 100000
open Go.RowKit Go.Joins Go.Deep

set_option maxHeartbeats 4000000 in
theorem dput_any (Bw gw level : Nat) (A : Option Addr) (n cap : Nat) (f : Nat → Tok) (s : ByteArray) (last : Bool) (r : Option Nat) (P : Bs) (hn : n ≤ 100000) (hL : P.2 ≤ 70000000) (w : World) (hB : Bw ≤ w.heap.size) (hT : TokB w Bw A n f) (hw : WrB w Bw gw r P)
    (hr : ∀ i, i < n → rightT (f i) = true) (hs : s.size ≤ 65535) :
    Calls Try.prog 44 #[.pointer (some ⟨gw, 0, none⟩), .slice A n cap, .string s, .int .i64 (level : Nat), .bool last] w fun e w' => e = .returned (.int .i64 0) ∧ ∃ w2, Below w.heap.size w w2 ∧ WrB w2 Bw gw r P ∧ Emits w2 Bw gw r (blkB (kindF level f n s P.2) f n s last P) w' := by
  obtain ⟨hc, hk2⟩ := kind_ok level f n s P.2 hr hs
  have HP := Lib.hid (fun w2 hB2 hT2 hw2 => bput_any Bw gw (kindF level f n s P.2) A n cap f s last r P hn (by omega) w2 hB2 hT2 hw2 hc)
  have HLN := Lib.hid (fun w2 hw2 => wlen_any Bw gw r P.1 P.2 (by omega) w2 hw2)
  have HBE := Lib.hid (fun w2 hT2 => best_any A n cap f s ((P.2 : Nat) : Int) hn w2 hT2)
  have HB := Lib.hid hB
  have HT := Lib.hid hT
  have HW := Lib.hid hw
  have HK := Lib.hid (show kindF level f n s P.2 = if level = 0 then 0 else (bstN f n s ((P.2 : Nat) : Int) 3).1 from rfl)
  clear hc hk2 hB hT hw hr hs hL
  generalize kindF level f n s P.2 = K at *
  generalize (bstN f n s ((P.2 : Nat) : Int) 3).1 = K2 at *
  generalize hQ : blkB K f n s last P = Q at *
  clear hQ
  obtain ⟨M, L⟩ := P
  dsimp only at *
  go_enter Try.func44, Try.ntmps44
  by_cases h0 : level = 0
  · have hK := HK.out
    rw [if_pos h0] at hK
    subst hK
    subst h0
    go_wp2_with fail
    refine (HP.out _ HB.out HT.out HW.out).mono ?_; rintro e w3 ⟨rfl, he⟩
    have HE := Lib.hid he
    clear he
    go_wp2_with fail
    go_ret
    exact ⟨rfl, w, Below.refl _ _, HW.out, HE.out⟩
  · have hK := HK.out
    rw [if_neg h0] at hK
    have HKK := Lib.hid hK
    have g1 : decide ((0 : Int) < (level : Int)) = true := decide_eq_true (by omega)
    have g2 : decide (0 < level) = true := decide_eq_true (by omega)
    have g3 : 0 < level := by omega
    clear hK
    go_wp2_with fail
    refine (HLN.out _ HW.out).mono ?_; rintro e w1 ⟨rfl, d, rfl⟩
    have HB1 : Hid (Below w.heap.size w (w.drewN d)) := below_drewN (Below.refl _ _) d
    go_wp2_with fail
    refine (HBE.out _ (HT.out.toks.below (Nat.le_refl _) HB1.out)).mono ?_; rintro e w2 ⟨rfl, hb2⟩
    have HB2 := Lib.hid (below_then HB1.out hb2)
    clear hb2
    have HW2 := Lib.hid (HW.out.below HB2.out)
    have HT2 := Lib.hid (HT.out.later HB2.out (Nat.le_refl _))
    have HS2 : Hid (Bw ≤ w2.heap.size) := Nat.le_trans HB.out HB2.out.size
    go_wp2_with fail
    rw [← HKK.out]
    refine (HP.out _ HS2.out HT2.out HW2.out).mono ?_; rintro e w3 ⟨rfl, he⟩
    have HE := Lib.hid he
    clear he
    go_wp2_with fail
    go_ret
    exact ⟨rfl, w2, HB2.out, HW2.out, HE.out⟩

theorem zero_writer (w : World) : (zeroValue 32).run Try.prog w = .ok (.agg #[.slice none 0 0, .int .u64 0, .int .i64 0]) w := by kernel_rfl
theorem str_full (s : ByteArray) : s.extract 0 s.size = s := by
  apply ByteArray.ext
  simp
set_option maxHeartbeats 8000000 in
theorem deflate_any (s : ByteArray) (level : Nat) (hs : s.size ≤ 10000) (hl : level ≤ 9) (w : World) :
    Calls Try.prog 19 #[.string s, .int .i64 (level : Nat)] w fun e w' => e = .returned (.tuple #[.string (dflT s level), .int .i64 0]) ∧ (∃ k, Found s (triesOf level) k) ∧ Below w.heap.size w w' := by
  have HF := Lib.hid (find_any s level hs hl w)
  have HZW := zero_writer
  have hss := str_full s
  go_enter Try.func19, Try.ntmps19
  go_wp2_with fail
  refine HF.out.mono ?_; rintro e w1 ⟨n, A, c, rfl, hfd, hT, hb1⟩
  have hD : dflB s level = blkB (kindF level (tkT (bt s) s.size (befT (bt s) s.size) (triesOf level)) n s 0) (tkT (bt s) s.size (befT (bt s) s.size) (triesOf level)) n s true (0, 0) := by unfold dflB; rw [kT_eq hfd]
  have hfr := found_right s (triesOf level) n hs hfd
  have hfs := found_sum s (triesOf level) n hs hfd
  have hfk := (found_ok s (triesOf level) n hs hfd).2.2
  have HFD := Lib.hid hfd
  generalize tkT (bt s) s.size (befT (bt s) s.size) (triesOf level) = f at *
  have HSP := Lib.hid (split_any A n c f w1 hT (by omega))
  have HPA : Hid (partsOf f n = if n = 0 then [] else [(0, n)]) := by
    show _ = _
    by_cases h0 : n = 0
    · rw [if_pos h0]; unfold partsOf; rw [if_pos h0]
    · rw [if_neg h0]; exact parts_small f n h0 (by omega)
  have HDB := Lib.hid hD
  have HRT := Lib.hid hfr
  have HFS := Lib.hid hfs
  have HB1 := Lib.hid hb1
  generalize hPP : partsOf f n = P at *
  clear hPP hfd hT hb1 HF hD hfr hfs
  go_wp2_with fail
  refine HSP.out.mono ?_; rintro e w2 ⟨g, A2, c2, rfl, hpr, hts, hb2⟩
  have HPR := Lib.hid hpr
  have HTS := Lib.hid hts
  have HB2 := Lib.hid (below_then HB1.out hb2)
  clear hpr hts hb2 HSP
  go_upto_if 27 with fail
  go_cut [8] from 28 to 28 (fun v wx => ∃ b2 c3 A3 c4, v = .slice (some ⟨b2, 0, none⟩) 1 c3 ∧ b2 < wx.heap.size ∧ wx.cell? ⟨b2, 0, none⟩ = some (.slice A3 n c4) ∧ Hid (Toks wx A3 n f) ∧ Hid (Below w.heap.size w wx))
  case first => as_aux_lemma =>
    by_cases h0 : n = 0
    · have hP := HPA.out
      rw [if_pos h0] at hP
      subst hP
      subst h0
      go_wp2_with fail
      go_meet
      refine ⟨w2.heap.size, 1, none, 0, rfl, by simp, ?_, fun h => by omega, HB2.out.alloc HB2.out.size _⟩
      exact (cell_of_row _ _ 0 _ _ _ (heap_alloc_new w2 _)).trans rfl
    · have hP := HPA.out
      rw [if_neg h0] at hP
      subst hP
      obtain ⟨b2, rfl, hlt, hc⟩ := HPR.out (by simp)
      have hc0 := hc 0 (by simp)
      clear hc
      have g1 : (([(0, n)] : List (Nat × Nat)).length == 0) = false := rfl
      go_wp2_with fail
      go_meet
      exact ⟨b2, c2, some ⟨g, 0, none⟩, n, rfl, hlt, by simpa [partV] using hc0, HTS, HB2⟩
  case rest =>
    obtain ⟨b2, c3, A3, c4, rfl, hlt, hc0, HT3, HB3⟩ := hcut
    generalize wc = w3 at *
    clear HPR HTS HB2 HPA HB1
    have hne : Hid (b2 ≠ w3.heap.size) := Nat.ne_of_lt hlt
    have HB4 := Lib.hid (HB3.out.alloc HB3.out.size (.cells #[.slice none 0 0, .int .u64 0, .int .i64 0] 32))
    have h34 : Below w3.heap.size w3 (w3.alloc (.cells #[.slice none 0 0, .int .u64 0, .int .i64 0] 32)) := (Below.refl _ _).alloc (Nat.le_refl _) _
    have HT4 := Lib.hid (HT3.out.tokB (Nat.le_refl _) |>.later h34 (Nat.le_refl _))
    have HW4 : Hid (WrB (w3.alloc (.cells #[.slice none 0 0, .int .u64 0, .int .i64 0] 32)) w3.heap.size w3.heap.size none (0, 0)) := wr_new w3 w3.heap.size (Nat.le_refl _)
    have hc4 := (h34.cell (p := ⟨b2, 0, none⟩) hlt).trans hc0
    have HLE := Lib.hid h34.size
    have HLT := Lib.hid hlt
    clear h34 hc0 hlt
    have HLEN := Lib.hid (fun w1 h => dlength_any A3 n c4 f w1 h (by omega))
    rw [HFS.out] at HLEN
    have hs1 : s.size ≤ 9223372036854775807 := by omega
    go_wp2_with fail
    generalize w3.alloc (.cells #[.slice none 0 0, .int .u64 0, .int .i64 0] 32) = w4 at *
    refine wp_loop_rounds 2 ?_
    rw [rounds_succ]
    go_wp2_with fail
    refine (HLEN.out _ HT4.out.toks).mono ?_; rintro e w5 ⟨rfl, hb5⟩
    have HB5 := Lib.hid (below_then HB4.out hb5)
    have HT5 := Lib.hid (HT4.out.later hb5 (Nat.le_refl _))
    have HW5 := Lib.hid (HW4.out.below hb5)
    have HL5 : Hid (w3.heap.size ≤ w5.heap.size) := Nat.le_trans HLE.out hb5.size
    clear hb5 hc4
    have HPT := Lib.hid (dput_any w3.heap.size w3.heap.size level A3 n c4 f s true none (0, 0) (by omega) (by show 0 ≤ _; omega) w5 HL5.out HT5.out HW5.out HRT.out (by omega))
    rw [show ((0, 0) : Bs).2 = 0 from rfl, ← HDB.out] at HPT
    go_wp2_with fail
    refine HPT.out.mono ?_; rintro e w7 ⟨rfl, w6, hb6, hw6, r7, hw7, hu7⟩
    have HB6 := Lib.hid (below_then HB5.out hb6)
    have HL6 : Hid (w3.heap.size ≤ w6.heap.size) := Nat.le_trans HL5.out hb6.size
    have HB7 : Hid (Below w.heap.size w w7) := HB6.out.trans ((Kept.below0 HL6.out (Below.refl _ _) hu7.1 (Wr.ge hw6)).mono HB3.out.size)
    have HW7 := Lib.hid hw7
    have hQ : (dflB s level).2 ≤ 7000000 := by
      have hk := kind_ok level f n s 0 HRT.out (by omega)
      have := blkB_le (last := true) (P := (0, 0)) hk.1 (by omega)
      rw [HDB.out]
      show _ ≤ _
      have e : ((0, 0) : Bs).2 = 0 := rfl
      omega
    have HDN := Lib.hid (wdone_any w3.heap.size w3.heap.size r7 (dflB s level).1 (dflB s level).2 (by omega) w7 HW7.out)
    have HDT := Lib.hid (show dflT s level = text (le (dflB s level).1 (((dflB s level).2 + 7) / 8)) from rfl)
    generalize text (le (dflB s level).1 (((dflB s level).2 + 7) / 8)) = D at *
    clear hb6 hw6 hw7 hu7 hQ
    go_wp2_with fail
    rw [rounds_succ]
    go_wp2_with fail
    refine HDN.out.mono ?_; rintro e w8 ⟨rfl, hb8⟩
    have HB8 := Lib.hid (below_then HB7.out hb8)
    clear hb8
    go_wp2_with fail
    go_ret2
    exact ⟨by rw [HDT.out]; rfl, ⟨n, HFD.out⟩, HB8.out⟩
end Go.Proofs.Ytfhbkidceombbaa
