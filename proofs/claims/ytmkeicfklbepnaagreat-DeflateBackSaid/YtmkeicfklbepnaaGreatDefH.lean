/-
 Layer 9: put; Deflate of a text that is one part.
-/
import Derived.Test.YtmkeicfklbepnaaGreatPkCJ
import Derived.Deep.CutBlock
namespace Go.Proofs.YtmkeicfklbepnaaGreat
set_option maxRecDepth 100000
open Go.RowKit Go.Joins Go.Deep

set_option maxHeartbeats 4000000 in
theorem dput_any (Bw gw level : Nat) (A : Option Addr) (n cap : Nat) (f : Nat → Tok) (s : ByteArray) (last : Bool) (r : Option Nat) (P : Bs) (hn : n ≤ 100000) (hL : P.2 ≤ 70000000) (w : World) (hB : Bw ≤ w.heap.size) (hT : TokB w Bw A n f) (hw : WrB w Bw gw r P)
  (hr : ∀ i, i < n → rightT (f i) = true) (hs : s.size ≤ 65535) :
  Calls Tryz.prog 12 #[.pointer (some ⟨gw, 0, none⟩), .slice A n cap, .string s, .int .i64 (level : Nat), .bool last] w fun e w' => e = .returned (.int .i64 0) ∧ ∃ w2, Below w.heap.size w w2 ∧ WrB w2 Bw gw r P ∧ Emits w2 Bw gw r (blkB (kindF level f n s P.2) f n s last P) w' := by
 obtain ⟨hc, hk2⟩ := kind_ok level f n s P.2 hr hs
 have HP := Lib.hid (fun w2 hB2 hT2 hw2 => bput_any Bw gw (kindF level f n s P.2) A n cap f s last r P hn (by omega) w2 hB2 hT2 hw2 hc)
 have HLN := Lib.hid (fun w2 hw2 => wlen_any Bw gw r P.1 P.2 (by omega) w2 hw2)
 have HBE := Lib.hid (fun w2 hT2 => best_any A n cap f s ((P.2 : Nat) : Int) hn w2 hT2)
 have HB := Lib.hid hB
 have HT := Lib.hid hT
 have HW := Lib.hid hw
 have HK := Lib.hid (show kindF level f n s P.2 = if level = 0 then 0 else (bstN f n s ((P.2 : Nat) : Int) 3).1 from rfl)
 clear hc hk2 hB hT hw hr hs hL
 generalize kindF level f n s P.2 = K at *
 generalize (bstN f n s ((P.2 : Nat) : Int) 3).1 = K2 at *
 generalize hQ : blkB K f n s last P = Q at *
 clear hQ
 obtain ⟨M, L⟩ := P
 dsimp only at *
 go_enter Tryz.func12, Tryz.ntmps12
 by_cases h0 : level = 0
 ·have hK := HK.out
  rw [if_pos h0] at hK
  subst hK
  subst h0
  go_wp2_with fail
  refine (HP.out _ HB.out HT.out HW.out).mono ?_; rintro e w3 ⟨rfl, he⟩
  have HE := Lib.hid he
  clear he
  go_wp2_with fail
  go_ret
  exact ⟨rfl, w, Below.refl _ _, HW.out, HE.out⟩
 ·have hK := HK.out
  rw [if_neg h0] at hK
  have HKK := Lib.hid hK
  have g1 : decide ((0 : Int) < (level : Int)) = true := decide_eq_true (by omega)
  have g2 : decide (0 < level) = true := decide_eq_true (by omega)
  have g3 : 0 < level := by omega
  clear hK
  go_wp2_with fail
  refine (HLN.out _ HW.out).mono ?_; rintro e w1 ⟨rfl, d, rfl⟩
  have HB1 : Hid (Below w.heap.size w (w.drewN d)) := below_drewN (Below.refl _ _) d
  go_wp2_with fail
  refine (HBE.out _ (HT.out.toks.below (Nat.le_refl _) HB1.out)).mono ?_; rintro e w2 ⟨rfl, hb2⟩
  have HB2 := Lib.hid (below_then HB1.out hb2)
  clear hb2
  have HW2 := Lib.hid (HW.out.below HB2.out)
  have HT2 := Lib.hid (HT.out.later HB2.out (Nat.le_refl _))
  have HS2 : Hid (Bw ≤ w2.heap.size) := Nat.le_trans HB.out HB2.out.size
  go_wp2_with fail
  rw [← HKK.out]
  refine (HP.out _ HS2.out HT2.out HW2.out).mono ?_; rintro e w3 ⟨rfl, he⟩
  have HE := Lib.hid he
  clear he
  go_wp2_with fail
  go_ret
  exact ⟨rfl, w2, HB2.out, HW2.out, HE.out⟩

theorem zero_writer (w : World) : (zeroValue 40).run Tryz.prog w = .ok (.agg #[.slice none 0 0, .int .u64 0, .int .i64 0]) w := by kernel_rfl
theorem str_full (s : ByteArray) : s.extract 0 s.size = s := by
 apply ByteArray.ext
 simp
set_option maxHeartbeats 8000000 in
theorem deflate_any (s : ByteArray) (level : Nat) (hs : s.size ≤ 10000) (hl : level ≤ 9) (w : World) :
  Calls Tryz.prog 5 #[.string s, .int .i64 (level : Nat)] w fun e w' => e = .returned (.tuple #[.string (dflT s level), .int .i64 0]) ∧ (∃ k, Found s (triesOf level) k) ∧ Below w.heap.size w w' := by
 have HF := Lib.hid (find_any s level hs hl w)
 have HZW := zero_writer
 have hss := str_full s
 go_enter Tryz.func5, Tryz.ntmps5
 go_wp2_with fail
 refine HF.out.mono ?_; rintro e w1 ⟨n, A, c, rfl, hfd, hT, hb1⟩
 have hD : dflB s level = blkB (kindF level (tkT (bt s) s.size (befT (bt s) s.size) (triesOf level)) n s 0) (tkT (bt s) s.size (befT (bt s) s.size) (triesOf level)) n s true (0, 0) := by unfold dflB; rw [kT_eq hfd]
 have hfr := found_right s (triesOf level) n hs hfd
 have hfs := found_sum s (triesOf level) n hs hfd
 have hfk := (found_ok s (triesOf level) n hs hfd).2.2
 have HFD := Lib.hid hfd
 generalize tkT (bt s) s.size (befT (bt s) s.size) (triesOf level) = f at *
 have HSP := Lib.hid (split_any A n c f w1 hT (by omega))
 have HPA : Hid (partsOf f n = if n = 0 then [] else [(0, n)]) := by
  show _ = _
  by_cases h0 : n = 0
  ·rw [if_pos h0]; unfold partsOf; rw [if_pos h0]
  ·rw [if_neg h0]; exact parts_small f n h0 (by omega)
 have HDB := Lib.hid hD
 have HRT := Lib.hid hfr
 have HFS := Lib.hid hfs
 have HB1 := Lib.hid hb1
 generalize hPP : partsOf f n = P at *
 clear hPP hfd hT hb1 HF hD hfr hfs
 go_wp2_with fail
 refine HSP.out.mono ?_; rintro e w2 ⟨g, A2, c2, rfl, hpr, hts, hb2⟩
 have HPR := Lib.hid hpr
 have HTS := Lib.hid hts
 have HB2 := Lib.hid (below_then HB1.out hb2)
 clear hpr hts hb2 HSP
 go_upto_if 27 with fail
 go_cut [8] from 28 to 28 (fun v wx => ∃ b2 c3 A3 c4, v = .slice (some ⟨b2, 0, none⟩) 1 c3 ∧ b2 < wx.heap.size ∧ wx.cell? ⟨b2, 0, none⟩ = some (.slice A3 n c4) ∧ Hid (Toks wx A3 n f) ∧ Hid (Below w.heap.size w wx))
 case first => as_aux_lemma =>
  by_cases h0 : n = 0
  ·have hP := HPA.out
   rw [if_pos h0] at hP
   subst hP
   subst h0
   go_wp2_with fail
   go_meet
   refine ⟨w2.heap.size, 1, none, 0, rfl, by simp, ?_, fun h => by omega, HB2.out.alloc HB2.out.size _⟩
   exact (cell_of_row _ _ 0 _ _ _ (heap_alloc_new w2 _)).trans rfl
  ·have hP := HPA.out
   rw [if_neg h0] at hP
   subst hP
   obtain ⟨b2, rfl, hlt, hc⟩ := HPR.out (by simp)
   have hc0 := hc 0 (by simp)
   clear hc
   have g1 : (([(0, n)] : List (Nat × Nat)).length == 0) = false := rfl
   go_wp2_with fail
   go_meet
   exact ⟨b2, c2, some ⟨g, 0, none⟩, n, rfl, hlt, by simpa [partV] using hc0, HTS, HB2⟩
 case rest =>
  obtain ⟨b2, c3, A3, c4, rfl, hlt, hc0, HT3, HB3⟩ := hcut
  generalize wc = w3 at *
  clear HPR HTS HB2 HPA HB1
  have hne : Hid (b2 ≠ w3.heap.size) := Nat.ne_of_lt hlt
  have HB4 := Lib.hid (HB3.out.alloc HB3.out.size (.cells #[.slice none 0 0, .int .u64 0, .int .i64 0] 40))
  have h34 : Below w3.heap.size w3 (w3.alloc (.cells #[.slice none 0 0, .int .u64 0, .int .i64 0] 40)) := (Below.refl _ _).alloc (Nat.le_refl _) _
  have HT4 := Lib.hid (HT3.out.tokB (Nat.le_refl _) |>.later h34 (Nat.le_refl _))
  have HW4 : Hid (WrB (w3.alloc (.cells #[.slice none 0 0, .int .u64 0, .int .i64 0] 40)) w3.heap.size w3.heap.size none (0, 0)) := wr_new w3 w3.heap.size (Nat.le_refl _)
  have hc4 := (h34.cell (p := ⟨b2, 0, none⟩) hlt).trans hc0
  have HLE := Lib.hid h34.size
  have HLT := Lib.hid hlt
  clear h34 hc0 hlt
  have HLEN := Lib.hid (fun w1 h => dlength_any A3 n c4 f w1 h (by omega))
  rw [HFS.out] at HLEN
  have hs1 : s.size ≤ 9223372036854775807 := by omega
  go_wp2_with fail
  generalize w3.alloc (.cells #[.slice none 0 0, .int .u64 0, .int .i64 0] 40) = w4 at *
  refine wp_loop_rounds 2 ?_
  rw [rounds_succ]
  go_wp2_with fail
  refine (HLEN.out _ HT4.out.toks).mono ?_; rintro e w5 ⟨rfl, hb5⟩
  have HB5 := Lib.hid (below_then HB4.out hb5)
  have HT5 := Lib.hid (HT4.out.later hb5 (Nat.le_refl _))
  have HW5 := Lib.hid (HW4.out.below hb5)
  have HL5 : Hid (w3.heap.size ≤ w5.heap.size) := Nat.le_trans HLE.out hb5.size
  clear hb5 hc4
  have HPT := Lib.hid (dput_any w3.heap.size w3.heap.size level A3 n c4 f s true none (0, 0) (by omega) (by show 0 ≤ _; omega) w5 HL5.out HT5.out HW5.out HRT.out (by omega))
  rw [show ((0, 0) : Bs).2 = 0 from rfl, ← HDB.out] at HPT
  go_wp2_with fail
  refine HPT.out.mono ?_; rintro e w7 ⟨rfl, w6, hb6, hw6, r7, hw7, hu7⟩
  have HB6 := Lib.hid (below_then HB5.out hb6)
  have HL6 : Hid (w3.heap.size ≤ w6.heap.size) := Nat.le_trans HL5.out hb6.size
  have HB7 : Hid (Below w.heap.size w w7) := HB6.out.trans ((Kept.below0 HL6.out (Below.refl _ _) hu7.1 (Wr.ge hw6)).mono HB3.out.size)
  have HW7 := Lib.hid hw7
  have hQ : (dflB s level).2 ≤ 7000000 := by
   have hk := kind_ok level f n s 0 HRT.out (by omega)
   have := blkB_le (last := true) (P := (0, 0)) hk.1 (by omega)
   rw [HDB.out]
   show _ ≤ _
   have e : ((0, 0) : Bs).2 = 0 := rfl
   omega
  have HDN := Lib.hid (wdone_any w3.heap.size w3.heap.size r7 (dflB s level).1 (dflB s level).2 (by omega) w7 HW7.out)
  have HDT := Lib.hid (show dflT s level = text (le (dflB s level).1 (((dflB s level).2 + 7) / 8)) from rfl)
  generalize text (le (dflB s level).1 (((dflB s level).2 + 7) / 8)) = D at *
  clear hb6 hw6 hw7 hu7 hQ
  go_wp2_with fail
  rw [rounds_succ]
  go_wp2_with fail
  refine HDN.out.mono ?_; rintro e w8 ⟨rfl, hb8⟩
  have HB8 := Lib.hid (below_then HB7.out hb8)
  clear hb8
  go_wp2_with fail
  go_ret2
  exact ⟨by rw [HDT.out]; rfl, ⟨n, HFD.out⟩, HB8.out⟩
end Go.Proofs.YtmkeicfklbepnaaGreat
