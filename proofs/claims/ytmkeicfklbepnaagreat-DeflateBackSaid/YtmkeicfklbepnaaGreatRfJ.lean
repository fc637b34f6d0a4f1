/-
 The document's stream: block.
-/
import Derived.Test.YtmkeicfklbepnaaGreatPkBC
import Derived.Deep.RegionLaw
import Derived.BigRegion
namespace Go.Proofs.YtmkeicfklbepnaaGreat
set_option maxRecDepth 100000
set_option linter.unusedVariables false
set_option linter.unusedSimpArgs false
open Go.RowKit Go.Deep Go.Joins
def badP (g : Nat) (w : World) : Nat := match w.cell? ⟨g, 3, none⟩ with | some (.int _ z) => z.toNat | _ => 0
theorem badP_of {w : World} {g gr : Nat} {v : Value} {lim : Int} {e : Nat} (h : w.heap[g]? = some (stC gr v lim (e : Nat))) : badP g w = e := by
 unfold badP stC at *
 rw [cell_of_row w g 3 _ _ _ h]
 rfl
def msB (g gr : Nat) (s : ByteArray) (w : World) : Nat := if badP g w = 0 then 8 * s.size - rdP gr w + 1 else 0
theorem msB_good {w : World} {B g gr a : Nat} {r : Option Nat} {s : ByteArray} {lim : Int} {o : List Nat} (h : RS w B g gr r s lim a o) : msB g gr s w = 8 * s.size - a + 1 := by
 obtain ⟨v, hb, _⟩ := h.blk
 unfold msB
 rw [if_pos (badP_of (e := 0) hb), rdP_of h.rd]
theorem msB_bad {w : World} {g gr k : Nat} {s : ByteArray} (h : RB w g k) : msB g gr s w = 0 := by
 obtain ⟨gr', v, lim, hb, h1, _⟩ := h
 unfold msB
 rw [if_neg (by rw [badP_of hb]; exact h1)]
/-- What block's loop keeps. -/
def BlkI (w wr : World) (B g gr a0 : Nat) (r : Option Nat) (s : ByteArray) (lim : Int) (o0 : List Nat) (c d : Cod) : Prop :=
 (∃ a o r', RS wr B g gr r' s lim a o ∧ UpR g gr r r' w wr ∧ ∀ ans, Runs (stepM c d) (srcR s lim) () a o ans → Runs (stepM c d) (srcR s lim) () a0 o0 ans) ∨
 (∃ k r', RB wr g k ∧ UpR g gr r r' w wr ∧ Runs (stepM c d) (srcR s lim) () a0 o0 (.error k))
set_option maxHeartbeats 16000000 in
theorem rblock_st (B g gr a0 : Nat) (r : Option Nat) (s : ByteArray) (lim : Int) (o0 : List Nat) (c d : Cod) (X1 X2 : Value) (hx1 : X1.oneCell' = true) (hx2 : X2.oneCell' = true) (hs : s.size ≤ 1000000) (hl : lim ≤ 1000000000) (w : World) (hB : B ≤ w.heap.size) (hS : RS w B g gr r s lim a0 o0) (hc : CdT w X1 c) (hd : CdT w X2 d) :
  Calls Tryz.prog 25 #[.pointer (some ⟨g, 0, none⟩), .agg #[X1], .agg #[X2]] w fun e w' => OutR w B g gr r s lim (fun _ e => e = .returned (.tuple #[])) (fun e => e = .returned (.tuple #[])) (signsM c d (srcR s lim) a0 o0) e w' := by
 have hip : (Tryz.prog.info? 70).map (·.size) = some 1 := by kernel_rfl
 obtain ⟨i0, hi, iz0, iz1, iz2⟩ := partsR (P := Tryz.prog) (T := 5) (z := .int .u8 0) (s := 1) (b := 1) (by kernel_rfl)
 have hs1 : (w.alloc (.cells #[X1] 70)).heap.size = w.heap.size + 1 := by simp
 have hb1 : Below w.heap.size w (w.alloc (.cells #[X1] 70)) := (Below.refl _ _).alloc (Nat.le_refl _) _
 have hb2 : Below w.heap.size w ((w.alloc (.cells #[X1] 70)).alloc (.cells #[X2] 70)) := hb1.alloc hb1.size _
 have hy1 : ((w.alloc (.cells #[X1] 70)).alloc (.cells #[X2] 70)).heap[w.heap.size]? = some (.cells #[X1] 70 (0, 0)) := (Below.heap_alloc _ _ w.heap.size (by rw [hs1]; omega)).trans (heap_alloc_new w _)
 have hy2 := heap_alloc_new (w.alloc (.cells #[X1] 70)) (.cells #[X2] 70)
 rw [hs1] at hy2
 have HY1 := Lib.hid hy1
 have HY2 := Lib.hid hy2
 have HS := Lib.hid (hS.below hb2)
 have HC := Lib.hid (hc.below hb2)
 have HD := Lib.hid (hd.below hb2)
 have HU := Lib.hid (upr_below (g := g) (gr := gr) (r := r) hb2)
 have HBW : Hid (B ≤ ((w.alloc (.cells #[X1] 70)).alloc (.cells #[X2] 70)).heap.size) := Nat.le_trans hB hb2.size
 clear hs1 hb1 hb2 hy1 hy2 hS hc hd
 go_enter Tryz.func25, Tryz.ntmps25
 go_upto_region 1 with fail
 generalize (w.alloc (.cells #[X1] 70)).alloc (.cells #[X2] 70) = w1 at *
 go_loopw [6] (fun _ wr => Hid (BlkI w1 wr B g gr a0 r s lim o0 c d)) (fun _ wr => msB g gr s wr)
 case atStart => exact .inl ⟨a0, o0, r, HS.out, UpR.refl _ _ _ _, fun _ h => h⟩
 case round =>
  rcases hrel.out with ⟨a, o, r1, hSr, hUr, hRu⟩ | ⟨k, r1, hbad, hUr, hRu⟩
  ·obtain ⟨v, hb, how, hvr⟩ := hSr.blk
   unfold stC at hb
   have c3 := (cell_of_row _ g 3 _ _ _ hb).trans (show _ = some (Value.int .i64 0) from rfl)
   have k4 := (cell_of_row _ _ 0 _ _ _ (hUr.cells HS.out HY1.out (by decide) (by decide) (by decide))).trans (show _ = some X1 from rfl)
   have HBr : Hid (B ≤ wr.heap.size) := Nat.le_trans HBW.out hUr.1.size
   have HSG := Lib.hid (rsign_cd B g gr a r1 s lim o c X1 hs wr HBr.out hSr (HC.out.up HS.out hUr))
   have HMS := Lib.hid (msB_good hSr)
   have HSr := Lib.hid hSr
   have HUr := Lib.hid hUr
   have HRU := Lib.hid hRu
   clear hb how hvr hSr hUr hRu hrel
   go_wp2_with fail
   refine HSG.out.mono ?_; rintro e w2 hout
   clear HSG c3 k4
   cases hsg : signM c (srcR s lim) a o with
   | error k =>
    rw [hsg] at hout
    obtain ⟨r2, hu2, rfl, hbad⟩ := hout
    have HU2 := Lib.hid (HUr.out.then hu2)
    have HR2 := Lib.hid (HRU.out _ (.err (st_bad hsg)))
    have HBD := Lib.hid hbad
    obtain ⟨gr', v, lim', hb, hk0, hk1⟩ := hbad
    unfold stC at hb
    have c3 := (cell_of_row _ g 3 _ _ _ hb).trans (show _ = some (Value.int .i64 (k : Nat)) from rfl)
    have hk2 : (((k : Nat) : Int) != 0) = true := by rw [bne_iff_ne]; omega
    clear hb hu2 hsg
    go_wp2_with fail
    first | go_end0 | refine bodyPost_ret (results_none rfl _ _ _) rfl ?_
    rw [show signsM c d (srcR s lim) a0 o0 = .error k from loop_of HR2.out]
    exact ⟨r2, HU.out.then HU2.out, rfl, HBD.out⟩
   | ok p =>
    obtain ⟨x, a1, o1⟩ := p
    rw [hsg] at hout
    obtain ⟨r2, hu2, rfl, hS2⟩ := hout
    have hgrow := (sign_ok c (srcR s lim) a o x a1 o1 hsg)
    have HU2 := Lib.hid (HUr.out.then hu2)
    obtain ⟨v2, hb2, how2, hv2⟩ := hS2.blk
    have HB2 := Lib.hid hb2
    unfold stC at hb2
    have c3 := (cell_of_row _ g 3 _ _ _ hb2).trans (show _ = some (Value.int .i64 0) from rfl)
    have HS2 := Lib.hid hS2
    have HSG := Lib.hid hsg
    have HW2 := Lib.hid (And.intro how2 hv2)
    have HG2 := Lib.hid hgrow
    have HBw2 : Hid (B ≤ w2.heap.size) := Nat.le_trans HBr.out hu2.1.size
    clear hb2 how2 hv2 hS2 hsg hgrow hu2
    by_cases h256 : x = 256
    ·subst h256
     have HR2 := Lib.hid (HRU.out _ (.done (st_end HSG.out)))
     go_wp2_with fail
     first | go_end0 | refine bodyPost_ret (results_none rfl _ _ _) rfl ?_
     rw [show signsM c d (srcR s lim) a0 o0 = .ok ((), a1, o1) from loop_of HR2.out]
     exact ⟨r2, HU.out.then HU2.out, rfl, HS2.out⟩
    have hq1 : (((x : Nat) : Int) == 256) = false := by rw [beq_eq_false_iff_ne]; omega
    by_cases hlt : x < 256
    ·have hq2 : decide (((x : Nat) : Int) < 256) = true := decide_eq_true (by omega)
     have HRM : Hid (Calls Tryz.prog 20 #[.pointer (some ⟨g, 0, none⟩), .int .i64 1] w2 fun e w' => OutR w2 B g gr r2 s lim (fun _ e => e = .returned (.tuple #[])) (fun e => e = .returned (.tuple #[])) (roomM 1 (srcR s lim) a1 o1) e w') := rroom_any B g gr a1 1 r2 s lim o1 (by omega) hl w2 HS2.out
     have HST := Lib.hid (st_byte (d := d) HSG.out hlt)
     go_wp2_with fail
     refine HRM.out.mono ?_; rintro e w3 hout
     clear HRM c3
     by_cases hrm : o1.length + 1 ≤ lim.toNat
     ·rw [show roomM 1 (srcR s lim) a1 o1 = .ok ((), a1, o1) from if_pos hrm] at hout
      obtain ⟨r3, hu3, rfl, hS3⟩ := hout
      have HR3 := Lib.hid (fun ans h => HRU.out ans (.more (c1 := ()) (a1 := a1) (o1 := o1 ++ [x]) (by rw [HST.out]; unfold bindM putM; rw [if_pos (show o1.length + 1 ≤ (srcR s lim).lim from hrm)]; rfl) h))
      obtain ⟨v3, hb3, how3, hv3⟩ := hS3.blk
      have HU3 := Lib.hid (HU2.out.then hu3)
      have HBw3 : Hid (B ≤ w3.heap.size) := Nat.le_trans HBw2.out hu3.1.size
      have HB3 := Lib.hid hb3
      have HO3 := Lib.hid how3
      have HS3 := Lib.hid hS3
      unfold stC at hb3
      have c3 := (cell_of_row _ g 3 _ _ _ hb3).trans (show _ = some (Value.int .i64 0) from rfl)
      have c1 := (cell_of_row _ g 1 _ _ _ hb3).trans (show _ = some v3 from rfl)
      have hk9 : o1.length ≤ 1000000000 := by omega
      have hw8 : IntKind.u8.wrap ((x : Nat) : Int) = (x : Nat) := by rw [IntKind.wrap_u8]; omega
      have HRm := Lib.hid hrm
      clear hb3 how3 hv3 hS3 hu3 hrm
      go_upto_region 7 with fail
      go_wp2_with (at_builtin; (refine wpList_append_own_at _ rfl (.tmp 43) (.tmp 46) _ rfl B 5 i0 (.int .u8 0) 1 1 Tryz.underlying37 hi iz0 iz1 iz2 rfl (by decide) _ o1.length (cells8 o1) rfl (HO3.out.alloc _) ⟨w3.heap.size, 0, none⟩ 1 1 [.int .u8 (x : Nat)] rfl rfl ?c1 ?c2 ?c3 ?c4 ?c5 ?_))
      case c1 => exact cell_one_new _ _ _
      case c2 => intro u hu; simp at hu; subst hu; rfl
      case c3 => unfold maxLen; omega
      case c4 => omega
      case c5 => have := HBw3.out; simp; omega
      intro v4 w4 hown hgrow _ hat
      obtain ⟨A4, cp4, rfl⟩ := row8_slice hown
      have hG := HS3.out.grow HB3.out (wA := w3.alloc (.cells #[.int .u8 (x : Nat)] 5)) ((Below.refl _ _).alloc (Nat.le_refl _) _) hgrow hown hlt HRm.out (by
       rcases hat with e | e
       ·exact .inl e
       ·exact .inr ⟨_, e, by simp⟩)
      have hb4 := hG.1
      unfold stC at hb4
      have k1 := (cell_of_row _ g 1 _ _ _ hb4).trans (show _ = some v3 from rfl)
      have kf := frozen_of_row w4 g 1 _ _ hb4
      have HG := Lib.hid hG.2
      clear hown hgrow hat hG hb4 c1 c3
      go_wp2_with fail
      refine ⟨.inl ⟨a1, o1 ++ [x], _, HG.out.1, HU3.out.then HG.out.2, HR3.out⟩, ?_⟩
      rw [HMS.out, msB_good HG.out.1]
      obtain ⟨l, e1, _, e2, _⟩ := HG2.out
      have := HG.out.1.le
      omega
     ·rw [show roomM 1 (srcR s lim) a1 o1 = .error 14 from if_neg hrm] at hout
      obtain ⟨r3, hu3, rfl, hbad⟩ := hout
      have HR3 := Lib.hid (HRU.out (.error 14) (.err (by rw [HST.out]; unfold bindM putM; rw [if_neg (show ¬ o1.length + 1 ≤ (srcR s lim).lim from hrm)])))
      have HU3 := Lib.hid (HU2.out.then hu3)
      have HBD := Lib.hid hbad
      obtain ⟨gr', v, lim', hb, hk0, hk1⟩ := hbad
      unfold stC at hb
      have c3 := (cell_of_row _ g 3 _ _ _ hb).trans (show _ = some (Value.int .i64 ((14 : Nat) : Int)) from rfl)
      clear hb hu3 hrm
      go_wp2_with fail
      refine ⟨.inr ⟨14, r3, HBD.out, HU3.out, HR3.out⟩, ?_⟩
      rw [msB_bad HBD.out, HMS.out]
      omega
    ·have hq2 : decide (((x : Nat) : Int) < 256) = false := decide_eq_false (by omega)
     have hgt : 256 < x := by omega
     have HST := Lib.hid (st_again (d := d) HSG.out hgt)
     have hle := lenOf_le x
     have HBA : Hid (∀ w : World, Calls Tryz.prog 45 #[.int .i64 (x : Nat)] w fun r w' => r = .returned (.tuple #[.int .i64 ((lenOf x).1 : Nat), .int .i64 ((lenOf x).2 : Nat)]) ∧ w = w') := fun w => base_any (x : Nat) w
     have HLX : Hid (againM x d = bindM (numberM ((lenOf x).1, (lenOf x).2)) fun n => bindM (signM d) fun y => bindM (numberM (distOf y)) fun k => copyM n k) := rfl
     generalize (lenOf x).1 = n1 at *
     generalize (lenOf x).2 = n2 at *
     obtain ⟨hn1, hn2⟩ := hle
     go_wp2_with fail
     refine (HBA.out _).mono ?_; rintro e w2' ⟨rfl, rfl⟩
     clear HBA
     by_cases hz : n1 = 0
     ·subst hz
      have HR3 := Lib.hid (HRU.out (.error 10) (.err (by rw [HST.out]; refine bindR_err ?_; rw [HLX.out]; exact bindR_err (num_no rfl))))
      have HF := Lib.hid (rfail_ok g gr v2 lim 10 w2 HB2.out)
      go_wp2_with fail
      refine HF.out.mono ?_; rintro e w3 ⟨rfl, rfl⟩
      go_wp2_with fail
      first | go_end0 | refine bodyPost_ret (results_none rfl _ _ _) rfl ?_
      rw [show signsM c d (srcR s lim) a0 o0 = .error 10 from loop_of HR3.out]
      exact ⟨r2, (HU.out.then HU2.out).then (upr_set w2 3 _), rfl, rb_set 10 (by decide) (by decide) HB2.out⟩
     have hz1 : (((n1 : Nat) : Int) == 0) = false := by rw [beq_eq_false_iff_ne]; omega
     have HNM := Lib.hid (rnum_any B g gr a1 n2 r2 s lim o1 (by omega) hs w2 HS2.out)
     go_wp2_with fail
     refine HNM.out.mono ?_; rintro e w3 hout
     clear HNM c3
     by_cases hf : a1 + n2 ≤ 8 * s.size
     ·rw [show readM1 n2 (srcR s lim) a1 o1 = .ok (bitsAt (num s) a1 n2, a1 + n2, o1) from if_pos hf] at hout
      obtain ⟨r3, hu3, rfl, hS3⟩ := hout
      have hbl := bits_lt (num s) a1 n2 5 hn2
      have HN1 := Lib.hid (num_ok (p := (n1, n2)) (s := srcR s lim) (a := a1) (o := o1) hz hf)
      change Hid (numberM (n1, n2) (srcR s lim) a1 o1 = .ok (n1 + bitsAt (num s) a1 n2, a1 + n2, o1)) at HN1
      generalize bitsAt (num s) a1 n2 = bv at *
      have hwn : IntKind.i64.wrap ((n1 : Int) + (bv : Int)) = ((n1 + bv : Nat) : Int) := by rw [IntWalk.i64_in _ (by omega)]; omega
      have HU3 := Lib.hid (HU2.out.then hu3)
      have HBw3 : Hid (B ≤ w3.heap.size) := Nat.le_trans HBw2.out hu3.1.size
      have k5 := (cell_of_row _ _ 0 _ _ _ (HU3.out.cells HS.out HY2.out (by decide) (by decide) (by decide))).trans (show _ = some X2 from rfl)
      have HSD := Lib.hid (rsign_cd B g gr (a1 + n2) r3 s lim o1 d X2 hs w3 HBw3.out hS3 (HD.out.up HS.out HU3.out))
      have HS3 := Lib.hid hS3
      clear hu3 hS3
      have hnn : n1 + bv ≤ 1000 := by omega
      have hnp : 1 ≤ n1 + bv := by omega
      generalize n1 + bv = nn at *
      go_wp2_with fail
      refine HSD.out.mono ?_; rintro e w4 hout
      clear HSD
      cases hsd : signM d (srcR s lim) (a1 + n2) o1 with
      | error k =>
       rw [hsd] at hout
       obtain ⟨r4, hu4, rfl, hbad⟩ := hout
       have HRX := Lib.hid (HRU.out (.error k) (.err (by rw [HST.out]; refine bindR_err ?_; rw [HLX.out, bindR_ok HN1.out]; exact bindR_err hsd)))
       have HU4 := Lib.hid (HU3.out.then hu4)
       have HBD := Lib.hid hbad
       obtain ⟨grb, vb, lb, hbb, hk0, _⟩ := hbad
       unfold stC at hbb
       have c3 := (cell_of_row _ g 3 _ _ _ hbb).trans (show _ = some (Value.int .i64 ((k : Nat) : Int)) from rfl)
       have hk2 : (((k : Nat) : Int) != 0) = true := by rw [bne_iff_ne]; omega
       clear hbb hu4 hsd
       go_wp2_with fail
       first | go_end0 | refine bodyPost_ret (results_none rfl _ _ _) rfl ?_
       rw [show signsM c d (srcR s lim) a0 o0 = .error k from loop_of HRX.out]
       exact ⟨r4, HU.out.then HU4.out, rfl, HBD.out⟩
      | ok p =>
       obtain ⟨y, a3, o3⟩ := p
       rw [hsd] at hout
       obtain ⟨r4, hu4, rfl, hS4⟩ := hout
       obtain ⟨l4, e41, e42, e43, _⟩ := sign_ok d (srcR s lim) (a1 + n2) o1 y a3 o3 hsd
       subst e42
       have hley := distOf_le y
       have HFA : Hid (∀ w : World, Calls Tryz.prog 46 #[.int .i64 (y : Nat)] w fun r w' => r = .returned (.tuple #[.int .i64 ((distOf y).1 : Nat), .int .i64 ((distOf y).2 : Nat)]) ∧ w = w') := fun w => by
        have h := far_any (y : Nat) w
        rw [if_neg (by omega), if_neg (by omega), Int.toNat_natCast] at h
        exact h
       have HU4 := Lib.hid (HU3.out.then hu4)
       have HBw4 : Hid (B ≤ w4.heap.size) := Nat.le_trans HBw3.out hu4.1.size
       obtain ⟨v4, hb4, _⟩ := hS4.blk
       have HB4 := Lib.hid hb4
       unfold stC at hb4
       have c3 := (cell_of_row _ g 3 _ _ _ hb4).trans (show _ = some (Value.int .i64 0) from rfl)
       have HS4 := Lib.hid hS4
       have HAG : Hid (∀ ans, bindM (numberM (distOf y)) (fun k => copyM nn k) (srcR s lim) a3 o3 = ans → againM x d (srcR s lim) a1 o3 = ans) := fun ans h => by
        rw [HLX.out, bindR_ok HN1.out]
        exact (bindR_ok hsd).trans h
       have HDP : Hid (distOf y = ((distOf y).1, (distOf y).2)) := rfl
       rw [HDP.out] at HAG
       have HA34 : Hid (a < a3) := by obtain ⟨l, e1, _, e2, _⟩ := HG2.out; show _ < _; omega
       clear hb4 hu4 hS4 hsd e41 e43 HDP
       generalize (distOf y).1 = d1 at *
       generalize (distOf y).2 = d2 at *
       obtain ⟨hd1, hd2⟩ := hley
       go_wp2_with fail
       refine (HFA.out _).mono ?_; rintro e w4' ⟨rfl, rfl⟩
       clear HFA
       by_cases hzd : d1 = 0
       ·subst hzd
        have HRX := Lib.hid (HRU.out (.error 10) (.err (by rw [HST.out]; refine bindR_err (HAG.out _ (bindR_err (num_no rfl))))))
        have HF := Lib.hid (rfail_ok g gr v4 lim 10 w4 HB4.out)
        go_wp2_with fail
        refine HF.out.mono ?_; rintro e w5 ⟨rfl, rfl⟩
        go_wp2_with fail
        first | go_end0 | refine bodyPost_ret (results_none rfl _ _ _) rfl ?_
        rw [show signsM c d (srcR s lim) a0 o0 = .error 10 from loop_of HRX.out]
        exact ⟨r4, (HU.out.then HU4.out).then (upr_set w4 3 _), rfl, rb_set 10 (by decide) (by decide) HB4.out⟩
       have hzd1 : (((d1 : Nat) : Int) == 0) = false := by rw [beq_eq_false_iff_ne]; omega
       have HNM := Lib.hid (rnum_any B g gr a3 d2 r4 s lim o3 (by omega) hs w4 HS4.out)
       go_wp2_with fail
       refine HNM.out.mono ?_; rintro e w5 hout
       clear HNM c3
       have hpos : decide ((0 : Int) < ((nn : Nat) : Int)) = true := decide_eq_true (by omega)
       by_cases hf2 : a3 + d2 ≤ 8 * s.size
       ·rw [show readM1 d2 (srcR s lim) a3 o3 = .ok (bitsAt (num s) a3 d2, a3 + d2, o3) from if_pos hf2] at hout
        obtain ⟨r5, hu5, rfl, hS5⟩ := hout
        have hbl2 := bits_lt (num s) a3 d2 13 hd2
        have HN2 := Lib.hid (num_ok (p := (d1, d2)) (s := srcR s lim) (a := a3) (o := o3) hzd hf2)
        change Hid (numberM (d1, d2) (srcR s lim) a3 o3 = .ok (d1 + bitsAt (num s) a3 d2, a3 + d2, o3)) at HN2
        generalize bitsAt (num s) a3 d2 = bw at *
        have hwd : IntKind.i64.wrap ((d1 : Int) + (bw : Int)) = ((d1 + bw : Nat) : Int) := by rw [IntWalk.i64_in _ (by omega)]; omega
        have hdd : d1 + bw ≤ 50000 := by omega
        have hdp : 1 ≤ d1 + bw := by omega
        have HU5 := Lib.hid (HU4.out.then hu5)
        have HBw5 : Hid (B ≤ w5.heap.size) := Nat.le_trans HBw4.out hu5.1.size
        obtain ⟨v5, hb5, how5, hv5⟩ := hS5.blk
        obtain ⟨A5, cp5, rfl⟩ := row8_slice how5
        have HB5 := Lib.hid hb5
        unfold stC at hb5
        have c3 := (cell_of_row _ g 3 _ _ _ hb5).trans (show _ = some (Value.int .i64 0) from rfl)
        have c1 := (cell_of_row _ g 1 _ _ _ hb5).trans (show _ = some (Value.slice A5 o3.length cp5) from rfl)
        have HS5 := Lib.hid hS5
        have HCP : Hid (∀ ans, copyM nn (d1 + bw) (srcR s lim) (a3 + d2) o3 = ans → againM x d (srcR s lim) a1 o3 = ans) := fun ans h => HAG.out _ ((bindR_ok HN2.out).trans h)
        clear hb5 hu5 hS5 how5 hv5
        generalize d1 + bw = dd at *
        have hrm3 := HS5.out.room
        by_cases hdl : o3.length < dd
        ·have hdl1 : decide ((o3.length : Int) < ((dd : Nat) : Int)) = true := decide_eq_true (by omega)
         have HRX := Lib.hid (HRU.out (.error 11) (.err (by rw [HST.out]; exact bindR_err (HCP.out _ (if_pos hdl)))))
         have HF := Lib.hid (rfail_ok g gr (.slice A5 o3.length cp5) lim 11 w5 HB5.out)
         have HBD := Lib.hid (rb_set 11 (by decide) (by decide) HB5.out)
         have HU6 : Hid (UpR g gr r r5 w1 (w5.setCell ⟨g, 3, none⟩ (.int .i64 ((11 : Nat) : Int)))) := HU5.out.then (upr_set w5 3 _)
         go_wp2_with fail
         refine HF.out.mono ?_; rintro e w6 ⟨rfl, rfl⟩
         clear c3 c1 HF
         change Hid (RB (w5.setCell ⟨g, 3, none⟩ (.int .i64 11)) g 11) at HBD
         change Hid (UpR g gr r r5 w1 (w5.setCell ⟨g, 3, none⟩ (.int .i64 11))) at HU6
         generalize w5.setCell ⟨g, 3, none⟩ (.int .i64 11) = w6 at *
         obtain ⟨grb, vb, lb, hbb, _, _⟩ := HBD.out
         unfold stC at hbb
         have c3 := (cell_of_row _ g 3 _ _ _ hbb).trans (show _ = some (Value.int .i64 ((11 : Nat) : Int)) from rfl)
         have HRN := Lib.hid (rroom_no g 11 (nn : Nat) w6 HBD.out)
         clear hbb
         go_wp2_with fail
         refine HRN.out.mono ?_; rintro e wz ⟨rfl, rfl⟩
         go_wp2_with fail
         go_loopw [12] (fun v wr => v = .int .i64 0 ∧ wr = wz) (fun _ _ => 0)
         case atStart => exact ⟨rfl, rfl⟩
         case round =>
          obtain ⟨rfl, rfl⟩ := hrel
          go_wp2_with fail
          refine ⟨.inr ⟨11, r5, HBD.out, HU6.out, HRX.out⟩, ?_⟩
          rw [msB_bad HBD.out, HMS.out]
          omega
        have hdl1 : decide ((o3.length : Int) < ((dd : Nat) : Int)) = false := decide_eq_false (by omega)
        have HRM := Lib.hid (rroom_any B g gr (a3 + d2) nn r5 s lim o3 (by omega) hl w5 HS5.out)
        by_cases hrr : o3.length + nn ≤ lim.toNat
        ·go_wp2_with fail
         refine HRM.out.mono ?_; rintro e w6 hout
         clear HRM c3 c1
         rw [show roomM nn (srcR s lim) (a3 + d2) o3 = .ok ((), a3 + d2, o3) from if_pos hrr] at hout
         obtain ⟨r6, hu6, rfl, hS6⟩ := hout
         have HRX := Lib.hid (fun ans h => HRU.out ans (.more (c1 := ()) (a1 := a3 + d2) (o1 := copyL o3 dd nn) (by rw [HST.out]; exact (bindR_ok (HCP.out (.ok ((), a3 + d2, copyL o3 dd nn)) (by unfold copyM; rw [if_neg hdl, if_pos (show o3.length + nn ≤ (srcR s lim).lim from hrr)]))).trans rfl) h))
         have HU6 := Lib.hid (HU5.out.then hu6)
         have HBw6 : Hid (B ≤ w6.heap.size) := Nat.le_trans HBw5.out hu6.1.size
         have HS6 := Lib.hid hS6
         clear hu6 hS6 hpos
         go_wp2_with fail
         go_loopw [12] (fun v wr => ∃ (j : Nat) (r' : Option Nat), j ≤ nn ∧ v = .int .i64 (j : Nat) ∧ Hid (RS wr B g gr r' s lim (a3 + d2) (copyL o3 dd j)) ∧ Hid (UpR g gr r r' w1 wr)) (fun v _ => nn - (intOf v).toNat)
         case atStart => exact ⟨0, r6, Nat.zero_le _, rfl, HS6, HU6⟩
         case round =>
          obtain ⟨j, r7, hj, rfl, HS7, HU7⟩ := hrel
          have hlen := copyL_len o3 dd j
          obtain ⟨v7, hb7, how7, hv7⟩ := HS7.out.blk
          by_cases hjn : j < nn
          ·have hjd : decide (((j : Nat) : Int) < ((nn : Nat) : Int)) = true := decide_eq_true (by omega)
           obtain ⟨g7, cap7, rfl, hg7, hgl7, hcc7⟩ := own_form8 how7 (by omega)
           have hsm := HS7.out.small
           have HOC1 : Hid (copyL o3 dd (j + 1) = copyL o3 dd j ++ [(copyL o3 dd j).getD ((copyL o3 dd j).length - dd) 0]) := rfl
           rw [hlen] at HOC1
           have hby : (copyL o3 dd j).getD (o3.length + j - dd) 0 < 256 := by
            rw [List.getD_eq_getElem?_getD]
            cases hq : (copyL o3 dd j)[o3.length + j - dd]? with
            | none => decide
            | some y => exact hsm y (List.mem_of_getElem? hq)
           have hcell : wr.cell? ⟨g7, o3.length + j - dd, none⟩ = some (.int .u8 ((copyL o3 dd j).getD (o3.length + j - dd) 0 : Nat)) := hcc7 _ _ (cells8_get _ _ (by omega))
           have HHL := Lib.hid hlen
           rw [hlen] at hb7 how7
           have HO7 := Lib.hid how7
           have HB7 := Lib.hid hb7
           have hxl : (copyL o3 dd j).length + 1 ≤ lim.toNat := by omega
           have HLX := Lib.hid hxl
           generalize copyL o3 dd j = oj at *
           generalize oj.getD (o3.length + j - dd) 0 = yb at *
           unfold stC at hb7
           have c3 := (cell_of_row _ g 3 _ _ _ hb7).trans (show _ = some (Value.int .i64 0) from rfl)
           have c1 := (cell_of_row _ g 1 _ _ _ hb7).trans (show _ = some (Value.slice (some ⟨g7, 0, none⟩) (o3.length + j) cap7) from rfl)
           have c1a : (wr.alloc (.cells #[.int .u8 (yb : Nat)] 5)).cell? ⟨g, 1, none⟩ = some (.slice (some ⟨g7, 0, none⟩) (o3.length + j) cap7) := by rw [World.cell?_alloc_lt _ _ _ (lt_of_block hb7)]; exact c1
           obtain ⟨q, hq, hq2⟩ : ∃ q : Nat, o3.length + j - dd = q ∧ ((o3.length : Int) + (j : Int) - (dd : Int)) = (q : Int) := ⟨o3.length + j - dd, rfl, by omega⟩
           rw [hq] at hcell
           have hqz : q < o3.length + j := by omega
           have hw1 : IntKind.i64.wrap (q : Int) = (q : Int) := by rw [IntKind.wrap_i64]; omega
           have hqi : (q : Int) < (o3.length : Int) + (j : Int) := by omega
           have hzj : o3.length + j ≤ 1000000000 := by omega
           have hne : (Value.slice (some ⟨g7, 0, none⟩) (o3.length + j) cap7).ownBlock ≠ some g := own_ne (cs := []) how7 hb7 (by decide)
           have hBw : B ≤ wr.heap.size := Nat.le_trans (Nat.le_trans HBW.out HU7.out.1.size) (Nat.le_refl _)
           clear hb7 how7 hcc7 hq hxl hlen hsm
           go_wp2_with fail
           go_region_law ((refine step_append_lies _ (by rfl) (.tmp 121) (.tmp 135) _ (by rfl) B 5 i0 (.int .u8 0) 1 1 Tryz.underlying37 hi iz0 iz1 iz2 rfl (by decide) (.slice (some ⟨g7, 0, none⟩) (o3.length + j) cap7) (o3.length + j) (cells8 oj) (by rfl) (HO7.out.alloc _).drew ⟨wr.heap.size, 0, none⟩ 1 1 [.int .u8 (yb : Nat)] (by rfl) rfl (by exact World.news_of_block (heap_alloc_new _ _)) (by intro u hu; simp at hu; subst hu; rfl) (by omega) (by unfold maxLen; omega) (by omega) (by simp; omega) (wr.heap.size + 1) (by simp) ?_; intro g8 cap8 w8 hown hgrow hat hlt; have hb8 := after_appR HB7.out hgrow hne; unfold stC at hb8; have k0 := cell_of_row w8 g 1 _ _ _ hb8; have kf := frozen_of_row w8 g 1 _ _ hb8))
           all_goals
            have HG := Lib.hid (HS7.out.grow HB7.out (wA := (wr.alloc (.cells #[.int .u8 (yb : Nat)] 5)).drew) (((Below.refl wr.heap.size wr).alloc (Nat.le_refl _) _).drew) hgrow (by rw [HHL.out]; exact hown) hby HLX.out (by
             rcases hat with e | e
             ·exact .inl e.symm
             ·exact .inr ⟨g8, rfl, by omega⟩)).2
            clear hown hgrow hat hlt hb8 k0 kf c1 c1a c3
            go_wp2_with fail
            exact ⟨⟨j + 1, _, by omega, by go_num, by show RS _ _ _ _ _ _ _ _ _; rw [HOC1.out]; exact HG.out.1, HU7.out.then HG.out.2⟩, by simp [intOf]; omega⟩
          ·obtain rfl : j = nn := by omega
           have hjd : decide (((j : Nat) : Int) < ((j : Nat) : Int)) = false := decide_eq_false (by omega)
           clear hb7 how7
           go_wp2_with fail
           refine ⟨.inl ⟨a3 + d2, copyL o3 dd j, r7, HS7.out, HU7.out, HRX.out⟩, ?_⟩
           rw [HMS.out, msB_good HS7.out]
           have h1 := HA34.out
           have h2 := HS7.out.le
           omega
        ·go_wp2_with fail
         refine HRM.out.mono ?_; rintro e w6 hout
         clear HRM c3 c1
         rw [show roomM nn (srcR s lim) (a3 + d2) o3 = .error 14 from if_neg hrr] at hout
         obtain ⟨r6, hu6, rfl, hbad⟩ := hout
         have HRX := Lib.hid (HRU.out (.error 14) (.err (by rw [HST.out]; exact bindR_err (HCP.out _ (by unfold copyM; rw [if_neg hdl, if_neg (show ¬ o3.length + nn ≤ (srcR s lim).lim from hrr)])))))
         have HU6 := Lib.hid (HU5.out.then hu6)
         have HBD := Lib.hid hbad
         obtain ⟨grb, vb, lb, hbb, _, _⟩ := hbad
         unfold stC at hbb
         have c3 := (cell_of_row _ g 3 _ _ _ hbb).trans (show _ = some (Value.int .i64 ((14 : Nat) : Int)) from rfl)
         clear hbb hu6
         go_wp2_with fail
         go_loopw [12] (fun v wr => v = .int .i64 0 ∧ wr = w6) (fun _ _ => 0)
         case atStart => exact ⟨rfl, rfl⟩
         case round =>
          obtain ⟨rfl, rfl⟩ := hrel
          go_wp2_with fail
          refine ⟨.inr ⟨14, r6, HBD.out, HU6.out, HRX.out⟩, ?_⟩
          rw [msB_bad HBD.out, HMS.out]
          omega
       ·rw [show readM1 d2 (srcR s lim) a3 o3 = .error 3 from if_neg hf2] at hout
        obtain ⟨r5, hu5, rfl, hbad⟩ := hout
        have HRX := Lib.hid (HRU.out (.error 3) (.err (by rw [HST.out]; exact bindR_err (HAG.out _ (bindR_err (num_err (p := (d1, d2)) hzd hf2))))))
        have HU5 := Lib.hid (HU4.out.then hu5)
        have HBD := Lib.hid hbad
        have hwd0 : IntKind.i64.wrap ((d1 : Nat) : Int) = (d1 : Nat) := IntWalk.i64_in _ (by omega)
        clear hbad hu5
        obtain ⟨grb, vb, lb, hbb, _, _⟩ := HBD.out
        unfold stC at hbb
        have c3 := (cell_of_row _ g 3 _ _ _ hbb).trans (show _ = some (Value.int .i64 ((3 : Nat) : Int)) from rfl)
        have HRN := Lib.hid (rroom_no g 3 (nn : Nat) w5 HBD.out)
        clear hbb
        go_wp2_with fail
        refine HRN.out.mono ?_; rintro e wz ⟨rfl, rfl⟩
        go_wp2_with fail
        go_loopw [12] (fun v wr => v = .int .i64 0 ∧ wr = wz) (fun _ _ => 0)
        case atStart => exact ⟨rfl, rfl⟩
        case round =>
         obtain ⟨rfl, rfl⟩ := hrel
         go_wp2_with fail
         refine ⟨.inr ⟨3, r5, HBD.out, HU5.out, HRX.out⟩, ?_⟩
         rw [msB_bad HBD.out, HMS.out]
         omega
     ·rw [show readM1 n2 (srcR s lim) a1 o1 = .error 3 from if_neg hf] at hout
      obtain ⟨r3, hu3, rfl, hbad⟩ := hout
      have HRX := Lib.hid (HRU.out (.error 3) (.err (by rw [HST.out]; refine bindR_err ?_; rw [HLX.out]; exact bindR_err (num_err (p := (n1, n2)) hz hf))))
      have HU3 := Lib.hid (HU2.out.then hu3)
      have HBD := Lib.hid hbad
      obtain ⟨A9, n9, c9, rfl⟩ := HD.out.form
      have k5 := (cell_of_row _ _ 0 _ _ _ (HU3.out.cells HS.out HY2.out (by decide) (by decide) (by decide))).trans (show _ = some (Value.slice A9 n9 c9) from rfl)
      have HSN := Lib.hid (rsign_no g 3 (.agg #[.slice A9 n9 c9]) w3 HBD.out A9 n9 c9 rfl)
      clear hbad hu3
      go_wp2_with fail
      refine HSN.out.mono ?_; rintro e w4 ⟨rfl, hb4⟩
      have HBD4 : Hid (RB w4 g 3) := by
       obtain ⟨grb, vb, lb, hbb, hk0, hk1⟩ := HBD.out
       exact ⟨grb, vb, lb, (hb4.block g (lt_of_block hbb)).trans hbb, hk0, hk1⟩
      have HU4 := Lib.hid (HU3.out.then (upr_below hb4))
      obtain ⟨grb, vb, lb, hbb, _, _⟩ := HBD4.out
      unfold stC at hbb
      have c3 := (cell_of_row _ g 3 _ _ _ hbb).trans (show _ = some (Value.int .i64 ((3 : Nat) : Int)) from rfl)
      clear hbb hb4
      go_wp2_with fail
      first | go_end0 | refine bodyPost_ret (results_none rfl _ _ _) rfl ?_
      rw [show signsM c d (srcR s lim) a0 o0 = .error 3 from loop_of HRX.out]
      exact ⟨r3, HU.out.then HU4.out, rfl, HBD4.out⟩
  ·obtain ⟨gr', v, lim', hb, hk0, hk1⟩ := hbad
   have HB := Lib.hid hb
   unfold stC at hb
   have c3 := (cell_of_row _ g 3 _ _ _ hb).trans (show _ = some (Value.int .i64 (k : Nat)) from rfl)
   have hk2 : (((k : Nat) : Int) == 0) = false := by rw [beq_eq_false_iff_ne]; omega
   have HUR := Lib.hid hUr
   have HRU := Lib.hid hRu
   clear hb hUr hRu hrel
   go_wp2_with fail
   first | go_end0 | refine bodyPost_ret (results_none rfl _ _ _) rfl ?_
   rw [show signsM c d (srcR s lim) a0 o0 = .error k from loop_of HRU.out]
   exact ⟨r1, HU.out.then HUR.out, rfl, ⟨gr', v, lim', HB.out, hk0, hk1⟩⟩
end Go.Proofs.YtmkeicfklbepnaaGreat
