/-
 The document's stream: leads, sign.
 The document's trees of words: Make.
-/
import Derived.Test.YtmkeicfklbepnaaGreatPkBA
import Derived.Test.YtmkeicfklbepnaaGreatPkAH
import Derived.Maps.AppendAt
import Derived.Laws.OwnMore
import Derived.OneCell
import Derived.Deep.AppendLies

namespace Go.Proofs.YtmkeicfklbepnaaGreat
set_option maxRecDepth 100000
set_option linter.unusedVariables false
set_option linter.unusedSimpArgs false
open Go.RowKit Go.Deep Go.Joins
/-- A tree where it lies. -/
def TabR (w : World) (A : Option Addr) (T : List Int) : Prop := ∃ b cs, A = some ⟨b, 0, none⟩ ∧ w.heap[b]? = some (.cells cs 3 (0, 0)) ∧ ∀ i, i < T.length → cs[i]? = some (.int .i64 (T.getD i 0))
theorem TabR.kept {w w' : World} {S : Nat → Prop} {A : Option Addr} {T : List Int} (h : TabR w A T) (hk : Kept S w w') (hs : ∀ i c, S i → w.heap[i]? ≠ some (.cells c 3 (0, 0))) : TabR w' A T := by
 obtain ⟨b, cs, e, hb, hc⟩ := h
 exact ⟨b, cs, e, (hk.block b (lt_of_block hb) (fun hi => hs b cs hi hb)).trans hb, hc⟩
theorem TabR.below {w w' : World} {A : Option Addr} {T : List Int} (h : TabR w A T) (hb : Below w.heap.size w w') : TabR w' A T := h.kept (S := fun _ => False) (kept_below hb) (fun _ _ h => h.elim)
/-- No block of the stream is a row of numbers. -/
theorem RS.far {w : World} {B g gr a : Nat} {r : Option Nat} {s : ByteArray} {lim : Int} {o : List Nat} (h : RS w B g gr r s lim a o) (i : Nat) (c : Array Value) (hi : i = g ∨ i = gr ∨ some i = r) : w.heap[i]? ≠ some (.cells c 3 (0, 0)) := by
 obtain ⟨v, h1, h2, h3, h4, _⟩ := h
 intro he
 rcases hi with rfl | rfl | hi
 ·rw [h1] at he
  unfold stC at he
  injection he with he
  injection he with _ he
  exact absurd he (by decide)
 ·unfold Rd at h4
  rw [h4] at he
  injection he with he
  injection he with _ he
  exact absurd he (by decide)
 ·exact own_ne (cs := []) h2 he (by decide) (by rw [h3, ← hi])
theorem TabR.up {w w' : World} {B g gr a : Nat} {r r' : Option Nat} {s : ByteArray} {lim : Int} {o : List Nat} {A : Option Addr} {T : List Int} (h : TabR w A T) (hS : RS w B g gr r s lim a o) (hu : UpR g gr r r' w w') : TabR w' A T := h.kept hu.1 (fun i c hi => hS.far i c hi)
set_option maxHeartbeats 2000000 in
theorem rleads_any (A : Option Addr) (c m at_ : Nat) (T : List Int) (hT : T.length = 2 * m) (hat : at_ < m) (hm : m ≤ 1000000) (w : World) (hA : TabR w A T) :
  Calls Tryz.prog 72 #[.agg #[.slice A T.length c], .int .i64 (at_ : Nat)] w fun e w' => e = .returned (.bool (nx T at_ 0 != 0 || nx T at_ 1 != 0)) ∧ Below w.heap.size w w' := by
 have hip : (Tryz.prog.info? 70).map (·.size) = some 1 := by kernel_rfl
 obtain ⟨b, cs, rfl, hb, hc⟩ := hA
 have hb0 : Below w.heap.size w (w.alloc (.cells #[.slice (some ⟨b, 0, none⟩) T.length c] 70)) := (Below.refl _ _).alloc (Nat.le_refl _) _
 have hx := heap_alloc_new w (.cells #[.slice (some ⟨b, 0, none⟩) T.length c] 70)
 have hb1 := (hb0.block b (lt_of_block hb)).trans hb
 have e0 : cs[2 * at_]? = some (.int .i64 (nx T at_ 0)) := hc (2 * at_) (by omega)
 have e1 : cs[2 * at_ + 1]? = some (.int .i64 (nx T at_ 1)) := hc (2 * at_ + 1) (by omega)
 have k0 := (cell_of_row _ b (2 * at_) _ _ _ hb1).trans e0
 have k1 := (cell_of_row _ b (2 * at_ + 1) _ _ _ hb1).trans e1
 have d0 := (cell_of_row _ _ 0 _ _ _ hx).trans (show _ = some (Value.slice (some ⟨b, 0, none⟩) T.length c) from rfl)
 have w1 : IntKind.i64.wrap (2 * (at_ : Int)) = ((2 * at_ : Nat) : Int) := by rw [IntWalk.i64_in _ (by omega)]; omega
 have w2 : IntKind.i64.wrap (2 * (at_ : Int) + 1) = ((2 * at_ + 1 : Nat) : Int) := by rw [IntWalk.i64_in _ (by omega)]; omega
 have HB := Lib.hid hb0
 have hl1 : 2 * at_ + 1 < T.length := by omega
 clear hb hb0 hx hb1 e0 e1 hc hT hat hm
 go_enter Tryz.func72, Tryz.ntmps72
 go_upto_region 1 with fail
 generalize w.alloc (.cells #[.slice (some ⟨b, 0, none⟩) T.length c] 70) = wa at *
 generalize hgb : w.heap.size = gb at *
 by_cases h0 : nx T at_ 0 = 0
 ·have t0 : (nx T at_ 0 != 0) = false := by rw [bne_eq_false_iff_eq]; exact h0
  go_wp2_with fail
  go_ret
  exact ⟨by rw [t0]; rfl, by rw [hgb]; exact HB.out⟩
 ·have t0 : (nx T at_ 0 != 0) = true := bne_iff_ne.2 h0
  go_wp2_with fail
  go_ret
  exact ⟨by rw [t0]; rfl, by rw [hgb]; exact HB.out⟩
def rdP (gr : Nat) (w : World) : Nat := match w.cell? ⟨gr, 1, none⟩ with | some (.int _ z) => z.toNat | _ => 0
theorem rdP_of {w : World} {gr a e : Nat} {s : ByteArray} (h : Rd 57 w gr s a e) : rdP gr w = a := by
 unfold rdP
 rw [h.c1]
 rfl
theorem bit_of (s : ByteArray) (a q : Nat) : bitsAt (num s) (a + q) 1 = num s / 2 ^ a / 2 ^ q % 2 := by
 unfold bitsAt
 rw [Nat.pow_add, ← Nat.div_div_eq_div_mul, Nat.pow_one]
theorem TabR.cells {w : World} {A : Option Addr} {T : List Int} (h : TabR w A T) : ∃ b, A = some ⟨b, 0, none⟩ ∧ ∀ n k, k < 2 → 2 * n + k < T.length → w.cell? ⟨b, 2 * n + k, none⟩ = some (.int .i64 (nx T n k)) := by
 obtain ⟨b, cs, e, hb, hc⟩ := h
 exact ⟨b, e, fun n k _ hl => (cell_of_row _ b (2 * n + k) _ _ _ hb).trans (hc _ hl)⟩
set_option maxHeartbeats 8000000 in
theorem rsign_no (g k : Nat) (V : Value) (w : World) (hb : RB w g k) (A : Option Addr) (n c : Nat) (hV : V = .agg #[.slice A n c]) :
  Calls Tryz.prog 42 #[.pointer (some ⟨g, 0, none⟩), V] w fun e w' => e = .returned (.int .i64 (-1)) ∧ Below w.heap.size w w' := by
 have hip : (Tryz.prog.info? 70).map (·.size) = some 1 := by kernel_rfl
 subst hV
 obtain ⟨gr, v, lim, hb, h1, h2⟩ := hb
 have hb0 : Below w.heap.size w (w.alloc (.cells #[.slice A n c] 70)) := (Below.refl _ _).alloc (Nat.le_refl _) _
 have hb1 := (hb0.block g (lt_of_block hb)).trans hb
 unfold stC at hb1
 have c3 := (cell_of_row _ g 3 _ _ _ hb1).trans (show _ = some (Value.int .i64 (k : Nat)) from rfl)
 have hk : (((k : Nat) : Int) != 0) = true := by rw [bne_iff_ne]; omega
 have HB := Lib.hid hb0
 clear hb hb1 hb0
 go_enter Tryz.func42, Tryz.ntmps42
 go_upto_region 1 with fail
 generalize w.alloc (.cells #[.slice A n c] 70) = wa at *
 generalize hgb : w.heap.size = gb at *
 go_wp2_with fail
 go_ret
 exact ⟨rfl, by rw [hgb]; exact HB.out⟩
set_option maxHeartbeats 8000000 in
theorem rsign_st (B g gr a m : Nat) (r : Option Nat) (s : ByteArray) (lim : Int) (o : List Nat) (c : Cod) (T : List Int) (A : Option Addr) (cap : Nat) (hs : s.size ≤ 1000000) (hcn : c.n ≤ 4096) (h15 : ∀ i, i < c.n → c.ls i ≤ 15) (hmay : may c true) (hT : TW c.ls c.W c.n T m) (hm : m ≤ 1000000) (w : World) (hB : B ≤ w.heap.size) (hS : RS w B g gr r s lim a o) (hA : TabR w A T) :
  Calls Tryz.prog 42 #[.pointer (some ⟨g, 0, none⟩), .agg #[.slice A T.length cap]] w fun e w' => OutR w B g gr r s lim (fun x e => e = .returned (.int .i64 (x : Nat))) (fun e => e = .returned (.int .i64 (-1))) (signM c (srcR s lim) a o) e w' := by
 have hip : (Tryz.prog.info? 70).map (·.size) = some 1 := by kernel_rfl
 have hb0 : Below w.heap.size w (w.alloc (.cells #[.slice A T.length cap] 70)) := (Below.refl _ _).alloc (Nat.le_refl _) _
 have HX := Lib.hid (heap_alloc_new w (.cells #[.slice A T.length cap] 70))
 have HS := Lib.hid (hS.below hb0)
 have HA := Lib.hid (hA.below hb0)
 have HU := Lib.hid (upr_below (g := g) (gr := gr) (r := r) hb0)
 have HT := Lib.hid hT
 have H15 := Lib.hid h15
 have HMY := Lib.hid hmay
 have hszA : (w.alloc (.cells #[.slice A T.length cap] 70)).heap.size = w.heap.size + 1 := by simp
 have HSA : Hid (w.heap.size + 1 ≤ (w.alloc (.cells #[.slice A T.length cap] 70)).heap.size) := by show _ ≤ _; omega
 clear hb0 hS hA hT h15 hmay hszA
 go_enter Tryz.func42, Tryz.ntmps42
 go_upto_region 1 with fail
 generalize w.alloc (.cells #[.slice A T.length cap] 70) = wa at *
 have hle := HS.out.le
 obtain ⟨v, hb, _⟩ := HS.out.blk
 unfold stC at hb
 have c0 := (cell_of_row _ g 0 _ _ _ hb).trans (show _ = some (Value.pointer (some ⟨gr, 0, none⟩)) from rfl)
 have c3 := (cell_of_row _ g 3 _ _ _ hb).trans (show _ = some (Value.int .i64 0) from rfl)
 have r1 := HS.out.rd.c1
 clear hb
 go_upto_region 3 with fail
 go_quiet (fail)
 clear c0 c3 r1
 replace HS := Lib.hid (HS.out.drewN nq)
 replace HA : Hid (TabR (wa.drewN nq) A T) := HA
 replace HU := Lib.hid (HU.out.then (upr_drewN wa nq))
 replace HX : Hid ((wa.drewN nq).heap[w.heap.size]? = some (.cells #[.slice A T.length cap] 70 (0, 0))) := HX
 go_wp2_with fail
 have HRS := Lib.hid (RS.le (w := wa) (B := B) (g := g) (gr := gr) (a := a) (r := r) (s := s) (lim := lim) (o := o))
 obtain ⟨X, hX⟩ : ∃ X, X = num s / 2 ^ a := ⟨_, rfl⟩
 have HX0 := Lib.hid hX
 clear hX
 go_loopw [5] (fun v5 wr => ∃ q at_ : Nat, v5 = .int .i64 (at_ : Nat) ∧ a + q ≤ 8 * s.size ∧ Hid (node T (rev X q) q = some at_) ∧ Hid (NoW c.ls c.W c.n X q) ∧ Hid (RS wr B g gr r s lim (a + q) o) ∧ Hid (TabR wr A T) ∧ Hid (UpR g gr r r w wr) ∧ Hid (wr.heap[w.heap.size]? = some (.cells #[.slice A T.length cap] 70 (0, 0)))) (fun _ wr => 8 * s.size - rdP gr wr)
 case atStart => exact ⟨0, 0, rfl, hle, rfl, (fun i hi h1 h2 => by omega), HS, HA, HU, HX⟩
 case round =>
  obtain ⟨q, at_, rfl, hq, HN, HNW, HSr, HAr, HUr, HXr⟩ := hrel
  obtain ⟨v, hb, how, hvr⟩ := HSr.out.blk
  have hrd := HSr.out.rd
  have HBr := Lib.hid hb
  have HRr := Lib.hid hrd
  have HOW := Lib.hid (And.intro how hvr)
  unfold stC at hb
  have c0 := (cell_of_row _ g 0 _ _ _ hb).trans (show _ = some (Value.pointer (some ⟨gr, 0, none⟩)) from rfl)
  have c3 := (cell_of_row _ g 3 _ _ _ hb).trans (show _ = some (Value.int .i64 0) from rfl)
  have r0 := hrd.c0
  have r1 := hrd.c1
  have rf := hrd.fr 1
  have t0 := (cell_of_row _ _ 0 _ _ _ HXr.out).trans (show _ = some (Value.slice A T.length cap) from rfl)
  have w8 : IntKind.i64.wrap (8 * (s.size : Int)) = ((8 * s.size : Nat) : Int) := by rw [IntWalk.i64_in _ (by omega)]; omega
  clear hb hrd how hvr
  go_wp2_with fail
  by_cases hend : a + q = 8 * s.size
  ·have hd : decide (((8 * s.size : Nat) : Int) ≤ ((a + q : Nat) : Int)) = true := decide_eq_true (by omega)
   have hd2 : decide (8 * (s.size : Int) ≤ (a : Int) + (q : Int)) = true := decide_eq_true (by omega)
   go_quiet (fail)
   go_wp2_with fail
   have hn := HN.out
   have hnw := HNW.out
   rw [HX0.out] at hn hnw
   obtain ⟨k1, k2, k3⟩ := sign_end (s := srcR s lim) (o := o) H15.out HMY.out HT.out hn hnw (show 8 * s.size - a = q by omega)
   have HANS := Lib.hid k3
   have hkept : Kept (fun i => i = g ∨ i = gr ∨ some i = r) wr ((wr.drewN nq).setCell ⟨gr, 1, none⟩ (.int .i64 (a : Nat))) := ((upr_drewN (g := g) (gr := gr) (r := r) wr nq).then (upr_setR (wr.drewN nq) 1 _)).1
   have HL := Lib.hid (rleads_any A cap m at_ T k2 k1 hm _ (HAr.out.kept hkept (fun i c hi => HSr.out.far i c hi)))
   have HB1 : Hid (((wr.drewN nq).setCell ⟨gr, 1, none⟩ (.int .i64 (a : Nat))).heap[g]? = some (stC gr v lim 0)) := (Below.heap_setCell _ _ _ _ (HSr.out.ne)).trans HBr.out
   have HU1 := Lib.hid (HUr.out.then ((upr_drewN (g := g) (gr := gr) (r := r) wr nq).then (upr_setR (wr.drewN nq) 1 (.int .i64 (a : Nat)))))
   clear k1 k2 k3 hkept hn hnw c0 c3 r0 r1 rf t0
   generalize (wr.drewN nq).setCell ⟨gr, 1, none⟩ (.int .i64 (a : Nat)) = wS at *
   refine HL.out.mono ?_; rintro e w2 ⟨rfl, hb2⟩
   have HB2 := Lib.hid ((hb2.block g (lt_of_block HB1.out)).trans HB1.out)
   have HU2 := Lib.hid (HU1.out.then (upr_below hb2))
   clear hb2 HL
   by_cases hc : nx T at_ 0 ≠ 0 ∨ nx T at_ 1 ≠ 0
   ·have t1 : (nx T at_ 0 != 0 || nx T at_ 1 != 0) = true := by rw [Bool.or_eq_true, bne_iff_ne, bne_iff_ne]; exact hc
    go_wp2_with fail
    refine (rfail_ok g gr v lim 3 w2 HB2.out).mono ?_; rintro e w3 ⟨rfl, rfl⟩
    go_wp2_with fail
    go_ret
    have ha := HANS.out
    rw [if_pos hc] at ha
    rw [ha]
    exact ⟨r, HU2.out.then (upr_set w2 3 _), rfl, rb_set 3 (by decide) (by decide) HB2.out⟩
   ·have t1 : (nx T at_ 0 != 0 || nx T at_ 1 != 0) = false := by
     rw [Bool.eq_false_iff, ne_eq, Bool.or_eq_true, bne_iff_ne, bne_iff_ne]; exact hc
    go_wp2_with fail
    refine (rfail_ok g gr v lim 10 w2 HB2.out).mono ?_; rintro e w3 ⟨rfl, rfl⟩
    go_wp2_with fail
    go_ret
    have ha := HANS.out
    rw [if_neg hc] at ha
    rw [ha]
    exact ⟨r, HU2.out.then (upr_set w2 3 _), rfl, rb_set 10 (by decide) (by decide) HB2.out⟩
  ·have hd : decide (((8 * s.size : Nat) : Int) ≤ ((a + q : Nat) : Int)) = false := decide_eq_false (by omega)
   have hd2 : decide (8 * (s.size : Int) ≤ (a : Int) + (q : Int)) = false := decide_eq_false (by omega)
   have hn := HN.out
   have hnw := HNW.out
   rw [HX0.out] at hn hnw
   have haq : a + q < 8 * s.size := Nat.lt_of_le_of_ne hq hend
   obtain ⟨k1, k2, k3, k4, k5⟩ := sign_bit (s := srcR s lim) (o := o) H15.out HMY.out HT.out hn hnw (show a + q < 8 * s.size from Nat.lt_of_le_of_ne hq hend)
   have hbt := bit_of s a q
   have HBT0 : Hid (∀ w : World, Calls Tryz.prog 73 #[.string s, .int .i64 ((a : Int) + (q : Int))] w fun r w' => r = .returned (.int .u32 (bitsAt (num s) (a + q) 1 : Nat)) ∧ w = w') := fun w => by
    have h := rbit_any s (a + q) hs haq w
    rw [Int.natCast_add] at h
    exact h
   have hlt2 : bitsAt (num s) (a + q) 1 < 2 := by rw [hbt]; exact Nat.mod_lt _ (by omega)
   change _ → _ at k3
   rw [show (srcR s lim).N / 2 ^ a / 2 ^ q % 2 = bitsAt (num s) (a + q) 1 from hbt.symm] at k3 k4 k5
   rw [show (srcR s lim).N / 2 ^ a = X from HX0.out.symm] at k5
   have HK3 := Lib.hid k3
   have HK4 := Lib.hid k4
   have HK5 := Lib.hid k5
   clear k3 k4 k5 hbt hn hnw
   generalize bitsAt (num s) (a + q) 1 = bt at *
   obtain ⟨b, hAb, hcells⟩ := HAr.out.cells
   have kc := hcells at_ bt hlt2 (by omega)
   have hbl : 2 * at_ + bt < T.length := by omega
   subst hAb
   have HHA := Lib.hid hcells
   have hz1 : IntKind.i64.wrap (2 * (at_ : Int)) = ((2 * at_ : Nat) : Int) := by rw [IntWalk.i64_in _ (by omega)]; omega
   have hz2 : IntKind.i64.wrap ((bt : Nat) : Int) = (bt : Nat) := IntWalk.i64_in _ (by omega)
   have hz3 : IntKind.i64.wrap (2 * (at_ : Int) + (bt : Int)) = ((2 * at_ + bt : Nat) : Int) := by rw [IntWalk.i64_in _ (by omega)]; omega
   have HM2 := Lib.hid (And.intro k1 k2)
   clear k1 k2 hcells
   go_quiet (fail)
   generalize nq = n1 at *
   go_wp2_with fail
   go_quiet ((go_at_call 73; exact ((HBT0.out _).mono fun _ _ h => ⟨h.1, _, h.2.symm⟩)))
   go_wp2_with fail
   have HSq := Lib.hid ((HSr.out.drewN n1).drewN nq)
   have HUq := Lib.hid ((HUr.out.then (upr_drewN wr n1)).then (upr_drewN (wr.drewN n1) nq))
   have HAq : Hid (TabR ((wr.drewN n1).drewN nq) (some ⟨b, 0, none⟩) T) := HAr
   have HXq : Hid (((wr.drewN n1).drewN nq).heap[w.heap.size]? = some (.cells #[.slice (some ⟨b, 0, none⟩) T.length cap] 70 (0, 0))) := HXr
   have HBq : Hid (((wr.drewN n1).drewN nq).heap[g]? = some (stC gr v lim 0)) := HBr
   have HRq : Hid (Rd 57 ((wr.drewN n1).drewN nq) gr s (a + q) 0) := HRr
   have hzq : IntKind.i64.wrap ((a : Int) + (q : Int) + 1) = ((a + q + 1 : Nat) : Int) := by rw [IntWalk.i64_in _ (by omega)]; omega
   have hzq2 : IntKind.i64.wrap (((a + q : Nat) : Int) + 1) = ((a + q + 1 : Nat) : Int) := by rw [IntWalk.i64_in _ (by omega)]; omega
   clear c0 c3 r0 r1 rf t0 kc HBT0 hz1 hz2 hz3 hd hd2
   generalize (wr.drewN n1).drewN nq = wq at *
   have hbq := HBq.out
   unfold stC at hbq
   have c0 := (cell_of_row _ g 0 _ _ _ hbq).trans (show _ = some (Value.pointer (some ⟨gr, 0, none⟩)) from rfl)
   have r1 := HRq.out.c1
   have rf := HRq.out.fr 1
   clear hbq
   go_region
   have hval : (Value.int .i64 ((a : Int) + (q : Int) + 1)) = .int .i64 ((a + (q + 1) : Nat) : Int) := by congr 1
   rw [hval]
   have hg := grown_set wq gr 1 (.int .i64 ((a + (q + 1) : Nat) : Int))
   have hgd : wq.grownBy (wq.setCell ⟨gr, 1, none⟩ (.int .i64 ((a + (q + 1) : Nat) : Int))).drew (some gr) := ⟨hg.os, hg.tape, hg.output, hg.size, hg.block⟩
   have hrd2 : Rd 57 (wq.setCell ⟨gr, 1, none⟩ (.int .i64 ((a + (q + 1) : Nat) : Int))).drew gr s (a + (q + 1)) 0 := HRq.out.setAt (a + (q + 1))
   have HS2 := Lib.hid (HSq.out.read hgd hrd2 (show a + (q + 1) ≤ 8 * s.size by omega))
   have HU2 := Lib.hid (HUq.out.then (upr_read (g := g) (r := r) hgd))
   have HA2 := Lib.hid (HAq.out.up HSq.out (upr_read (g := g) (r := r) hgd))
   have hxg : (wq.setCell ⟨gr, 1, none⟩ (.int .i64 ((a + (q + 1) : Nat) : Int))).drew.heap[w.heap.size]? = wq.heap[w.heap.size]? := hgd.block _ (lt_of_block HXq.out) (fun e => by
    injection e with e
    have h1 := HXq.out
    rw [e] at h1
    have h2 := HRq.out
    unfold Rd at h2
    rw [h2] at h1
    injection h1 with h1
    injection h1 with _ h1
    exact absurd h1 (by decide))
   have HX2 := Lib.hid (hxg.trans HXq.out)
   have HRP := Lib.hid (rdP_of hrd2)
   have HRPr := Lib.hid (rdP_of HRr.out)
   clear hval hg hgd hrd2 hxg c0 r1 rf HSq HUq HAq HXq HBq HRq hzq hzq2
   generalize (wq.setCell ⟨gr, 1, none⟩ (.int .i64 ((a + (q + 1) : Nat) : Int))).drew = w2 at *
   obtain ⟨v2, hb2, _⟩ := HS2.out.blk
   have HB2 := Lib.hid hb2
   clear hb2
   by_cases hneg : nx T at_ bt < 0
   ·obtain ⟨i, i1, i2, i3⟩ := HK3.out hneg
    have hd3 : decide (nx T at_ bt < 0) = true := decide_eq_true hneg
    have hwi : wrap64 (-1 - nx T at_ bt) = ((i : Nat) : Int) := by rw [i2, show (-1 : Int) - (-1 - (i : Int)) = (i : Int) by omega]; unfold wrap64; omega
    have HANS := Lib.hid i3
    have HWI := Lib.hid hwi
    clear i3 i2 hwi
    go_wp2_with fail
    go_ret
    rw [HANS.out]
    refine ⟨r, HU2.out, ?_, HS2.out⟩
    show Ending.returned (.int .i64 (wrap64 (-1 - nx T at_ bt))) = Ending.returned (.int .i64 ((i : Nat) : Int))
    rw [HWI.out]
   ·have hd3 : decide (nx T at_ bt < 0) = false := decide_eq_false hneg
    by_cases hz : nx T at_ bt = 0
    ·have hd4 : (nx T at_ bt == 0) = true := by rw [hz]; rfl
     have HANS := Lib.hid (HK4.out hz)
     clear hz hneg
     go_wp2_with fail
     refine (rfail_ok g gr v2 lim 10 w2 HB2.out).mono ?_; rintro e w3 ⟨rfl, rfl⟩
     go_wp2_with fail
     go_ret
     rw [HANS.out]
     exact ⟨r, HU2.out.then (upr_set w2 3 _), rfl, rb_set 10 (by decide) (by decide) HB2.out⟩
    ·have hd4 : (nx T at_ bt == 0) = false := beq_eq_false_iff_ne.2 hz
     have hpos : 0 < nx T at_ bt := by omega
     obtain ⟨hn2, hnw2⟩ := HK5.out hpos
     have HN2 := Lib.hid hn2
     have HNW2 := Lib.hid hnw2
     obtain ⟨k, hk⟩ : ∃ k : Nat, nx T at_ bt = (k : Int) := ⟨(nx T at_ bt).toNat, by omega⟩
     have HKK := Lib.hid hk
     clear hn2 hnw2 hk hz hneg hpos
     go_wp2_with fail
     go_roundw
     case rel => exact ⟨q + 1, k, by rw [HKK.out], by omega, by show _ = _; rw [HN2.out, HKK.out]; rfl, HNW2, HS2, HA2, HU2, HX2⟩
     case measure =>
      rw [HRP.out, HRPr.out]
      omega
end Go.Proofs.YtmkeicfklbepnaaGreat

namespace Go.Proofs.YtmkeicfklbepnaaGreat
set_option maxRecDepth 100000
set_option linter.unusedVariables false
set_option linter.unusedSimpArgs false
open Go.RowKit Go.Deep Go.Joins
def cellsZ (T : List Int) : List Value := T.map fun z => Value.int .i64 z
theorem cellsZ_get (T : List Int) (i : Nat) (h : i < T.length) : (cellsZ T)[i]? = some (.int .i64 (T.getD i 0)) := by
 unfold cellsZ
 rw [List.getElem?_map, List.getElem?_eq_getElem h, List.getD_eq_getElem?_getD, List.getElem?_eq_getElem h]
 rfl
theorem cellsZ_set (T : List Int) (k : Nat) (z : Int) : cellsZ (T.set k z) = (cellsZ T).set k (.int .i64 z) := by unfold cellsZ; rw [List.map_set]
theorem cellsZ_app (T U : List Int) : cellsZ (T ++ U) = cellsZ T ++ cellsZ U := by unfold cellsZ; rw [List.map_append]
theorem partsR {P : Program} {T : TypeId} {z : Value} {s b : Nat} (h : (P.info? T).map (fun i => (i.zero, i.size, i.bytes)) = some (some z, s, b)) : ∃ i, P.info? T = some i ∧ i.zero = some z ∧ i.size = s ∧ i.bytes = b := by
 obtain ⟨i, h1, h2⟩ := Option.map_eq_some_iff.1 h
 injection h2 with h2 h3
 injection h3 with h3 h4
 exact ⟨i, h1, h2, h3, h4⟩
theorem own_formZ {w : World} {B n : Nat} {v : Value} {xs : List Value} (h : w.ownsRow B 3 1 v n xs) (hn : 0 < n) : ∃ g cap, v = .slice (some ⟨g, 0, none⟩) n cap ∧ B ≤ g ∧ g < w.heap.size ∧ (∃ cur, w.heap[g]? = some (.cells cur 3 (0, 0))) ∧ ∀ i u, xs[i]? = some u → w.cell? ⟨g, i, none⟩ = some u := by
 rcases h.2 with ⟨_, h0⟩ | ⟨g, cap, cur, hv, hb, hg, h1, h2, h3, h4⟩
 ·omega
 ·refine ⟨g, cap, hv, hb, lt_of_block hg, ⟨cur, hg⟩, fun i u hu => ?_⟩
  rw [cell_of_row w g i _ _ _ hg]
  have hi := (List.getElem?_eq_some_iff.1 hu).1
  rw [← h4, List.getElem?_take_of_lt (by rw [h.1] at hi; exact hi)] at hu
  rw [← Array.getElem?_toList]
  exact hu
/-- What Make keeps. -/
structure MkS (w wr : World) (g2 g3 B : Nat) (T : List Int) (V : Value) : Prop where
 r2 : wr.heap[g2]? = some (.cells #[.slice none 0 0] 70 (0, 0))
 r3 : wr.heap[g3]? = some (.cells #[V] 70 (0, 0))
 o : wr.ownsRow B 3 1 V T.length (cellsZ T)
 b : Below w.heap.size w wr
 s : B ≤ wr.heap.size
theorem MkS.set {w wr : World} {g2 g3 B gv cap i : Nat} {T : List Int} {cur : Array Value} (h : MkS w wr g2 g3 B T (.slice (some ⟨gv, 0, none⟩) T.length cap)) (hcur : wr.heap[gv]? = some (.cells cur 3 (0, 0))) (h2 : g2 ≠ gv) (hB : w.heap.size ≤ gv) (z : Int) : MkS w (wr.setCell ⟨gv, i, none⟩ (.int .i64 z)) g2 g3 B (T.set i z) (.slice (some ⟨gv, 0, none⟩) T.length cap) := by
 refine ⟨(Below.heap_setCell _ _ _ _ h2).trans h.r2, (Below.heap_setCell _ _ _ _ (fun e => ?_)).trans h.r3, ?_, h.b.setCell hB _, by simpa [World.setCell] using h.s⟩
 ·have h3 := h.r3
  have e' : g3 = gv := e
  rw [e', hcur] at h3
  injection h3 with h3
  injection h3 with _ h3
  exact absurd h3 (by decide)
 ·rw [List.length_set, cellsZ_set]
  exact (h.o.stored i _).1
set_option maxHeartbeats 16000000 in
theorem rmake_any (gW n c0 : Nat) (ls W : Nat → Nat) (hn : n ≤ 4096) (h15 : ∀ i, i < n → ls i ≤ 15) (hW : ∀ i, i < n → W i < 2 ^ ls i) (hpf : PFree ls W n) (w : World) (hr : IsRowS w gW n (fun i => tx (W i) (ls i))) :
  Calls Tryz.prog 26 #[.slice (some ⟨gW, 0, none⟩) n c0] w fun e w' => ∃ T m A c, e = .returned (.agg #[.slice A T.length c]) ∧ TW ls W n T m ∧ m ≤ 1 + 15 * n ∧ TabR w' A T ∧ Below w.heap.size w w' := by
 have hip : (Tryz.prog.info? 70).map (·.size) = some 1 := by kernel_rfl
 have hzT : ∀ w : World, (zeroValue 70).run Tryz.prog w = .ok (.agg #[.slice none 0 0]) w := fun w => by kernel_rfl
 obtain ⟨i0, hi, hz0, hzs, hz2⟩ := partsR (P := Tryz.prog) (T := 3) (z := .int .i64 0) (s := 1) (b := 8) (by kernel_rfl)
 have HR := Lib.hid hr
 have H15 := Lib.hid h15
 have HWW := Lib.hid hW
 have HPF := Lib.hid hpf
 have hs1 : (w.alloc (.cells #[.slice none 0 0] 70)).heap.size = w.heap.size + 1 := by simp
 have hs2 : ((w.alloc (.cells #[.slice none 0 0] 70)).alloc (.cells #[.int .i64 0, .int .i64 0] 3)).heap.size = w.heap.size + 1 + 1 := by simp
 have hb1 : Below w.heap.size w (w.alloc (.cells #[.slice none 0 0] 70)) := (Below.refl _ _).alloc (Nat.le_refl _) _
 have hb2 : Below w.heap.size w ((w.alloc (.cells #[.slice none 0 0] 70)).alloc (.cells #[.int .i64 0, .int .i64 0] 3)) := hb1.alloc hb1.size _
 have hb3 : Below w.heap.size w (((w.alloc (.cells #[.slice none 0 0] 70)).alloc (.cells #[.int .i64 0, .int .i64 0] 3)).alloc (.cells #[.slice (some ⟨w.heap.size + 1, 0, none⟩) 2 2] 70)) := hb2.alloc hb2.size _
 have hx1 : ((w.alloc (.cells #[.slice none 0 0] 70)).alloc (.cells #[.int .i64 0, .int .i64 0] 3)).heap[w.heap.size]? = some (.cells #[.slice none 0 0] 70 (0, 0)) := (Below.heap_alloc (w.alloc (.cells #[.slice none 0 0] 70)) _ w.heap.size (by rw [hs1]; omega)).trans (heap_alloc_new w _)
 have hx2 : (((w.alloc (.cells #[.slice none 0 0] 70)).alloc (.cells #[.int .i64 0, .int .i64 0] 3)).alloc (.cells #[.slice (some ⟨w.heap.size + 1, 0, none⟩) 2 2] 70)).heap[w.heap.size]? = some (.cells #[.slice none 0 0] 70 (0, 0)) := (Below.heap_alloc ((w.alloc (.cells #[.slice none 0 0] 70)).alloc (.cells #[.int .i64 0, .int .i64 0] 3)) _ w.heap.size (by rw [hs2]; omega)).trans hx1
 have hy1 := heap_alloc_new (w.alloc (.cells #[.slice none 0 0] 70)) (.cells #[.int .i64 0, .int .i64 0] 3)
 rw [hs1] at hy1
 have hy2 : (((w.alloc (.cells #[.slice none 0 0] 70)).alloc (.cells #[.int .i64 0, .int .i64 0] 3)).alloc (.cells #[.slice (some ⟨w.heap.size + 1, 0, none⟩) 2 2] 70)).heap[w.heap.size + 1]? = some (.cells #[.int .i64 0, .int .i64 0] 3 (0, 0)) := (Below.heap_alloc ((w.alloc (.cells #[.slice none 0 0] 70)).alloc (.cells #[.int .i64 0, .int .i64 0] 3)) _ (w.heap.size + 1) (by rw [hs2]; omega)).trans hy1
 have hz3 := heap_alloc_new ((w.alloc (.cells #[.slice none 0 0] 70)).alloc (.cells #[.int .i64 0, .int .i64 0] 3)) (.cells #[.slice (some ⟨w.heap.size + 1, 0, none⟩) 2 2] 70)
 rw [hs2] at hz3
 have HM : Hid (MkS w (((w.alloc (.cells #[.slice none 0 0] 70)).alloc (.cells #[.int .i64 0, .int .i64 0] 3)).alloc (.cells #[.slice (some ⟨w.heap.size + 1, 0, none⟩) 2 2] 70)) w.heap.size (w.heap.size + 1 + 1) (w.heap.size + 1) [0, 0] (.slice (some ⟨w.heap.size + 1, 0, none⟩) 2 2)) :=
  ⟨hx2, hz3, ⟨rfl, .inr ⟨w.heap.size + 1, 2, _, rfl, Nat.le_refl _, hy2, Nat.le_refl _, by decide, rfl, rfl⟩⟩, hb3, by simp⟩
 clear hr h15 hW hpf hs1 hs2 hb1 hb2 hb3 hx1 hx2 hy1 hy2 hz3
 go_enter Tryz.func26, Tryz.ntmps26
 go_upto_region 2 with fail
 generalize (((w.alloc (.cells #[.slice none 0 0] 70)).alloc (.cells #[.int .i64 0, .int .i64 0] 3)).alloc (.cells #[.slice (some ⟨w.heap.size + 1, 0, none⟩) 2 2] 70)) = wa at *
 go_wp2_with fail
 go_loopw [13] (fun v13 wr => ∃ (k m : Nat) (T : List Int) (V : Value), v13 = .int .i64 (k : Nat) ∧ k ≤ n ∧ Hid (TW ls W k T m) ∧ Hid (m ≤ 1 + 15 * k) ∧ Hid (MkS w wr w.heap.size (w.heap.size + 1 + 1) (w.heap.size + 1) T V)) (fun v _ => n - (intOf v).toNat)
 case atStart => exact ⟨0, 1, [0, 0], _, rfl, Nat.zero_le _, tw_zero ls W, Nat.le_refl _, HM⟩
 case round =>
  obtain ⟨k, m, T, V, rfl, hk, HT, HMM, HS⟩ := hrel
  by_cases hlt : k < n
  ·have hrw : IsRowS wr gW n (fun i => tx (W i) (ls i)) := (HS.out.b.block gW (lt_of_block HR.out)).trans HR.out
   have hcell : wr.cell? ⟨gW, k, none⟩ = some (.string (tx (W k) (ls k))) := hrw.cell k hlt
   have hsz := tx_size (W k) (ls k)
   have HAT := Lib.hid (fun i h => tx_at (W k) (ls k) i h)
   have hl15 := H15.out k hlt
   clear hrw
   generalize htt : tx (W k) (ls k) = Tx at *
   clear htt
   go_wp2_with fail
   go_loopw [6, 7] (fun v6 v7 wr => ∃ (j at_ m : Nat) (T : List Int) (V : Value), v6 = .int .i64 (at_ : Nat) ∧ v7 = .int .i64 (j : Nat) ∧ j ≤ ls k ∧ Hid (if j < ls k then TWj ls W k j T m at_ else TW ls W (k + 1) T m) ∧ Hid (m ≤ 1 + 15 * k + j) ∧ Hid (MkS w wr w.heap.size (w.heap.size + 1 + 1) (w.heap.size + 1) T V)) (fun _ v _ => ls k - (intOf v).toNat)
   case atStart =>
    refine ⟨0, 0, m, T, V, rfl, rfl, Nat.zero_le _, ?_, HMM, HS⟩
    show if 0 < ls k then _ else _
    by_cases h0 : 0 < ls k
    ·rw [if_pos h0]; exact tw_start (HWW.out k hlt) HT.out
    ·rw [if_neg h0]; exact tw_skip (by omega) HT.out
   case round =>
    clear HT HMM HS m T V
    obtain ⟨j, at_, m, T, V, rfl, rfl, hj, HT, HMM, HS⟩ := hrel
    by_cases hjl : j < ls k
    ·have hT := HT.out
     rw [if_pos hjl] at hT
     have hjs : j < Tx.size := by omega
     have hb : Tx[j].toNat = 48 + bitW ls W k j := HAT.out j hjs
     have hx2 := bitW_lt ls W k j
     obtain ⟨gv, cap, rfl, hgv, hgl, ⟨cur, hcur⟩, hcc⟩ := own_formZ HS.out.o (by rw [hT.1.len]; have := hT.1.pos; omega)
     have d3 := (cell_of_row _ _ 0 _ _ _ HS.out.r3).trans (show _ = some (Value.slice (some ⟨gv, 0, none⟩) T.length cap) from rfl)
     have f3 := frozen_of_row wr (w.heap.size + 1 + 1) 0 _ _ HS.out.r3
     have hw8 : IntKind.u8.wrap ((48 + (bitW ls W k j : Nat) : Int) - 48) = (bitW ls W k j : Nat) := by rw [IntKind.wrap_u8]; omega
     have hw8b : IntKind.u8.wrap ((bitW ls W k j : Nat) : Int) = (bitW ls W k j : Nat) := by rw [IntKind.wrap_u8]; omega
     have hmm := HMM.out
     have hw1 : IntKind.i64.wrap ((ls k : Int) - 1) = (ls k : Int) - 1 := IntWalk.i64_in _ (by omega)
     by_cases hlast : j + 1 = ls k
     ·obtain ⟨t1, t2, t3⟩ := tw_last HPF.out hlt (HWW.out k hlt) hlast hT
      have hq : (((j : Nat) : Int) == ((ls k : Nat) : Int) - 1) = true := by rw [beq_iff_eq]; omega
      have hw2 : IntKind.i64.wrap (2 * (at_ : Int)) = ((2 * at_ : Nat) : Int) := by rw [IntWalk.i64_in _ (by omega)]; omega
      have hw3 : IntKind.i64.wrap (2 * (at_ : Int) + (bitW ls W k j : Nat)) = ((2 * at_ + bitW ls W k j : Nat) : Int) := by rw [IntWalk.i64_in _ (by omega)]; omega
      have hw4 : IntKind.i64.wrap (-1 - (k : Int)) = -1 - (k : Int) := IntWalk.i64_in _ (by omega)
      have hil : 2 * at_ + bitW ls W k j < T.length := by omega
      have kc := hcc (2 * at_ + bitW ls W k j) _ (cellsZ_get T _ hil)
      have fc := frozen_of_row wr gv (2 * at_ + bitW ls W k j) _ _ hcur
      have HT3 := Lib.hid t3
      have HCU := Lib.hid hcur
      clear t3 hcc hcur hT
      generalize bitW ls W k j = x at *
      go_wp2_with fail
      refine ⟨⟨j + 1, at_, m, T.set (2 * at_ + x) (-1 - (k : Int)), _, rfl, by go_num, by omega, ?_, ?_, HS.out.set HCU.out (by omega) (by omega) _⟩, by simp [intOf]; omega⟩
      ·show if _ then _ else _
       rw [if_neg (by omega)]
       exact HT3.out
      ·show _ ≤ _
       omega
     ·obtain ⟨t1, t2, t3, t4, t5⟩ := tw_step HPF.out hlt (HWW.out k hlt) (by omega) hT
      have hq : (((j : Nat) : Int) == ((ls k : Nat) : Int) - 1) = false := by rw [beq_eq_false_iff_ne]; omega
      have hw2 : IntKind.i64.wrap (2 * (at_ : Int)) = ((2 * at_ : Nat) : Int) := by rw [IntWalk.i64_in _ (by omega)]; omega
      have hw3 : IntKind.i64.wrap (2 * (at_ : Int) + (bitW ls W k j : Nat)) = ((2 * at_ + bitW ls W k j : Nat) : Int) := by rw [IntWalk.i64_in _ (by omega)]; omega
      have hil : 2 * at_ + bitW ls W k j < T.length := by omega
      have kc : wr.cell? ⟨gv, 2 * at_ + bitW ls W k j, none⟩ = some (.int .i64 (nx T at_ (bitW ls W k j))) := hcc (2 * at_ + bitW ls W k j) _ (cellsZ_get T _ hil)
      have fc := frozen_of_row wr gv (2 * at_ + bitW ls W k j) _ _ hcur
      have HT4 := Lib.hid t4
      have HT5 := Lib.hid t5
      have HCU := Lib.hid hcur
      have HLEN := Lib.hid t2
      clear t4 t5 hcc hcur hT t2
      generalize bitW ls W k j = x at *
      by_cases hz : nx T at_ x = 0
      ·have hz1 : (nx T at_ x == 0) = true := by rw [hz]; rfl
       have H4 := HT4.out hz
       have HT6 := Lib.hid H4.1
       have HNX := Lib.hid H4.2
       clear H4 hz t3
       have hbA : Below wr.heap.size wr (wr.alloc (.cells #[.int .i64 0, .int .i64 0] 3)) := (Below.refl _ _).alloc (Nat.le_refl _) _
       have HOA : Hid ((wr.alloc (.cells #[.int .i64 0, .int .i64 0] 3)).ownsRow (w.heap.size + 1) 3 1 (.slice (some ⟨gv, 0, none⟩) T.length cap) T.length (cellsZ T)) := HS.out.o.alloc _
       have h2A := (hbA.block _ (lt_of_block HS.out.r2)).trans HS.out.r2
       have h3A := (hbA.block _ (lt_of_block HS.out.r3)).trans HS.out.r3
       have hcA := (hbA.block _ (lt_of_block HCU.out)).trans HCU.out
       have hxA := heap_alloc_new wr (.cells #[.int .i64 0, .int .i64 0] 3)
       have HBA := Lib.hid (HS.out.b.trans (hbA.mono HS.out.b.size))
       have HSA : Hid (w.heap.size + 1 ≤ (wr.alloc (.cells #[.int .i64 0, .int .i64 0] 3)).heap.size) := Nat.le_trans HS.out.s hbA.size
       have hg3 : w.heap.size + 1 + 1 ≠ gv := fun e => by
        rw [e, hcA] at h3A
        injection h3A with h3A
        injection h3A with _ h3A
        exact absurd h3A (by decide)
       have H2A := Lib.hid h2A
       have H3A := Lib.hid h3A
       have HCA := Lib.hid hcA
       have HXA := Lib.hid hxA
       clear hbA h2A h3A hcA hxA
       go_upto_region 13 with fail
       go_upto_region 14 with (at_builtin; go_must (refine wpList_append_own_at _ rfl (.tmp 50) (.tmp 51) _ rfl (w.heap.size + 1) 3 i0 (.int .i64 0) 1 8 Tryz.underlying68 hi hz0 hzs hz2 rfl (by decide) (.slice (some ⟨gv, 0, none⟩) T.length cap) T.length _ rfl HOA.out ⟨wr.heap.size, 0, none⟩ 2 2 [.int .i64 0, .int .i64 0] rfl rfl (World.news_of_block HXA.out) (by intro u hu; simp at hu; subst hu; rfl) (by have := HLEN.out; unfold maxLen; omega) (by have := HLEN.out; omega) HSA.out ?_; intro V1 w1 own1 grow1 nil1 loc1; obtain ⟨gv1, cap1, rfl, hgv1, hgl1, ⟨cur1, hcur1⟩, hcc1⟩ := own_formZ own1 (by omega); have hr3 := (grow1.block (w.heap.size + 1 + 1) (lt_of_block H3A.out) (fun e => hg3 (by simpa [Value.ownBlock] using e))).trans H3A.out; have d3' := (cell_of_row _ _ 0 _ _ _ hr3).trans (show _ = some (Value.slice (some ⟨gv, 0, none⟩) T.length cap) from rfl); have f3' := frozen_of_row w1 (w.heap.size + 1 + 1) 0 _ _ hr3))
       have hl2 : (T ++ [0, 0]).length = T.length + 2 := by rw [List.length_append]; rfl
       have hgB : w.heap.size + 1 ≤ gv1 := hgv1
       have hce : cellsZ T ++ [Value.int .i64 0, .int .i64 0] = cellsZ (T ++ [0, 0]) := by rw [cellsZ_app]; rfl
       rw [hce] at own1 hcc1
       have hg13 : gv1 ≠ w.heap.size + 1 + 1 := fun e => by
        rw [e, hr3] at hcur1
        injection hcur1 with hcur1
        injection hcur1 with _ hcur1
        exact absurd hcur1 (by decide)
       have HM2 : Hid (MkS w (w1.setCell ⟨w.heap.size + 1 + 1, 0, none⟩ (.slice (some ⟨gv1, 0, none⟩) (T.length + 2) cap1)) w.heap.size (w.heap.size + 1 + 1) (w.heap.size + 1) (T ++ [0, 0]) (.slice (some ⟨gv1, 0, none⟩) (T.length + 2) cap1)) := by
        refine ⟨(Below.heap_setCell _ _ _ _ (show w.heap.size ≠ w.heap.size + 1 + 1 by omega)).trans ((grow1.block w.heap.size (lt_of_block H2A.out) (fun e => ?_)).trans H2A.out), heap_setCell_same _ _ 0 _ _ _ hr3, ?_, (HBA.out.grown grow1 HBA.out.size (fun k hk => ?_)).setCell (show w.heap.size ≤ w.heap.size + 1 + 1 by omega) _, ?_⟩
        ·have e' : w.heap.size = gv := by simpa [Value.ownBlock] using e
         omega
        ·rw [hl2]
         exact ownsRow_setCell_other own1 (fun e => hg13 (by simpa [Value.ownBlock] using e)) _
        ·have e' : gv = k := by simpa [Value.ownBlock] using hk
         omega
        ·have h1 := grow1.size
         have h2 := HSA.out
         show _ ≤ (w1.setCell _ _).heap.size
         simp [World.setCell]
         omega
       have hcur2 : (w1.setCell ⟨w.heap.size + 1 + 1, 0, none⟩ (.slice (some ⟨gv1, 0, none⟩) (T.length + 2) cap1)).heap[gv1]? = some (.cells cur1 3 (0, 0)) := (Below.heap_setCell _ _ _ _ hg13).trans hcur1
       clear d3 d3' f3 f3' hr3 kc fc hcc1 own1 grow1 nil1 loc1 hcur1 HOA H2A H3A HCA HXA HSA HBA HS hce
       generalize w1.setCell ⟨w.heap.size + 1 + 1, 0, none⟩ (.slice (some ⟨gv1, 0, none⟩) (T.length + 2) cap1) = w2 at *
       have d3 := (cell_of_row _ _ 0 _ _ _ HM2.out.r3).trans (show _ = some (Value.slice (some ⟨gv1, 0, none⟩) (T.length + 2) cap1) from rfl)
       have kc2 : w2.cell? ⟨gv1, 2 * at_ + x, none⟩ = some (.int .i64 ((T ++ [0, 0]).getD (2 * at_ + x) 0)) := by
        obtain ⟨g', cap', e', _, _, _, hcc'⟩ := own_formZ HM2.out.o (by rw [hl2]; omega)
        injection e' with e1 _ _
        injection e1 with e1
        injection e1 with e1 _ _
        subst e1
        exact hcc' _ _ (cellsZ_get _ _ (by rw [hl2]; omega))
       have fc2 := frozen_of_row w2 gv1 (2 * at_ + x) _ _ hcur2
       have hq1 : ((T.length : Int) + 2).tdiv 2 = (m : Int) + 1 := by have := HLEN.out; rw [Int.tdiv_eq_ediv_of_nonneg (by omega)]; omega
       have hq2 : ((T.length : Int) + 2) / 2 = (m : Int) + 1 := by have := HLEN.out; rw [this]; omega
       have hq3 : IntKind.i64.wrap ((T.length : Int) + 2) = (T.length : Int) + 2 := IntWalk.i64_in _ (by have := HLEN.out; omega)
       have hq4 : IntKind.i64.wrap ((m : Int) + 1) = (m : Int) + 1 := IntWalk.i64_in _ (by omega)
       have hil2 : 2 * at_ + x < T.length + 2 := by omega
       have HM3 := Lib.hid ((show MkS w w2 w.heap.size (w.heap.size + 1 + 1) (w.heap.size + 1) (T ++ [0, 0]) (.slice (some ⟨gv1, 0, none⟩) (T ++ [0, 0]).length cap1) from by rw [hl2]; exact HM2.out).set (i := 2 * at_ + x) hcur2 (Nat.ne_of_lt hgB) (Nat.le_of_succ_le hgB) (m : Nat))
       have kc3 : (w2.setCell ⟨gv1, 2 * at_ + x, none⟩ (.int .i64 (m : Nat))).cell? ⟨gv1, 2 * at_ + x, none⟩ = some (.int .i64 (m : Nat)) := World.cell?_setCell_same _ _ _ kc2
       have d33 : (w2.setCell ⟨gv1, 2 * at_ + x, none⟩ (.int .i64 (m : Nat))).cell? ⟨w.heap.size + 1 + 1, 0, none⟩ = some (.slice (some ⟨gv1, 0, none⟩) (T.length + 2) cap1) := (World.cell?_setCell_other _ _ _ _ (fun e => hg13 (by injection e))).trans d3
       clear hcur2
       go_wp2_with fail
       refine ⟨⟨j + 1, m, m + 1, (T ++ [0, 0]).set (2 * at_ + x) (m : Nat), .slice (some ⟨gv1, 0, none⟩) (T.length + 2) cap1, rfl, by go_num, by omega, ?_, ?_, ?_⟩, by simp [intOf]; omega⟩
       ·show if _ then _ else _
        rw [if_pos (by omega)]
        exact HT6.out
       ·show _ ≤ _
        omega
       ·show MkS _ _ _ _ _ _ _
        rw [← hl2]
        exact HM3.out
      ·have hz1 : (nx T at_ x == 0) = false := by rw [beq_eq_false_iff_ne]; exact hz
       have HT6 := Lib.hid (HT5.out hz)
       obtain ⟨y, hy⟩ : ∃ y : Nat, nx T at_ x = (y : Int) := ⟨(nx T at_ x).toNat, by omega⟩
       have HY := Lib.hid hy
       clear hz hy t3
       go_wp2_with fail
       refine ⟨⟨j + 1, y, m, T, _, by rw [HY.out], by go_num, by omega, ?_, ?_, HS⟩, by simp [intOf]; omega⟩
       ·show if _ then _ else _
        rw [if_pos (by omega)]
        have h := HT6.out
        rw [HY.out] at h
        exact h
       ·show _ ≤ _
        omega
    ·obtain rfl : j = ls k := by omega
     have HT1 : Hid (TW ls W (k + 1) T m) := by have h := HT.out; rw [if_neg (Nat.lt_irrefl _)] at h; exact h
     go_wp2_with fail
     go_roundw
     case rel => exact ⟨k + 1, m, T, V, by go_num, by omega, HT1, by show _ ≤ _; have := HMM.out; omega, HS⟩
     case measure => simp [intOf]; omega
  ·obtain rfl : k = n := by omega
   obtain ⟨gv, cap, rfl, hgv, hgl, hcur, hcc⟩ := own_formZ HS.out.o (by rw [HT.out.len]; have := HT.out.pos; omega)
   have d3 := (cell_of_row _ _ 0 _ _ _ HS.out.r3).trans (show _ = some (Value.slice (some ⟨gv, 0, none⟩) T.length cap) from rfl)
   have d2 := (cell_of_row _ _ 0 _ _ _ HS.out.r2).trans (show _ = some (Value.slice none 0 0) from rfl)
   have f2 := frozen_of_row wr w.heap.size 0 _ _ HS.out.r2
   go_wp2_with fail
   obtain ⟨cur, hcur⟩ := hcur
   exact bodyPost_ret (results_cell_row rfl _ _ w.heap.size 70 #[.slice (some ⟨gv, 0, none⟩) T.length cap] (0, 0) _ rfl (heap_setCell_same wr w.heap.size 0 _ _ _ HS.out.r2) Tryz.underlying70 rfl hip) rfl
    ⟨T, m, _, cap, rfl, HT.out, HMM.out, ⟨gv, cur, rfl, (Below.heap_setCell _ _ _ _ (show gv ≠ w.heap.size by omega)).trans hcur, fun i hi => (cell_of_row wr gv i _ _ _ hcur).symm.trans (hcc i _ (cellsZ_get T i hi))⟩, HS.out.b.setCell (Nat.le_refl _) _⟩
end Go.Proofs.YtmkeicfklbepnaaGreat
