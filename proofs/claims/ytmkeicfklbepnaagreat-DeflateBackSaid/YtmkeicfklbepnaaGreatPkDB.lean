/-
 Contracts: one block.
 Contract: Inflate.
-/
import Derived.Test.YtmkeicfklbepnaaGreatPkDA

namespace Go.Proofs.YtmkeicfklbepnaaGreat
set_option maxRecDepth 100000
open Go.RowKit Go.Deep Go.Joins

/-- A block behind its three bits. -/
noncomputable def blkR (b k : Nat) : Mm Bool := if k = 0 then (bindM storedM fun _ => retM (b == 1)) else if k = 1 then (bindM (signsM fixS fixD) fun _ => retM (b == 1)) else if k = 2 then (bindM dynamicM fun p => bindM (signsM p.1 p.2) fun _ => retM (b == 1)) else failM 12
theorem blk_ok (src : Src) (a : Nat) (o : List Nat) (h : a + 3 ≤ src.L) : blockM src a o = blkR (bitsAt src.N a 1) (bitsAt src.N (a + 1) 2) src (a + 3) o := by
 unfold blockM
 rw [bind_ok (show readM1 1 src a o = _ from if_pos (by omega)), bind_ok (show readM1 2 src (a + 1) o = _ from if_pos (by omega))]
 rfl
theorem blk_short (src : Src) (a : Nat) (o : List Nat) (h : src.L < a + 3) : blockM src a o = .error 3 := by
 unfold blockM
 by_cases h1 : a + 1 ≤ src.L
 ·rw [bind_ok (show readM1 1 src a o = _ from if_pos h1), bind_err (show readM1 2 src (a + 1) o = _ from if_neg (by omega))]
 ·rw [bind_err (show readM1 1 src a o = _ from if_neg h1)]
def bkOk (b : Bool) (r : Ending) : Prop := r = .returned (.tuple #[.bool b, .int .i64 0])
def bkBad (e : Nat) (r : Ending) : Prop := ∃ b, r = .returned (.tuple #[.bool b, .int .i64 (e : Nat)])
theorem bool_one (v : Nat) : ((v : Int) == 1) = (v == 1) := by
 rw [Bool.eq_iff_iff]
 simp
 omega
theorem dyn_o {src : Src} {a a1 : Nat} {o o1 : List Nat} {p : Cod × Cod} (ha : a ≤ src.L) (h : dynamicM src a o = .ok (p, a1, o1)) : o1 = o := by
 by_cases h14 : a + 14 ≤ src.L
 ·rw [dyn_ok src a o h14] at h
  unfold dynR at h
  split at h
  ·cases h
  ·obtain ⟨c, a2, o2, h2, h⟩ := bind_inv h
   obtain ⟨l, a3, o3, h3, h⟩ := bind_inv h
   split at h
   ·cases h
   ·obtain ⟨u, a4, o4, h4, h⟩ := bind_inv h
    obtain ⟨_, _, rfl⟩ := ret_inv h
    unfold pairM at h4
    obtain ⟨u, a5, o5, h5, h4⟩ := bind_inv h4
    rw [(make_inv h4).2.1, (make_inv h5).2.1, (row_len h3).1, (outer_n h14 h2).2]
 ·rw [dyn_short src a o (by omega)] at h
  cases h

theorem readS1 (w : World) (gr : Nat) (s : ByteArray) (a : Nat) (hs : s.size ≤ 1000000) (h : RdS w gr s a 0) :
  Calls Tryz.prog 35 #[.pointer (some ⟨gr, 0, none⟩), .int .i64 1] w fun r w' => ∃ v : Nat, r = .returned (.int .u32 (v : Nat)) ∧ w.grownBy w' (some gr) ∧ RdS w' gr s a 1 ∧ (a + 1 ≤ 8 * s.size → v = bitsAt (num s) a 1) :=
 (readS w gr s a 0 1 hs (by omega) h).mono fun _ _ ⟨v, h1, _, h3, h4, h5⟩ => ⟨v, h1, h3, h4, h5⟩
theorem readS2 (w : World) (gr : Nat) (s : ByteArray) (a : Nat) (hs : s.size ≤ 1000000) (h : RdS w gr s a 1) :
  Calls Tryz.prog 35 #[.pointer (some ⟨gr, 0, none⟩), .int .i64 2] w fun r w' => ∃ v : Nat, r = .returned (.int .u32 (v : Nat)) ∧ v < 4 ∧ w.grownBy w' (some gr) ∧ RdS w' gr s a 3 ∧ (a + 3 ≤ 8 * s.size → v = bitsAt (num s) (a + 1) 2) :=
 (readS w gr s a 1 2 hs (by omega) h).mono fun _ _ ⟨v, h1, h2, h3, h4, h5⟩ => ⟨v, h1, h2, h3, h4, h5⟩
set_option maxHeartbeats 8000000 in
theorem block_any (B g gr a lim : Nat) (r : Option Nat) (s : ByteArray) (o : List Nat) (hs : s.size ≤ 1000000) (hl : lim ≤ 1000000000) (w : World) (hB : B ≤ w.heap.size) (hS : Sm w B g gr r s a lim o) :
  Calls Tryz.prog 15 #[.pointer (some ⟨g, 0, none⟩)] w (PS w B g gr r s lim bkOk bkBad (blockM (srcOf s lim) a o)) := by
 have HBO := Lib.hid (fun h => blk_ok (srcOf s lim) a o h)
 have HBS := Lib.hid (fun h => blk_short (srcOf s lim) a o h)
 generalize blockM (srcOf s lim) a o = AN at *
 have HS := Lib.hid hS
 have k1 := hS.pin.c0
 have HPI : Hid (Pin w.drew g gr) := hS.pin
 have HRD : Hid (Rd 83 w.drew gr s a 0) := hS.rd
 have hst : RdS w.drew gr s a 0 := .inl ⟨hS.le, hS.rd⟩
 have HR1 := Lib.hid (readS1 w.drew gr s a hs hst)
 have HR2 := Lib.hid (fun x h => readS2 x gr s a hs h)
 have HPK := Lib.hid (fun (x y : World) (e1 e2 : Nat) (h : Pin x g gr) (hr : Rd 83 x gr s e1 e2) (hg : x.grownBy y (some gr)) => (h.grown hr hg).c0)
 have hle := hS.le
 clear hS hst
 go_enter Tryz.func15, Tryz.ntmps15
 go_wp2_with fail
 go_region_held3 (fun w' => w'.cell? ⟨g, 0, none⟩ = some (.pointer (some ⟨gr, 0, none⟩))) (first | exact k1 | exact m1 | exact m2) (first | (go_at_call 35; (with_reducible refine (HR1.out).mono ?_); rintro e1 x1 ⟨v1, rfl, hg1, hst1, hx1⟩; have m1 := HPK.out _ x1 _ _ HPI.out HRD.out (by exact hg1)) | (go_at_call 35; (with_reducible refine (HR2.out _ ?_).mono ?_); exact hst1; obtain ⟨b1, b2, hrd1⟩ := hst1.rd; rintro e2 x2 ⟨v2, rfl, hv2, hg2, hst2, hx2⟩; have m2 := HPK.out x1 x2 _ _ (HPI.out.grown HRD.out hg1) hrd1 (by exact hg2)))
 all_goals
  obtain ⟨b1, b2, hrd1⟩ := hst1.rd
  have HBB := Lib.hid (bool_one v1)
  have HKK : Hid (UpS g gr r r w x2) := (ups_drewN w 1).then ((ups_read hg1).then (ups_read hg2))
  have HG2 : Hid (w.drew.grownBy x2 (some gr)) := grown_then hg1 hg2
  rcases hst2 with ⟨h3, hrd2⟩ | ⟨h3, a3, ha3, hrd2⟩
  ·have e1 := hx1 (by omega)
   have e2 := hx2 h3
   have HAN : Hid (AN = blkR v1 v2 (srcOf s lim) (a + 3) o) := by
    rw [e1, e2]
    exact HBO.out h3
   have HS3 : Hid (Sm x2 B g gr r s (a + 3) lim o) := (HS.out.drewN 1).read HG2.out hrd2 h3
   have HER := Lib.hid (err_any gr s (a + 3) 0 x2 hrd2)
   have hBz : B ≤ x2.heap.size := Nat.le_trans hB HKK.out.1.size
   clear e1 e2 hx1 hx2 hg1 hg2 hst1 hrd1 hrd2 HBO HBS HR1 HR2 HPK m1
   generalize hbb : ((v1 : Int) == 1) = bl at *
   clear hbb
   go_wp2_with fail
   refine (HER.out).mono ?_; rintro e x3 ⟨rfl, rfl⟩
   clear HER
   obtain h0 | h0 | h0 | h0 : v2 = 0 ∨ v2 = 1 ∨ v2 = 2 ∨ v2 = 3 := by omega
   ·subst h0
    have HAN2 : Hid (AN = bindM storedM (fun _ => retM (v1 == 1)) (srcOf s lim) (a + 3) o) := HAN.out
    have HC := Lib.hid (stored_any B g gr (a + 3) lim r s o hs hl x2 hBz HS3.out)
    go_wp2_with fail
    refine (HC.out).mono ?_; rintro e x4 hps
    cases hn : storedM (srcOf s lim) (a + 3) o with
    | error k =>
     obtain ⟨r4, hu4, hbad, hk0, hk1⟩ := hps.of_err hn
     unfold badE at hbad
     subst hbad
     have HE := Lib.hid (HAN2.out.trans (bind_err hn))
     have HU := Lib.hid (HKK.out.then hu4)
     clear hn hps hu4
     go_wp2
     go_ret2
     exact .err r4 HE.out HU.out ⟨_, rfl⟩ hk0 hk1
    | ok q =>
     obtain ⟨u, a4, o4⟩ := q
     obtain ⟨r4, hu4, hok, hs4⟩ := hps.of_ok hn
     unfold okE at hok
     subst hok
     have HE := Lib.hid (HAN2.out.trans (bind_ok hn))
     have HU := Lib.hid (HKK.out.then hu4)
     have HS4 := Lib.hid hs4
     clear hn hps hu4 hs4
     go_wp2
     go_ret2
     exact .ok r4 HE.out HU.out (by have h := HBB.out; unfold bkOk; subst h; rfl) HS4.out
   ·subst h0
    have HAN2 : Hid (AN = bindM (signsM fixS fixD) (fun _ => retM (v1 == 1)) (srcOf s lim) (a + 3) o) := HAN.out
    have HC := Lib.hid (fixed_any B g gr (a + 3) lim r s o x2 HS3.out)
    go_wp2_with fail
    refine (HC.out).mono ?_; rintro e x4 ⟨⟨gs, gd, rfl, hcs, hcd⟩, hs4, hu4⟩
    have HU4 := Lib.hid (HKK.out.then hu4)
    have hsg := signs_all B g gr gs gd (a + 3) lim r s o fixS fixD hs hl x4 (Nat.le_trans hBz hu4.1.size) hs4 hcs hcd
    unfold CsV at hsg
    have HSG := Lib.hid hsg
    clear hs4 hu4 hcs hcd hsg
    unfold CsV
    go_wp2_with fail
    refine (HSG.out).mono ?_; rintro e x5 hps
    cases hn : signsM fixS fixD (srcOf s lim) (a + 3) o with
    | error k =>
     obtain ⟨r4, hu5, hbad, hk0, hk1⟩ := hps.of_err hn
     unfold badE at hbad
     subst hbad
     have HE := Lib.hid (HAN2.out.trans (bind_err hn))
     have HU := Lib.hid (HU4.out.then hu5)
     clear hn hps hu5
     go_wp2
     go_ret2
     exact .err r4 HE.out HU.out ⟨_, rfl⟩ hk0 hk1
    | ok q =>
     obtain ⟨u, a4, o4⟩ := q
     obtain ⟨r4, hu5, hok, hs5⟩ := hps.of_ok hn
     unfold okE at hok
     subst hok
     have HE := Lib.hid (HAN2.out.trans (bind_ok hn))
     have HU := Lib.hid (HU4.out.then hu5)
     have HS5 := Lib.hid hs5
     clear hn hps hu5 hs5
     go_wp2
     go_ret2
     exact .ok r4 HE.out HU.out (by have h := HBB.out; unfold bkOk; subst h; rfl) HS5.out
   ·subst h0
    have HAN2 : Hid (AN = bindM dynamicM (fun p => bindM (signsM p.1 p.2) fun _ => retM (v1 == 1)) (srcOf s lim) (a + 3) o) := HAN.out
    have HC := Lib.hid (idynamic_any g gr (a + 3) lim s o hs h3 x2 HS3.out.pin HS3.out.rd)
    go_wp2_with fail
    refine (HC.out).mono ?_; rintro e x4 hpr
    cases hn : dynamicM (srcOf s lim) (a + 3) o with
    | error k =>
     obtain ⟨hg4, ⟨p, q, rfl⟩, hk0, hk1⟩ := hpr.of_err hn
     have HE := Lib.hid (HAN2.out.trans (bind_err hn))
     have hne : ((k : Int) == 0) = false := by rw [beq_eq_false_iff_ne]; omega
     have HU := Lib.hid ((HKK.out.then (ups_read (g := g) (r := r) hg4)).then (ups_below (g := g) (gr := gr) (r := r) ((Below.refl x4.heap.size x4).alloc (Nat.le_refl _) (.cells #[.pointer p, .pointer q] 90))))
     clear hn hpr hg4
     go_wp2
     go_ret2
     exact .err r HE.out HU.out ⟨_, rfl⟩ hk0 hk1
    | ok q =>
     obtain ⟨⟨c, d⟩, a4, o4⟩ := q
     obtain rfl := dyn_o (src := srcOf s lim) h3 hn
     obtain ⟨hg4, ⟨gs, gd, rfl, hcs, hcd⟩, hr4, ha4⟩ := hpr.of_ok hn
     have HAN3 := Lib.hid (HAN2.out.trans (bind_ok hn))
     have hs4 := HS3.out.read hg4 hr4 ha4
     have hb5 : Below x4.heap.size x4 (x4.alloc (.cells #[.pointer (some ⟨gs, 0, none⟩), .pointer (some ⟨gd, 0, none⟩)] 90)) := (Below.refl _ _).alloc (Nat.le_refl _) _
     have HU5 := Lib.hid ((HKK.out.then (ups_read (g := g) (r := r) hg4)).then (ups_below (g := g) (gr := gr) (r := r) hb5))
     have hsg := signs_all B g gr gs gd a4 lim r s o4 c d hs hl _ (Nat.le_trans hB HU5.out.1.size) (hs4.below hb5) (hcs.far (far_below hb5)) (hcd.far (far_below hb5))
     unfold CsV at hsg
     have HSG := Lib.hid hsg
     clear hn hpr hg4 hr4 hcs hcd hsg hs4 hb5
     unfold CsV
     go_wp2_with fail
     refine (HSG.out).mono ?_; rintro e x5 hps
     cases hn : signsM c d (srcOf s lim) a4 o4 with
     | error k =>
      obtain ⟨r4, hu5, hbad, hk0, hk1⟩ := hps.of_err hn
      unfold badE at hbad
      subst hbad
      have HE := Lib.hid (HAN3.out.trans (bind_err hn))
      have HU := Lib.hid (HU5.out.then hu5)
      clear hn hps hu5
      go_wp2
      go_ret2
      exact .err r4 HE.out HU.out ⟨_, rfl⟩ hk0 hk1
     | ok q =>
      obtain ⟨u, a5, o5⟩ := q
      obtain ⟨r4, hu5, hok, hs5⟩ := hps.of_ok hn
      unfold okE at hok
      subst hok
      have HE := Lib.hid (HAN3.out.trans (bind_ok hn))
      have HU := Lib.hid (HU5.out.then hu5)
      have HS5 := Lib.hid hs5
      clear hn hps hu5 hs5
      go_wp2
      go_ret2
      exact .ok r4 HE.out HU.out (by have h := HBB.out; unfold bkOk; subst h; rfl) HS5.out
   ·subst h0
    have HE : Hid (AN = .error 12) := HAN.out
    go_wp2
    go_ret2
    exact .err r HE.out HKK.out ⟨_, rfl⟩ (by omega) (by omega)
  ·have HE := Lib.hid (HBS.out (show 8 * s.size < a + 3 from h3))
   have HER := Lib.hid (err_any gr s a3 3 x2 hrd2)
   clear hx1 hx2 hg1 hg2 hst1 hrd1 hrd2 HBO HBS HR1 HR2 HPK m1
   generalize ((v1 : Int) == 1) = bl at *
   go_wp2_with fail
   refine (HER.out).mono ?_; rintro e x3 ⟨rfl, rfl⟩
   go_wp2
   go_ret2
   exact .err r HE.out HKK.out ⟨_, rfl⟩ (by omega) (by omega)
end Go.Proofs.YtmkeicfklbepnaaGreat

namespace Go.Proofs.YtmkeicfklbepnaaGreat
set_option maxRecDepth 100000
open Go.RowKit Go.Deep Go.Joins

/-- What Inflate answers with. -/
def infV : Ans Unit → Value
 | .ok (_, a, o) => .tuple #[.string (text o), .int .i64 ((a + 7) / 8 : Nat), .int .i64 0]
 | .error e => .tuple #[.string ⟨#[]⟩, .int .i64 0, .int .i64 (e : Nat)]
theorem ret_inf (a : Nat) (o : List Nat) : Ending.returned (.tuple #[.string (text o), .int .i64 (((a : Int) + 8 - 1) / 8), .int .i64 0]) = .returned (infV (.ok ((), a, o))) := by
 unfold infV
 rw [show ((a : Int) + 8 - 1) / 8 = (((a + 7) / 8 : Nat) : Int) by omega]
theorem stable_blkR (b k : Nat) : Stable (blkR b k) := stable_ite (stable_bind stable_stored fun _ => stable_ret _) (stable_ite (stable_bind (stable_signs _ _) fun _ => stable_ret _) (stable_ite (stable_bind stable_dynamic fun _ => stable_bind (stable_signs _ _) fun _ => stable_ret _) (stable_fail _)))
theorem blk_grow {src : Src} {a a1 : Nat} {o o1 : List Nat} {b : Bool} (ha : a ≤ src.L) (h8 : src.L % 8 = 0) (h : blockM src a o = .ok (b, a1, o1)) : a < a1 := by
 by_cases h3 : a + 3 ≤ src.L
 ·rw [blk_ok src a o h3] at h
  have := ((stable_blkR _ _).grow src _ _ _ _ _ h3 h8 h).1
  omega
 ·rw [blk_short src a o (by omega)] at h
  cases h
set_option maxHeartbeats 8000000 in
theorem inflate_all (s : ByteArray) (limit : Int) (hs : s.size ≤ 1000000) (hl : limit ≤ 1000000000) (w : World) :
  Calls Tryz.prog 6 #[.string s, .int .i64 limit] w fun e w' => e = .returned (infV (inflM (srcOf s limit.toNat) 0 [])) ∧ Below w.heap.size w w' := by
 obtain ⟨lim, hlim, hlm⟩ : ∃ lim : Nat, max limit 0 = (lim : Int) ∧ limit.toNat = lim := ⟨limit.toNat, by omega, rfl⟩
 rw [hlm]
 have hl2 : lim ≤ 1000000000 := by omega
 have HRU : Hid (∀ ans, Runs blockStep (srcOf s lim) () 0 [] ans → inflM (srcOf s lim) 0 [] = ans) := fun ans h => loop_of h
 generalize inflM (srcOf s lim) 0 [] = AN at *
 have HLM := Lib.hid hlim
 clear hlm
 have HSZ := Lib.hid hs
 by_cases hneg : limit < 0
 ·obtain rfl : lim = 0 := by omega
  have hmx : max limit 0 = 0 := by omega
  clear hlim
  go_enter Tryz.func6, Tryz.ntmps6
  go_wp2_with fail
  refine (over_any s _).mono ?_; rintro e w1 ⟨rfl, rfl⟩
  go_wp2_with fail
  have hb1 : Below w.heap.size w (w.alloc (.cells #[.string s, .int .i64 0, .int .i64 0] 83)) := (Below.refl _ _).alloc (Nat.le_refl _) _
  have hb2 : Below w.heap.size w ((w.alloc (.cells #[.string s, .int .i64 0, .int .i64 0] 83)).alloc (.cells #[.pointer (some ⟨w.heap.size, 0, none⟩), .slice none 0 0, .int .i64 0, .pointer none] 50)) := hb1.alloc hb1.size _
  have hrd2 : Rd 83 ((w.alloc (.cells #[.string s, .int .i64 0, .int .i64 0] 83)).alloc (.cells #[.pointer (some ⟨w.heap.size, 0, none⟩), .slice none 0 0, .int .i64 0, .pointer none] 50)) w.heap.size s 0 0 := (Below.heap_alloc _ _ _ (by simp)).trans (heap_alloc_new w _)
  have hsz1 : (w.alloc (.cells #[.string s, .int .i64 0, .int .i64 0] 83)).heap.size = w.heap.size + 1 := by simp
  have hst2 : ((w.alloc (.cells #[.string s, .int .i64 0, .int .i64 0] 83)).alloc (.cells #[.pointer (some ⟨w.heap.size, 0, none⟩), .slice none 0 0, .int .i64 0, .pointer none] 50)).heap[w.heap.size + 1]? = some (.cells #[.pointer (some ⟨w.heap.size, 0, none⟩), .slice none 0 0, .int .i64 ((0 : Nat) : Int), .pointer none] 50 (0, 0)) := by
   rw [← hsz1]
   exact heap_alloc_new _ _
  have hS : Sm ((w.alloc (.cells #[.string s, .int .i64 0, .int .i64 0] 83)).alloc (.cells #[.pointer (some ⟨w.heap.size, 0, none⟩), .slice none 0 0, .int .i64 0, .pointer none] 50)) w.heap.size (w.heap.size + 1) w.heap.size none s 0 0 [] := ⟨.slice none 0 0, .pointer none, hst2, World.ownsRow_nil _ _ _ _, rfl, hrd2, .inl rfl, by omega, Nat.le_refl _, Nat.zero_le _, Nat.zero_le _, fun x hx => by cases hx⟩
  generalize ((w.alloc (.cells #[.string s, .int .i64 0, .int .i64 0] 83)).alloc (.cells #[.pointer (some ⟨w.heap.size, 0, none⟩), .slice none 0 0, .int .i64 0, .pointer none] 50)) = w2 at *
  have HS2 := Lib.hid hS
  have HB2 := Lib.hid hb2
  clear hb1 hb2 hrd2 hsz1 hst2 hS
  go_loopw [8] (fun bb wr => ∃ (b : Bool) (a : Nat) (o : List Nat) (r : Option Nat), bb = .bool b ∧ (b = false → ∀ ans, Runs blockStep (srcOf s 0) () a o ans → AN = ans) ∧ (b = true → AN = .ok ((), a, o)) ∧ Sm wr w.heap.size (w.heap.size + 1) w.heap.size r s a 0 o ∧ Below w.heap.size w wr) (fun _ wr => 8 * s.size - rdAt w.heap.size wr)
  case atStart => exact ⟨false, 0, [], none, rfl, fun _ ans h => (HRU.out ans h), fun h => (by cases h), HS2.out, HB2.out⟩
  case round =>
   obtain ⟨b, a, o, r, rfl, hrun, hdone, hs, hb⟩ := hrel
   have HSA := Lib.hid hs
   have HBA := Lib.hid hb
   have HM := Lib.hid (rdAt_of hs.rd)
   have hale := hs.le
   cases b with
   | true =>
    have HE := Lib.hid (hdone rfl)
    have HAT := Lib.hid (at_any w.heap.size s a 0 wr hs.rd)
    have k0 := hs.pin.c0
    obtain ⟨v, p, hbk, ho, _, _, _, _, _, _, _, h256⟩ := hs
    obtain ⟨A, cp, rfl⟩ := row_slice ho
    have k1 : wr.cell? ⟨w.heap.size + 1, 1, none⟩ = some (.slice A o.length cp) := by rw [cell_of_row wr _ 1 _ _ _ hbk]; rfl
    have hcv := string_of_own ho h256
    clear hrun hdone hb hbk ho h256
    go_wp2_with fail
    refine (HAT.out).mono ?_; rintro e w3 ⟨rfl, rfl⟩
    go_wp2
    go_ret3
    exact ⟨(ret_inf a o).trans (by rw [HE.out]), HBA.out⟩
   | false =>
    have HRUN := Lib.hid (hrun rfl)
    have HBK := Lib.hid (block_any w.heap.size (w.heap.size + 1) w.heap.size a 0 r s o HSZ.out (by omega) wr hb.size hs)
    clear hrun hdone hs hb
    go_wp2_with fail
    refine (HBK.out).mono ?_; rintro e w3 hps
    cases hn : blockM (srcOf s 0) a o with
    | error k =>
     obtain ⟨r3, hu3, ⟨bb, rfl⟩, hk0, hk1⟩ := hps.of_err hn
     have HE := Lib.hid (HRUN.out _ (.err (show blockStep () (srcOf s 0) a o = _ from bind_err hn)))
     have hne : ((k : Int) == 0) = false := by rw [beq_eq_false_iff_ne]; omega
     have HB3 := Lib.hid (HBA.out.trans (hu3.below HSA.out HBA.out.size))
     clear hn hps hu3
     go_wp2
     go_ret3
     refine ⟨?_, HB3.out⟩
     rw [HE.out]
     rfl
    | ok q =>
     obtain ⟨bb, a3, o3⟩ := q
     obtain ⟨r3, hu3, hok, hs3⟩ := hps.of_ok hn
     unfold bkOk at hok
     subst hok
     have hlt := blk_grow (src := srcOf s 0) hale (by show 8 * s.size % 8 = 0; omega) hn
     have hle3 := hs3.le
     have HB3 := Lib.hid (HBA.out.trans (hu3.below HSA.out HBA.out.size))
     have HS3 := Lib.hid hs3
     have HF : Hid (bb = false → ∀ ans, Runs blockStep (srcOf s 0) () a3 o3 ans → AN = ans) := fun hbb ans h => by
      subst hbb
      exact HRUN.out ans (.more (show blockStep () (srcOf s 0) a o = .ok (.inl (), a3, o3) from (bind_ok hn).trans rfl) h)
     have HTR : Hid (bb = true → AN = .ok ((), a3, o3)) := fun hbb => by
      subst hbb
      exact HRUN.out _ (.done (show blockStep () (srcOf s 0) a o = .ok (.inr (), a3, o3) from (bind_ok hn).trans rfl))
     clear hn hps hu3 hs3
     go_wp2
     go_roundw
     case rel => exact ⟨bb, a3, o3, r3, rfl, HF.out, HTR.out, HS3.out, HB3.out⟩
     case measure =>
      rw [rdAt_of HS3.out.rd, HM.out]
      omega
 ·have hmx : max limit 0 = limit := by omega
  obtain rfl : limit = (lim : Int) := by omega
  have hl0 : ¬ ((lim : Int) < 0) := by omega
  clear hlim hneg
  go_enter Tryz.func6, Tryz.ntmps6
  go_wp2_with fail
  refine (over_any s _).mono ?_; rintro e w1 ⟨rfl, rfl⟩
  go_wp2_with fail
  have hb1 : Below w.heap.size w (w.alloc (.cells #[.string s, .int .i64 0, .int .i64 0] 83)) := (Below.refl _ _).alloc (Nat.le_refl _) _
  have hb2 : Below w.heap.size w ((w.alloc (.cells #[.string s, .int .i64 0, .int .i64 0] 83)).alloc (.cells #[.pointer (some ⟨w.heap.size, 0, none⟩), .slice none 0 0, .int .i64 (lim : Nat), .pointer none] 50)) := hb1.alloc hb1.size _
  have hrd2 : Rd 83 ((w.alloc (.cells #[.string s, .int .i64 0, .int .i64 0] 83)).alloc (.cells #[.pointer (some ⟨w.heap.size, 0, none⟩), .slice none 0 0, .int .i64 (lim : Nat), .pointer none] 50)) w.heap.size s 0 0 := (Below.heap_alloc _ _ _ (by simp)).trans (heap_alloc_new w _)
  have hsz1 : (w.alloc (.cells #[.string s, .int .i64 0, .int .i64 0] 83)).heap.size = w.heap.size + 1 := by simp
  have hst2 : ((w.alloc (.cells #[.string s, .int .i64 0, .int .i64 0] 83)).alloc (.cells #[.pointer (some ⟨w.heap.size, 0, none⟩), .slice none 0 0, .int .i64 (lim : Nat), .pointer none] 50)).heap[w.heap.size + 1]? = some (.cells #[.pointer (some ⟨w.heap.size, 0, none⟩), .slice none 0 0, .int .i64 ((lim : Nat) : Int), .pointer none] 50 (0, 0)) := by
   rw [← hsz1]
   exact heap_alloc_new _ _
  have hS : Sm ((w.alloc (.cells #[.string s, .int .i64 0, .int .i64 0] 83)).alloc (.cells #[.pointer (some ⟨w.heap.size, 0, none⟩), .slice none 0 0, .int .i64 (lim : Nat), .pointer none] 50)) w.heap.size (w.heap.size + 1) w.heap.size none s 0 lim [] := ⟨.slice none 0 0, .pointer none, hst2, World.ownsRow_nil _ _ _ _, rfl, hrd2, .inl rfl, by omega, Nat.le_refl _, Nat.zero_le _, Nat.zero_le _, fun x hx => by cases hx⟩
  generalize ((w.alloc (.cells #[.string s, .int .i64 0, .int .i64 0] 83)).alloc (.cells #[.pointer (some ⟨w.heap.size, 0, none⟩), .slice none 0 0, .int .i64 (lim : Nat), .pointer none] 50)) = w2 at *
  have HS2 := Lib.hid hS
  have HB2 := Lib.hid hb2
  clear hb1 hb2 hrd2 hsz1 hst2 hS
  go_loopw [8] (fun bb wr => ∃ (b : Bool) (a : Nat) (o : List Nat) (r : Option Nat), bb = .bool b ∧ (b = false → ∀ ans, Runs blockStep (srcOf s lim) () a o ans → AN = ans) ∧ (b = true → AN = .ok ((), a, o)) ∧ Sm wr w.heap.size (w.heap.size + 1) w.heap.size r s a lim o ∧ Below w.heap.size w wr) (fun _ wr => 8 * s.size - rdAt w.heap.size wr)
  case atStart => exact ⟨false, 0, [], none, rfl, fun _ ans h => (HRU.out ans h), fun h => (by cases h), HS2.out, HB2.out⟩
  case round =>
   obtain ⟨b, a, o, r, rfl, hrun, hdone, hs, hb⟩ := hrel
   have HSA := Lib.hid hs
   have HBA := Lib.hid hb
   have HM := Lib.hid (rdAt_of hs.rd)
   have hale := hs.le
   cases b with
   | true =>
    have HE := Lib.hid (hdone rfl)
    have HAT := Lib.hid (at_any w.heap.size s a 0 wr hs.rd)
    have k0 := hs.pin.c0
    obtain ⟨v, p, hbk, ho, _, _, _, _, _, _, _, h256⟩ := hs
    obtain ⟨A, cp, rfl⟩ := row_slice ho
    have k1 : wr.cell? ⟨w.heap.size + 1, 1, none⟩ = some (.slice A o.length cp) := by rw [cell_of_row wr _ 1 _ _ _ hbk]; rfl
    have hcv := string_of_own ho h256
    clear hrun hdone hb hbk ho h256
    go_wp2_with fail
    refine (HAT.out).mono ?_; rintro e w3 ⟨rfl, rfl⟩
    go_wp2
    go_ret3
    exact ⟨(ret_inf a o).trans (by rw [HE.out]), HBA.out⟩
   | false =>
    have HRUN := Lib.hid (hrun rfl)
    have HBK := Lib.hid (block_any w.heap.size (w.heap.size + 1) w.heap.size a lim r s o HSZ.out (by omega) wr hb.size hs)
    clear hrun hdone hs hb
    go_wp2_with fail
    refine (HBK.out).mono ?_; rintro e w3 hps
    cases hn : blockM (srcOf s lim) a o with
    | error k =>
     obtain ⟨r3, hu3, ⟨bb, rfl⟩, hk0, hk1⟩ := hps.of_err hn
     have HE := Lib.hid (HRUN.out _ (.err (show blockStep () (srcOf s lim) a o = _ from bind_err hn)))
     have hne : ((k : Int) == 0) = false := by rw [beq_eq_false_iff_ne]; omega
     have HB3 := Lib.hid (HBA.out.trans (hu3.below HSA.out HBA.out.size))
     clear hn hps hu3
     go_wp2
     go_ret3
     refine ⟨?_, HB3.out⟩
     rw [HE.out]
     rfl
    | ok q =>
     obtain ⟨bb, a3, o3⟩ := q
     obtain ⟨r3, hu3, hok, hs3⟩ := hps.of_ok hn
     unfold bkOk at hok
     subst hok
     have hlt := blk_grow (src := srcOf s lim) hale (by show 8 * s.size % 8 = 0; omega) hn
     have hle3 := hs3.le
     have HB3 := Lib.hid (HBA.out.trans (hu3.below HSA.out HBA.out.size))
     have HS3 := Lib.hid hs3
     have HF : Hid (bb = false → ∀ ans, Runs blockStep (srcOf s lim) () a3 o3 ans → AN = ans) := fun hbb ans h => by
      subst hbb
      exact HRUN.out ans (.more (show blockStep () (srcOf s lim) a o = .ok (.inl (), a3, o3) from (bind_ok hn).trans rfl) h)
     have HTR : Hid (bb = true → AN = .ok ((), a3, o3)) := fun hbb => by
      subst hbb
      exact HRUN.out _ (.done (show blockStep () (srcOf s lim) a o = .ok (.inr (), a3, o3) from (bind_ok hn).trans rfl))
     clear hn hps hu3 hs3
     go_wp2
     go_roundw
     case rel => exact ⟨bb, a3, o3, r3, rfl, HF.out, HTR.out, HS3.out, HB3.out⟩
     case measure =>
      rw [rdAt_of HS3.out.rd, HM.out]
      omega
end Go.Proofs.YtmkeicfklbepnaaGreat
