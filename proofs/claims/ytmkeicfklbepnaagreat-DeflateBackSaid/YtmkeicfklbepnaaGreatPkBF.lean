/-
 Contracts: a stored block, whole.
 Contracts: what a sign behind a row of lengths is.
 Contracts: so many times one length.
-/
import Derived.Test.YtmkeicfklbepnaaGreatPkBE
import Derived.Laws.BitsAllLaws
import Derived.Laws.CopyOwn
import Derived.Deep.OwnRows
import Derived.Laws.OwnMore
import Derived.BigRegion
import Derived.Deep.DeepMust

namespace Go.Proofs.YtmkeicfklbepnaaGreat
set_option maxRecDepth 100000
open Go.RowKit Go.Deep Go.Joins

theorem bytesAt_lt (N a : Nat) : ∀ n, ∀ x ∈ bytesAt N a n, x < 256
 | 0, x, h => by cases h
 | n + 1, x, h => by
  rw [bytesAt, List.mem_append] at h
  rcases h with h | h
  ·exact bytesAt_lt N a n x h
  ·simp at h
   subst h
   exact bitsAt_lt N _ 8
theorem stored_eq (src : Src) (a : Nat) (o : List Nat) : storedM src a o = bindM (readM1 16) (fun n => bindM (readM1 16) fun t => if n = 65535 - t then storeM n else failM 13) src ((a + 7) / 8 * 8) o := rfl
theorem neg16 (v : Nat) (h : v < 65536) : 65535 ^^^ v = 65535 - v := by
 have e : (BitVec.allOnes 16 ^^^ BitVec.ofNat 16 v).toNat = 65535 ^^^ v := by
  rw [BitVec.toNat_xor, BitVec.toNat_ofNat, Nat.mod_eq_of_lt (by omega)]
  rfl
 rw [← e, BitVec.allOnes_xor, BitVec.toNat_not, BitVec.toNat_ofNat, Nat.mod_eq_of_lt (by omega)]
set_option maxHeartbeats 8000000 in
theorem stored_any (B g gr a lim : Nat) (r : Option Nat) (s : ByteArray) (o : List Nat) (hs : s.size ≤ 1000000) (hl : lim ≤ 1000000000) (w : World) (hB : B ≤ w.heap.size) (hS : Sm w B g gr r s a lim o) :
  Calls Tryz.prog 37 #[.pointer (some ⟨g, 0, none⟩)] w (PS w B g gr r s lim (fun _ => okE) badE (storedM (srcOf s lim) a o)) := by
 rw [stored_eq]
 have hAL := align_any gr s a 0 hs hS.le w hS.rd
 have hb0 : (a + 7) / 8 * 8 ≤ 8 * s.size := by have := hS.le; omega
 rw [show alignA a 0 = (a + 7) / 8 * 8 from if_pos rfl] at hAL
 have hb8 : (a + 7) / 8 * 8 % 8 = 0 := by omega
 generalize (a + 7) / 8 * 8 = b at *
 obtain ⟨AN, hAN⟩ : ∃ AN, bindM (readM1 16) (fun n => bindM (readM1 16) fun t => if n = 65535 - t then storeM n else failM 13) (srcOf s lim) b o = AN := ⟨_, rfl⟩
 rw [hAN]
 have HANN := Lib.hid hAN
 clear hAN
 have c0 := hS.pin.c0
 have HS := Lib.hid hS
 have HAL := Lib.hid hAL
 clear hS hAL
 go_enter Tryz.func37, Tryz.ntmps37
 go_wp2_with fail
 refine (HAL.out).mono ?_; rintro e w1 ⟨rfl, hr1, hg1⟩
 have hS1 := HS.out.read hg1 hr1 hb0
 have HS1 := Lib.hid hS1
 have HU1 := Lib.hid (ups_read (g := g) (r := r) hg1)
 have k1 : w1.cell? ⟨g, 0, none⟩ = some (.pointer (some ⟨gr, 0, none⟩)) := hS1.pin.c0
 have HPK := Lib.hid (fun (x y : World) (e1 e2 : Nat) (h : Pin x g gr) (hr : Rd 83 x gr s e1 e2) (hg : x.grownBy y (some gr)) => (h.grown hr hg).c0)
 have HPI : Hid (Pin w1.drew g gr) := hS1.pin
 have HRD : Hid (Rd 83 w1.drew gr s b 0) := hr1
 clear hr1 hg1 hS1 HAL c0
 by_cases h1 : 8 * s.size < b + 16
 ·-- neither number is there
  have HE : Hid (AN = .error 3) := HANN.out.symm.trans <| bind_err (if_neg (by show ¬ b + 16 ≤ 8 * s.size; omega))
  have HR1 := Lib.hid (read_short gr s b 16 hs hb0 (by omega) h1 w1.drew HRD.out)
  have HR2 := Lib.hid (fun x h => read_bad gr s b 16 3 hs hb0 (by omega) x h)
  go_wp2_with fail
  go_region_held3 (fun w' => w'.cell? ⟨g, 0, none⟩ = some (.pointer (some ⟨gr, 0, none⟩))) (first | exact k1 | exact m1 | exact m2) (first | (go_at_call 35; refine (HR1.out).mono ?_; rintro e1 x1 ⟨rfl, hr1, hg1⟩; have m1 := HPK.out _ x1 _ _ HPI.out HRD.out (by exact hg1)) | (go_at_call 35; refine (HR2.out _ ?_).mono ?_; exact hr1; rintro e2 x2 ⟨rfl, hr2, hg2⟩; have m2 := HPK.out x1 x2 _ _ (HPI.out.grown HRD.out hg1) hr1 (by exact hg2)))
  all_goals
   have HER := Lib.hid (err_any gr s b 3 x2 hr2)
   have HUE := Lib.hid ((HU1.out.then (ups_drewN w1 1)).then ((ups_read (g := g) (r := r) hg1).then (ups_read (g := g) (r := r) hg2)))
   clear hr1 hr2 hg1 hg2 m1
   go_wp2_with fail
   refine (HER.out).mono ?_; rintro e w5 ⟨rfl, rfl⟩
   go_wp2
   go_ret
   exact .err r HE.out HUE.out rfl (by omega) (by omega)
 ·have hR1 : (readM1 16) (srcOf s lim) b o = .ok (bitsAt (num s) b 16, b + 16, o) := if_pos (by show b + 16 ≤ 8 * s.size; omega)
  have HR1 := Lib.hid (read_ok gr s b 16 hs (by omega) (by omega) w1.drew HRD.out)
  by_cases h2 : 8 * s.size < b + 32
  ·have HE : Hid (AN = .error 3) := HANN.out.symm.trans <| (bind_ok hR1).trans (bind_err (if_neg (by show ¬ b + 16 + 16 ≤ 8 * s.size; omega)))
   have HR2 := Lib.hid (fun x h => read_short gr s (b + 16) 16 hs (by omega) (by omega) (by omega) x h)
   generalize bitsAt (num s) b 16 = v1 at *
   clear hR1
   go_wp2_with fail
   go_region_held3 (fun w' => w'.cell? ⟨g, 0, none⟩ = some (.pointer (some ⟨gr, 0, none⟩))) (first | exact k1 | exact m1 | exact m2) (first | (go_at_call 35; refine (HR1.out).mono ?_; rintro e1 x1 ⟨rfl, hr1, hg1⟩; have m1 := HPK.out _ x1 _ _ HPI.out HRD.out (by exact hg1)) | (go_at_call 35; refine (HR2.out _ ?_).mono ?_; exact hr1; rintro e2 x2 ⟨rfl, hr2, hg2⟩; have m2 := HPK.out x1 x2 _ _ (HPI.out.grown HRD.out hg1) hr1 (by exact hg2)))
   all_goals
    have HER := Lib.hid (err_any gr s (b + 16) 3 x2 hr2)
    have HUE := Lib.hid ((HU1.out.then (ups_drewN w1 1)).then ((ups_read (g := g) (r := r) hg1).then (ups_read (g := g) (r := r) hg2)))
    clear hr1 hr2 hg1 hg2 m1
    go_wp2_with fail
    refine (HER.out).mono ?_; rintro e w5 ⟨rfl, rfl⟩
    go_wp2
    go_ret
    exact .err r HE.out HUE.out rfl (by omega) (by omega)
  ·have hR2 : (readM1 16) (srcOf s lim) (b + 16) o = .ok (bitsAt (num s) (b + 16) 16, b + 16 + 16, o) := if_pos (by show b + 16 + 16 ≤ 8 * s.size; omega)
   have HR2 := Lib.hid (fun x h => read_ok gr s (b + 16) 16 hs (by omega) (by omega) x h)
   have HE := Lib.hid (HANN.out.symm.trans ((bind_ok (f := fun n => bindM (readM1 16) fun t => if n = 65535 - t then storeM n else failM 13) hR1).trans (bind_ok hR2)))
   have hv1 : bitsAt (num s) b 16 < 65536 := bitsAt_lt _ _ _
   have hv2 : bitsAt (num s) (b + 16) 16 < 65536 := bitsAt_lt _ _ _
   generalize bitsAt (num s) b 16 = v1 at *
   generalize bitsAt (num s) (b + 16) 16 = v2 at *
   clear hR1 hR2
   have hw1 : IntKind.u16.wrap (v1 : Int) = (v1 : Int) := by rw [IntKind.wrap_u16]; omega
   have hw2 : IntKind.u16.wrap (v2 : Int) = (v2 : Int) := by rw [IntKind.wrap_u16]; omega
   have hw3 : IntKind.i64.wrap (v1 : Int) = (v1 : Int) := by rw [IntKind.wrap_i64]; omega
   have hsg : (if IntKind.u16.signed = true then (-1 : Int) else IntKind.u16.max) = IntKind.u16.max := rfl
   have hxo : bits .xor .u16 IntKind.u16.max (v2 : Int) = ((65535 - v2 : Nat) : Int) := by
    rw [show (65535 - v2 : Nat) = 65535 ^^^ v2 from (neg16 v2 hv2).symm]
    exact u16_xor_nat 65535 v2 (by omega) hv2
   go_wp2_with fail
   go_region_held3 (fun w' => w'.cell? ⟨g, 0, none⟩ = some (.pointer (some ⟨gr, 0, none⟩))) (first | exact k1 | exact m1 | exact m2) (first | (go_at_call 35; refine (HR1.out).mono ?_; rintro e1 x1 ⟨rfl, hr1, hg1⟩; have m1 := HPK.out _ x1 _ _ HPI.out HRD.out (by exact hg1)) | (go_at_call 35; refine (HR2.out _ ?_).mono ?_; exact hr1; rintro e2 x2 ⟨rfl, hr2, hg2⟩; have m2 := HPK.out x1 x2 _ _ (HPI.out.grown HRD.out hg1) hr1 (by exact hg2)))
   all_goals
    have HER := Lib.hid (err_any gr s (b + 16 + 16) 0 x2 hr2)
    have hU2 := (HU1.out.then (ups_drewN w1 1)).then ((ups_read (g := g) (r := r) hg1).then (ups_read (g := g) (r := r) hg2))
    have hS2 : Sm x2 B g gr r s (b + 16 + 16) lim o := ((HS1.out.drewN 1).read hg1 hr1 (by omega)).read hg2 hr2 (by omega)
    have HU2 := Lib.hid hU2
    have HS2 := Lib.hid hS2
    have HRM := Lib.hid (room_any B g gr (b + 16 + 16) lim v1 r s o hl (by omega) x2 hS2)
    clear hr1 hr2 hg1 hg2 m1 hU2 hS2 HR1 HR2
    go_wp2_with fail
    refine (HER.out).mono ?_; rintro e w5 ⟨rfl, rfl⟩
    by_cases hv : v1 = 65535 - v2
    ·rw [if_pos hv] at HE
     rw [← hv] at hxo
     by_cases hro : o.length + v1 ≤ lim
     ·rw [if_pos hro] at HRM
      have HEB : Hid (∀ l1 : Nat, b + 16 + 16 = l1 → AN = if l1 + 8 * v1 ≤ 8 * s.size then .ok ((), l1 + 8 * v1, o ++ bytesAt (num s) l1 v1) else .error 3) := by
       intro l1 e
       subst e
       exact HE.out.trans (if_pos hro)
      obtain ⟨p, hpp⟩ : ∃ p, b + 16 + 16 = p := ⟨_, rfl⟩
      have HAN := Lib.hid (HEB.out p hpp)
      rw [hpp] at HS2
      have hp8 : p % 8 = 0 := by omega
      have hple : p ≤ 8 * s.size := by omega
      have HRO := Lib.hid hro
      clear hpp hro hv HEB HE HER
      go_wp2_with fail
      refine (HRM.out).mono ?_; rintro e w6 ⟨rfl, dn, rfl⟩
      have HS3 : Hid (Sm (x2.drewN dn) B g gr r s p lim o) := HS2.out.drewN dn
      have HU3 : Hid (UpS g gr r r w (x2.drewN dn)) := HU2.out.then (ups_drewN _ _)
      generalize x2.drewN dn = w6 at *
      have hS3 := HS3.out
      obtain ⟨v, pf, hb, ho, hrv, hrd, hrest⟩ := hS3
      obtain ⟨A, cp, rfl⟩ := row_slice ho
      have c0 : w6.cell? ⟨g, 0, none⟩ = some (.pointer (some ⟨gr, 0, none⟩)) := by rw [cell_of_row w6 g 0 _ _ _ hb]; rfl
      have c1 : w6.cell? ⟨g, 1, none⟩ = some (.slice A o.length cp) := by rw [cell_of_row w6 g 1 _ _ _ hb]; rfl
      have hBw : B ≤ w6.heap.size := Nat.le_trans hB HU3.out.1.size
      have HFW := Lib.hid (fun (y : World) (h : w6.drew.grownBy y (some gr)) => show y.heap[g]? = some (.cells #[.pointer (some ⟨gr, 0, none⟩), .slice A o.length cp, .int .i64 (lim : Nat), pf] 50 (0, 0)) ∧ y.ownsRow B 5 1 (.slice A o.length cp) o.length (cells8 o) ∧ B ≤ y.heap.size from
       ⟨(h.block g (lt_of_heap hb) (by intro e; injection e with e; exact blk_ne hb hrd (by decide) e)).trans hb, row_kept ho (fun q e => h.block q (ho.lt q e).2 (fun hh => row_ne (by decide) ho hrd (by rw [e, hh]))), Nat.le_trans hBw h.size⟩)
      have HRV := Lib.hid hrv
      have HRDD : Hid (Rd 83 w6.drew gr s p 0) := hrd
      have hne := row_ne (by decide) ho hb
      obtain ⟨i0, hi, hz0, hz1, hz2⟩ := info_parts info8
      clear hb ho hrv hrd hrest HRM HS2 HU2
      have hlo : o.length ≤ 1000000000 := by have := HRO.out; omega
      by_cases hfit : p + 8 * v1 ≤ 8 * s.size
      ·rw [if_pos hfit] at HAN
       have HBY := Lib.hid (bytes_ok gr s p v1 hs hp8 hfit w6.drew HRDD.out)
       have hxs : (s.extract (p / 8) (p / 8 + v1)).size = v1 := by rw [ByteArray.size_extract]; omega
       have HNX := Lib.hid (nums_extract s (p / 8) v1 (by omega))
       rw [show 8 * (p / 8) = p by omega] at HNX
       generalize s.extract (p / 8) (p / 8 + v1) = X at *
       go_wp2_with fail
       go_region_law (first | (go_simp; go_at_call 62; refine (HBY.out).mono ?_; rintro e3 x3 ⟨rfl, hr3, hg3⟩; obtain ⟨hb3, ho3, hB3⟩ := HFW.out x3 (by exact hg3); have m0 : x3.cell? ⟨g, 0, none⟩ = some (.pointer (some ⟨gr, 0, none⟩)) := (by rw [cell_of_row x3 g 0 _ _ _ hb3]; rfl); have m1 : x3.cell? ⟨g, 1, none⟩ = some (.slice A o.length cp) := (by rw [cell_of_row x3 g 1 _ _ _ hb3]; rfl)) | (refine step_append_str _ (by rfl) (.tmp 47) (.tmp 54) _ _ (by rfl) B 5 i0 Tryz.underlying37 Tryz.underlying9 hi hz0 hz1 hz2 (.slice A o.length cp) o.length (cells8 o) (by rfl) (by exact ho3) X (by rfl) (by unfold maxLen; omega) (by omega) (by exact hB3) ?_; intro A4 cp4 w8 hown hgrow hat; have hb8 := (hgrow.block g (lt_of_heap hb3) (Ne.symm hne)).trans hb3; have k0 := cell_of_row w8 g 1 _ _ _ hb8; have kf := frozen_of_row w8 g 1 _ _ hb8))
       all_goals
        have hS3x := (HS3.out.drewN 1).read hg3 hr3 hfit
        rw [hxs] at hown hat
        have hG := hS3x.growL hb3 x3 (Below.refl _ _) hgrow (l := bytesAt (num s) p v1) (v2 := .slice A4 (o.length + v1) cp4) (by
         rw [bytesAt_len, ← HNX.out, ← strCells_eq]
         exact hown) (bytesAt_lt _ _ _) (by rw [bytesAt_len]; exact HRO.out) (by
         rcases hat with e | e
         ·exact .inl e
         ·exact .inr ⟨_, e, Nat.le_refl _⟩)
        have HER := Lib.hid (err_any gr s (p + 8 * v1) 0 _ hG.1.rd)
        have HG := Lib.hid hG.1
        have HUG := Lib.hid ((HU3.out.then (ups_drewN w6 1)).then ((ups_read (g := g) (r := r) hg3).then hG.2))
        have kg : (w8.setCell ⟨g, 1, none⟩ (.slice A4 (o.length + v1) cp4)).cell? ⟨g, 0, none⟩ = some (.pointer (some ⟨gr, 0, none⟩)) := hG.1.pin.c0
        clear hS3x hG hr3 hg3 hb3 ho3 m0 m1 hown hgrow hat hb8 k0 kf hB3
        generalize w8.setCell ⟨g, 1, none⟩ (.slice A4 (o.length + v1) cp4) = w9 at *
        go_wp2_with fail
        refine (HER.out).mono ?_; rintro e wz ⟨rfl, rfl⟩
        go_wp2
        go_ret
        exact .ok _ HAN.out HUG.out rfl HG.out
      ·rw [if_neg hfit] at HAN
       have HBY := Lib.hid (bytes_short gr s p v1 hs hple hp8 (by omega) w6.drew HRDD.out)
       have hxs : (⟨#[]⟩ : ByteArray).size = 0 := rfl
       go_wp2_with fail
       go_region_law (first | (go_simp; go_at_call 62; refine (HBY.out).mono ?_; rintro e3 x3 ⟨rfl, hr3, hg3⟩; obtain ⟨hb3, ho3, hB3⟩ := HFW.out x3 (by exact hg3); have m0 : x3.cell? ⟨g, 0, none⟩ = some (.pointer (some ⟨gr, 0, none⟩)) := (by rw [cell_of_row x3 g 0 _ _ _ hb3]; rfl); have m1 : x3.cell? ⟨g, 1, none⟩ = some (.slice A o.length cp) := (by rw [cell_of_row x3 g 1 _ _ _ hb3]; rfl)) | (refine step_append_str _ (by rfl) (.tmp 47) (.tmp 54) _ _ (by rfl) B 5 i0 Tryz.underlying37 Tryz.underlying9 hi hz0 hz1 hz2 (.slice A o.length cp) o.length (cells8 o) (by rfl) (by exact ho3) ⟨#[]⟩ (by rfl) (by unfold maxLen; omega) (by omega) (by exact hB3) ?_; intro A4 cp4 w8 hown hgrow hat; have hb8 := (hgrow.block g (lt_of_heap hb3) (Ne.symm hne)).trans hb3; have k0 := cell_of_row w8 g 1 _ _ _ hb8; have kf := frozen_of_row w8 g 1 _ _ hb8))
       all_goals
        have hgr : gr ≠ g := Ne.symm (blk_ne hb3 hr3 (by decide))
        have hr9 : Rd 83 (w8.setCell ⟨g, 1, none⟩ (.slice A4 o.length cp4)) gr s p 3 := (Below.heap_setCell _ _ _ _ hgr).trans ((hgrow.block gr hr3.lt (fun e => row_ne (by decide) ho3 hr3 e.symm)).trans hr3)
        have hU := ups_store (g := g) (gr := gr) (v2 := .slice A4 o.length cp4) HRV.out hgrow hat
        have HER := Lib.hid (err_any gr s p 3 _ hr9)
        have HUG := Lib.hid ((HU3.out.then (ups_drewN w6 1)).then ((ups_read (g := g) (r := r) hg3).then hU))
        have kg : (w8.setCell ⟨g, 1, none⟩ (.slice A4 o.length cp4)).cell? ⟨g, 0, none⟩ = some (.pointer (some ⟨gr, 0, none⟩)) := by
         rw [cell_of_row _ g 0 _ _ _ (heap_setCell_same w8 g 1 _ _ (.slice A4 o.length cp4) hb8)]; rfl
        clear hU hr9 hgr hr3 hg3 hb3 ho3 m0 m1 hown hgrow hat hb8 k0 kf hB3
        generalize w8.setCell ⟨g, 1, none⟩ (.slice A4 o.length cp4) = w9 at *
        go_wp2_with fail
        refine (HER.out).mono ?_; rintro e wz ⟨rfl, rfl⟩
        go_wp2
        go_ret
        exact .err _ HAN.out HUG.out rfl (by omega) (by omega)
     ·rw [if_neg hro] at HRM
      have HEE : Hid (AN = .error 14) := HE.out.trans (if_neg hro)
      clear hro hv HE HER
      go_wp2_with fail
      refine (HRM.out).mono ?_; rintro e w6 ⟨rfl, dn, rfl⟩
      go_wp2
      go_ret
      exact .err r HEE.out (HU2.out.then (ups_drewN _ _)) rfl (by omega) (by omega)
    ·rw [if_neg hv] at HE
     have ht : ((v1 : Int) != ((65535 - v2 : Nat) : Int)) = true := by rw [bne_iff_ne]; omega
     have HEE : Hid (AN = .error 13) := HE.out
     generalize 65535 - v2 = u2 at *
     clear hv HE HER HRM
     go_wp2
     go_ret
     exact .err r HEE.out HU2.out rfl (by omega) (by omega)
end Go.Proofs.YtmkeicfklbepnaaGreat

namespace Go.Proofs.YtmkeicfklbepnaaGreat
set_option maxRecDepth 100000
open Go.RowKit Go.Deep Go.Joins

def rnOk (p : Nat × Nat) (r : Ending) : Prop := r = .returned (.tuple #[.int .u8 (p.1 : Nat), .int .i64 (p.2 : Nat), .int .i64 0])
def rnBad (e : Nat) (r : Ending) : Prop := ∃ y z : Int, r = .returned (.tuple #[.int .u8 y, .int .i64 z, .int .i64 (e : Nat)])
theorem ret3_eq {a b c : Int} {k l m : IntKind} {v : Int} (h : v = b) : Ending.returned (.tuple #[.int k a, .int l v, .int m c]) = .returned (.tuple #[.int k a, .int l b, .int m c]) := by rw [h]
theorem run_eq (x : Nat) (row : List Nat) (p : Nat × Nat × Nat) (h : ¬ (x = 16 ∧ row.length = 0)) (hp : runOf x row = p) (src : Src) (a : Nat) (o : List Nat) : runM x row src a o = if a + p.2.2 ≤ src.L then .ok ((p.1, p.2.1 + bitsAt src.N a p.2.2), a + p.2.2, o) else .error 3 := by
 subst hp
 unfold runM
 rw [if_neg h]
 unfold bindM readM1 retM
 by_cases hc : a + (runOf x row).2.2 ≤ src.L
 ·simp only [if_pos hc]
 ·simp only [if_neg hc]
set_option maxHeartbeats 8000000 in
theorem run_any (g gr a lim x BR n cp : Nat) (A : Option Addr) (s : ByteArray) (o row : List Nat) (hs : s.size ≤ 1000000) (ha : a ≤ 8 * s.size) (hx : x < 19) (hn : n = row.length) (hn2 : n ≤ 10000) (h256 : ∀ y ∈ row, y < 256) (w : World) (hp : Pin w g gr) (hr : Rd 83 w gr s a 0) (ho : w.ownsRow BR 5 1 (.slice A n cp) n (cells8 row)) :
  Calls Tryz.prog 99 #[.pointer (some ⟨g, 0, none⟩), .int .i64 x, .slice A n cp] w (PR w gr s rnOk rnBad (runM x row (srcOf s lim) a o)) := by
 have c0 := hp.c0
 have HP := Lib.hid hp
 have HR := Lib.hid hr
 have HO := Lib.hid ho
 have HN := Lib.hid hn
 have H256 := Lib.hid h256
 have HRE := Lib.hid (fun p h1 h2 => run_eq x row p h1 h2 (srcOf s lim) a o)
 clear hp hr ho hn h256
 by_cases h16 : x = 16
 ·subst h16
  by_cases h0 : n = 0
  ·have HM : Hid (runM 16 row (srcOf s lim) a o = .error 10) := by
    show _ = _
    unfold runM
    rw [if_pos ⟨rfl, by rw [← HN.out]; exact h0⟩]
    rfl
   subst h0
   go_enter Tryz.func99, Tryz.ntmps99
   go_wp2
   go_ret3
   exact .err HM.out (World.grownBy.refl _ _) ⟨0, 0, rfl⟩ (by omega) (by omega)
  ·have hpos : 0 < n := by omega
   obtain ⟨g2, hA⟩ : ∃ g2, A = some ⟨g2, 0, none⟩ := by
    rcases ownsRow_forms HO.out with ⟨h1, h2⟩ | ⟨g2, cap, h1⟩
    ·omega
    ·injection h1 with h1 _ _
     exact ⟨g2, h1⟩
   subst hA
   have hlast : n - 1 < row.length := by have := HN.out; omega
   have hcell : w.cell? ⟨g2, n - 1, none⟩ = some (.int .u8 ((row.getD (n - 1) 0 : Nat) : Int)) := by
    have := HO.out.cellAt (n - 1) (by omega)
    rw [this]
    simp only [cells8, List.getElem?_map, List.getElem?_eq_getElem hlast, Option.map_some, List.getD_eq_getElem?_getD, Option.getD_some]
   have hRO : runOf 16 row = (row.getD (n - 1) 0, 3, 2) := by rw [HN.out]; rfl
   have HRO := Lib.hid hRO
   obtain ⟨q, rfl⟩ : ∃ q, n = q + 1 := ⟨n - 1, by omega⟩
   replace hcell : w.cell? ⟨g2, q, none⟩ = some (.int .u8 ((row.getD q 0 : Nat) : Int)) := hcell
   have hlen : Hid (¬ (16 = 16 ∧ row.length = 0)) := fun h => by omega
   have HRO2 : Hid (runOf 16 row = (row.getD q 0, 3, 2)) := HRO.out
   generalize row.getD q 0 = y at *
   clear hRO HRO h0 hpos hlast
   have HAN := Lib.hid (HRE.out (y, 3, 2) hlen.out HRO2.out)
   by_cases hb : a + 2 ≤ 8 * s.size
   ·have HM : Hid (runM 16 row (srcOf s lim) a o = .ok ((y, 3 + bitsAt (num s) a 2), a + 2, o)) := HAN.out.trans (if_pos hb)
    have HRD := Lib.hid (read_ok gr s a 2 hs (by omega) hb w HR.out)
    have hbl : bitsAt (num s) a 2 < 2 ^ 2 := bitsAt_lt (num s) a 2
    have hbl2 : bitsAt (num s) a 2 < 128 := by omega
    generalize bitsAt (num s) a 2 = v at *
    clear hbl
    go_enter Tryz.func99, Tryz.ntmps99
    go_wp2_with fail
    refine (HRD.out).mono ?_; rintro r w1 ⟨rfl, hr1, hg1⟩
    have c1 := (HP.out.grown HR.out hg1).c0
    have HE := Lib.hid (err_any gr s (a + 2) 0 w1 hr1)
    have HR1 := Lib.hid hr1
    have HG1 := Lib.hid hg1
    clear hr1 hg1
    go_wp2_with fail
    refine (HE.out).mono ?_; rintro r w2 ⟨rfl, rfl⟩
    go_wp2
    go_ret3
    exact .ok HM.out HG1.out (by first | exact rfl | exact ret3_eq (by simp)) HR1.out hb
   ·have HM : Hid (runM 16 row (srcOf s lim) a o = .error 3) := HAN.out.trans (if_neg hb)
    have HRD := Lib.hid (read_short gr s a 2 hs ha (by omega) (by omega) w HR.out)
    go_enter Tryz.func99, Tryz.ntmps99
    go_wp2_with fail
    refine (HRD.out).mono ?_; rintro r w1 ⟨rfl, hr1, hg1⟩
    have c1 := (HP.out.grown HR.out hg1).c0
    have HE := Lib.hid (err_any gr s a 3 w1 hr1)
    have HR1 := Lib.hid hr1
    have HG1 := Lib.hid hg1
    clear hr1 hg1
    go_wp2_with fail
    refine (HE.out).mono ?_; rintro r w2 ⟨rfl, rfl⟩
    go_wp2
    go_ret3
    exact .err HM.out HG1.out ⟨_, _, rfl⟩ (by omega) (by omega)
 ·by_cases h17 : x = 17
  ·subst h17
   have HAN := Lib.hid (HRE.out (0, 3, 3) (fun h => by omega) rfl)
   by_cases hb : a + 3 ≤ 8 * s.size
   ·have HM : Hid (runM 17 row (srcOf s lim) a o = .ok ((0, 3 + bitsAt (num s) a 3), a + 3, o)) := HAN.out.trans (if_pos hb)
    have HRD := Lib.hid (read_ok gr s a 3 hs (by omega) hb w HR.out)
    have hbl : bitsAt (num s) a 3 < 2 ^ 3 := bitsAt_lt (num s) a 3
    have hbl2 : bitsAt (num s) a 3 < 128 := by omega
    generalize bitsAt (num s) a 3 = v at *
    clear hbl
    go_enter Tryz.func99, Tryz.ntmps99
    go_wp2_with fail
    refine (HRD.out).mono ?_; rintro r w1 ⟨rfl, hr1, hg1⟩
    have c1 := (HP.out.grown HR.out hg1).c0
    have HE := Lib.hid (err_any gr s (a + 3) 0 w1 hr1)
    have HR1 := Lib.hid hr1
    have HG1 := Lib.hid hg1
    clear hr1 hg1
    go_wp2_with fail
    refine (HE.out).mono ?_; rintro r w2 ⟨rfl, rfl⟩
    go_wp2
    go_ret3
    exact .ok HM.out HG1.out (by first | exact rfl | exact ret3_eq (by simp)) HR1.out hb
   ·have HM : Hid (runM 17 row (srcOf s lim) a o = .error 3) := HAN.out.trans (if_neg hb)
    have HRD := Lib.hid (read_short gr s a 3 hs ha (by omega) (by omega) w HR.out)
    go_enter Tryz.func99, Tryz.ntmps99
    go_wp2_with fail
    refine (HRD.out).mono ?_; rintro r w1 ⟨rfl, hr1, hg1⟩
    have c1 := (HP.out.grown HR.out hg1).c0
    have HE := Lib.hid (err_any gr s a 3 w1 hr1)
    have HR1 := Lib.hid hr1
    have HG1 := Lib.hid hg1
    clear hr1 hg1
    go_wp2_with fail
    refine (HE.out).mono ?_; rintro r w2 ⟨rfl, rfl⟩
    go_wp2
    go_ret3
    exact .err HM.out HG1.out ⟨_, _, rfl⟩ (by omega) (by omega)
  ·by_cases h18 : x = 18
   ·subst h18
    have HAN := Lib.hid (HRE.out (0, 11, 7) (fun h => by omega) rfl)
    by_cases hb : a + 7 ≤ 8 * s.size
    ·have HM : Hid (runM 18 row (srcOf s lim) a o = .ok ((0, 11 + bitsAt (num s) a 7), a + 7, o)) := HAN.out.trans (if_pos hb)
     have HRD := Lib.hid (read_ok gr s a 7 hs (by omega) hb w HR.out)
     have hbl : bitsAt (num s) a 7 < 2 ^ 7 := bitsAt_lt (num s) a 7
     have hbl2 : bitsAt (num s) a 7 < 128 := by omega
     generalize bitsAt (num s) a 7 = v at *
     clear hbl
     go_enter Tryz.func99, Tryz.ntmps99
     go_wp2_with fail
     refine (HRD.out).mono ?_; rintro r w1 ⟨rfl, hr1, hg1⟩
     have c1 := (HP.out.grown HR.out hg1).c0
     have HE := Lib.hid (err_any gr s (a + 7) 0 w1 hr1)
     have HR1 := Lib.hid hr1
     have HG1 := Lib.hid hg1
     clear hr1 hg1
     go_wp2_with fail
     refine (HE.out).mono ?_; rintro r w2 ⟨rfl, rfl⟩
     go_wp2
     go_ret3
     exact .ok HM.out HG1.out (by first | exact rfl | exact ret3_eq (by simp)) HR1.out hb
    ·have HM : Hid (runM 18 row (srcOf s lim) a o = .error 3) := HAN.out.trans (if_neg hb)
     have HRD := Lib.hid (read_short gr s a 7 hs ha (by omega) (by omega) w HR.out)
     go_enter Tryz.func99, Tryz.ntmps99
     go_wp2_with fail
     refine (HRD.out).mono ?_; rintro r w1 ⟨rfl, hr1, hg1⟩
     have c1 := (HP.out.grown HR.out hg1).c0
     have HE := Lib.hid (err_any gr s a 3 w1 hr1)
     have HR1 := Lib.hid hr1
     have HG1 := Lib.hid hg1
     clear hr1 hg1
     go_wp2_with fail
     refine (HE.out).mono ?_; rintro r w2 ⟨rfl, rfl⟩
     go_wp2
     go_ret3
     exact .err HM.out HG1.out ⟨_, _, rfl⟩ (by omega) (by omega)
   ·have hx1 : ((x : Int) == 16) = false := by rw [beq_eq_false_iff_ne]; omega
    have hx2 : ((x : Int) == 17) = false := by rw [beq_eq_false_iff_ne]; omega
    have hx3 : ((x : Int) == 18) = false := by rw [beq_eq_false_iff_ne]; omega
    have hx4 : IntKind.u8.wrap (x : Int) = (x : Int) := by rw [IntKind.wrap_u8]; omega
    have hx5 : (x : Int) % 256 = (x : Int) := by omega
    have HRO : Hid (runOf x row = (x, 1, 0)) := by
     show _ = _
     unfold runOf
     rw [if_neg h16, if_neg h17, if_neg h18]
    have HNZ : Hid (¬ (x = 16 ∧ row.length = 0)) := fun h => h16 h.1
    have HAN := Lib.hid (HRE.out (x, 1, 0) HNZ.out HRO.out)
    by_cases hb : a + 0 ≤ 8 * s.size
    ·have HM : Hid (runM x row (srcOf s lim) a o = .ok ((x, 1 + bitsAt (num s) a 0), a + 0, o)) := HAN.out.trans (if_pos hb)
     have HRD := Lib.hid (read_ok gr s a 0 hs (by omega) hb w HR.out)
     have hbl : bitsAt (num s) a 0 < 2 ^ 0 := bitsAt_lt (num s) a 0
     have hbl2 : bitsAt (num s) a 0 < 128 := by omega
     generalize bitsAt (num s) a 0 = v at *
     clear hbl
     go_enter Tryz.func99, Tryz.ntmps99
     go_wp2_with fail
     refine (HRD.out).mono ?_; rintro r w1 ⟨rfl, hr1, hg1⟩
     have c1 := (HP.out.grown HR.out hg1).c0
     have HE := Lib.hid (err_any gr s (a + 0) 0 w1 hr1)
     have HR1 := Lib.hid hr1
     have HG1 := Lib.hid hg1
     clear hr1 hg1
     go_wp2_with fail
     refine (HE.out).mono ?_; rintro r w2 ⟨rfl, rfl⟩
     go_wp2
     go_ret3
     exact .ok HM.out HG1.out (by first | exact rfl | exact ret3_eq (by simp)) HR1.out hb
    ·exact absurd (show a + 0 ≤ 8 * s.size by omega) hb
end Go.Proofs.YtmkeicfklbepnaaGreat

namespace Go.Proofs.YtmkeicfklbepnaaGreat
set_option maxRecDepth 100000
open Go.RowKit Go.Deep Go.Joins

theorem mul64_one (n : Nat) (hn : n ≤ 1000000) (w : World) : Calls Tryz.prog 114 #[.int .u64 1, .int .u64 n] w fun e w' => e = .returned (.tuple #[.int .u64 0, .int .u64 n]) ∧ w = w' := by
 have h1 : bits .and .u64 1 4294967295 = 1 := by decide
 have h2 : bits .and .u64 (n : Int) 4294967295 = (n : Int) := by
  have := u64_and_nat n 4294967295 (by omega) (by omega)
  rw [show (4294967295 : Nat) = 2 ^ 32 - 1 from rfl, Nat.and_two_pow_sub_one_eq_mod, Nat.mod_eq_of_lt (by omega)] at this
  exact this
 have h3 : bits .and .u64 0 4294967295 = 0 := by decide
 have h4 : (n : Int) / 4294967296 = 0 := by omega
 have h5 : (n : Int) / 2 ^ 32 = 0 := by omega
 go_enter Tryz.func114, Tryz.ntmps114
 go_wp2
 go_ret2
 exact ⟨by simp, rfl⟩
theorem mul_one (n : Nat) (hn : n ≤ 1000000) (w : World) : Calls Tryz.prog 100 #[.int .u64 1, .int .u64 n] w fun e w' => e = .returned (.tuple #[.int .u64 0, .int .u64 n]) ∧ w = w' := by
 go_enter Tryz.func100, Tryz.ntmps100
 go_wp2_with (go_at_call 114; refine (mul64_one n hn _).mono ?_; rintro e w' ⟨rfl, rfl⟩)
 go_ret2
 exact ⟨rfl, rfl⟩

/-- A row of bytes, so many of them laid down. -/
def fillB (n k x : Nat) : List Value := List.replicate k (.int .u8 (x : Nat)) ++ List.replicate (n - k) (.int .u8 0)
theorem fillB_len (n k x : Nat) (h : k ≤ n) : (fillB n k x).length = n := by simp [fillB]; omega
theorem fillB_at (n k x i : Nat) (h : i < k) : (fillB n k x)[i]? = some (.int .u8 (x : Nat)) := by
 unfold fillB
 rw [List.getElem?_append_left (by simpa using h), List.getElem?_replicate, if_pos h]
theorem fillB_zero (n x : Nat) : madeCells #[.int .u8 0] n = (fillB n 0 x).toArray := by
 apply Array.ext'
 rw [toList_madeCells_one]
 simp [fillB]
theorem fillB_splice (n k m x : Nat) (h : k + m ≤ n) : splice (fillB n k x) k (List.replicate m (.int .u8 (x : Nat))) = fillB n (k + m) x := by
 unfold splice fillB
 rw [List.length_replicate, List.take_append_of_le_length (by simp), List.take_of_length_le (by simp), List.drop_append, List.drop_eq_nil_of_le (by simp), List.length_replicate, List.drop_replicate, List.nil_append, ← List.append_assoc, List.replicate_append_replicate, show n - k - (k + m - k) = n - (k + m) by omega]
theorem fillB_full (n x : Nat) : fillB n n x = cells8 (List.replicate n x) := by simp [fillB, cells8]

set_option maxHeartbeats 4000000 in
theorem repeat_any (gx n x : Nat) (h1 : 1 ≤ n) (hn : n ≤ 1000) (w : World) (hgx : gx < w.heap.size) (hc : w.cell? ⟨gx, 0, none⟩ = some (.int .u8 (x : Nat))) :
  Calls Tryz.prog 81 #[.slice (some ⟨gx, 0, none⟩) 1 1, .int .i64 n] w fun e w' => e = .returned (.slice (some ⟨w.heap.size, 0, none⟩) n n) ∧ w'.heap[w.heap.size]? = some (.cells (cells8 (List.replicate n x)).toArray 5 (0, 0)) ∧ Below w.heap.size w w' := by
 have HM := Lib.hid (mul_one n (by omega))
 have hmk := run_make_row' (P := Tryz.prog) 37 5 (.int .u8 0) 1 Tryz.underlying37 info8 rfl .i64 .i64 n (by omega) (by omega)
 have hB0 : Below w.heap.size w (w.alloc (.cells (madeCells #[.int .u8 0] n) 5)) := (Below.refl _ _).alloc (Nat.le_refl _) _
 have hg0 : (w.alloc (.cells (madeCells #[.int .u8 0] n) 5)).heap[w.heap.size]? = some (.cells (fillB n 0 x).toArray 5 (0, 0)) := by rw [fillB_zero n x]; exact heap_alloc_new w _
 have hc0 : (w.alloc (.cells (madeCells #[.int .u8 0] n) 5)).cell? ⟨gx, 0, none⟩ = some (.int .u8 (x : Nat)) := (hB0.cell (p := ⟨gx, 0, none⟩) hgx).trans hc
 have HCC := Lib.hid hc
 have HB0 := Lib.hid hB0
 have HG0 := Lib.hid hg0
 have HC0 := Lib.hid hc0
 have hwn : IntKind.u64.wrap (n : Int) = (n : Int) := by rw [IntKind.wrap_u64]; omega
 have hwi : IntKind.i64.wrap (n : Int) = (n : Int) := by rw [IntKind.wrap_i64]; omega
 have hsz1 : (Tryz.prog.info? 5).map (·.size) = some 1 := by kernel_rfl
 clear hB0 hg0 hc0
 go_enter Tryz.func81, Tryz.ntmps81
 have hlt0 : decide ((n : Int) < 0) = false := decide_eq_false (by omega)
 have hlt1 : decide ((9223372036854775807 : Int) < (n : Int)) = false := decide_eq_false (by omega)
 go_wp2_with fail
 refine (HM.out _).mono ?_; rintro e w' ⟨rfl, rfl⟩
 go_wp2_with (with_reducible refine wpList_copy_splice rfl (.tmp 31) (.tmp 32) 37 37 rfl 5 Tryz.underlying37 hsz1 (some ⟨w.heap.size, 0, none⟩) (some ⟨gx, 0, none⟩) n n 1 1 rfl rfl w.heap.size 0 (fillB n 0 x) 5 HG0.out [.int .u8 (x : Nat)] ?c1 ?c2 ?c3 ?c4 w.heap.size w HB0.out (Nat.le_refl _) ?_)
 case c1 => show 1 = min 1 n; omega
 case c2 =>
  intro j v hj
  cases j with
  | zero =>
   simp at hj
   subst hj
   exact HCC.out
  | succ j => simp at hj
 case c3 => rw [fillB_len n 0 x (by omega)]; simp; omega
 case c4 => intro v hv; simp at hv; subst hv; rfl
 intro w1 hg1 hb1
 have HG1 : Hid (w1.heap[w.heap.size]? = some (.cells (fillB n 1 x).toArray 5 (0, 0))) := by
  have h := hg1.out
  have e := fillB_splice n 0 1 x (by omega)
  rw [show List.replicate 1 (Value.int .u8 (x : Nat)) = [.int .u8 (x : Nat)] from rfl] at e
  rw [e] at h
  exact h
 have HB1 := Lib.hid hb1
 clear hg1 hb1 hmk HG0 HC0 HB0 HM hc HCC
 go_wp2_with fail
 go_loopw [8] (fun i wr => ∃ k : Nat, 1 ≤ k ∧ k ≤ n ∧ i = .int .i64 (k : Nat) ∧ wr.heap[w.heap.size]? = some (.cells (fillB n k x).toArray 5 (0, 0)) ∧ Below w.heap.size w wr) (fun i _ => n - (intOf i).toNat)
 case atStart => exact ⟨1, Nat.le_refl _, h1, rfl, HG1.out, HB1.out⟩
 case round =>
  obtain ⟨k, hk1, hkn, rfl, hg, hb⟩ := hrel
  have HG := Lib.hid hg
  have HB := Lib.hid hb
  by_cases hlt : k < n
  ·obtain ⟨m, hm, hmn, hm0⟩ : ∃ m, m = min k (n - k) ∧ k + m ≤ n ∧ 0 < m := ⟨_, rfl, by omega, by omega⟩
   have HM := Lib.hid hm
   clear hg hb hm
   have hgo : goInt (List.replicate m (Value.int .u8 (x : Nat))).length = .int .i64 (m : Nat) := by rw [List.length_replicate]; rfl
   have hkm : IntKind.i64.wrap ((k : Int) + (m : Int)) = (k : Int) + (m : Int) := by rw [IntKind.wrap_i64]; omega
   have hkn1 : (k : Int) ≤ (n : Int) := by omega
   have hnk : ¬ n = k := by omega
   go_wp2_with fail
   have HSRC : Hid (∀ j v, (List.replicate m (Value.int .u8 (x : Nat)))[j]? = some v → wr.drew.cell? ((⟨w.heap.size, 0, none⟩ : Addr).add j) = some v) := by
    intro j v hj
    rw [List.getElem?_replicate] at hj
    split at hj
    ·injection hj with hj
     subst hj
     rw [Addr.add_lit, Nat.zero_add]
     refine (cell_of_row wr.drew w.heap.size j _ _ _ HG.out).trans ?_
     rw [List.getElem?_toArray]
     exact fillB_at n k x j (by have := HM.out; omega)
    ·cases hj
   have HFIT : Hid (k + (List.replicate m (Value.int .u8 (x : Nat))).length ≤ (fillB n k x).length) := by
    show _ ≤ _
    rw [List.length_replicate, fillB_len n k x (by omega)]
    exact hmn
   have HONE : Hid (∀ v ∈ List.replicate m (Value.int .u8 (x : Nat)), v.oneCell' = true) := by
    intro v hv
    rw [List.mem_replicate] at hv
    obtain ⟨_, rfl⟩ := hv
    rfl
   have HLEN : Hid ((List.replicate m (Value.int .u8 (x : Nat))).length = Nat.min k (n - k)) := by
    show _ = _
    rw [List.length_replicate]
    exact HM.out
   have HGD : Hid (wr.drew.heap[w.heap.size]? = some (.cells (fillB n k x).toArray 5 (0, 0))) := HG.out
   have HBD := Lib.hid (HB.out.drew)
   have HSPL := Lib.hid (fillB_splice n k m x hmn)
   obtain ⟨cs, hcs⟩ : ∃ cs, cs = List.replicate m (Value.int .u8 (x : Nat)) := ⟨_, rfl⟩
   rw [← hcs] at HSRC HFIT HONE HLEN HSPL hgo
   generalize fillB n k x = cur at *
   clear hcs
   go_region_law (first | (go_must (refine step_copy_splice (by rfl) (.tmp 41) (.tmp 44) 37 37 (by rfl) 5 Tryz.underlying37 hsz1 (some ⟨w.heap.size, k, none⟩) (some ⟨w.heap.size, 0, none⟩) (n - k) (n - k) k n (by simp [Act.eval, Act.put]) (by simp [Act.eval, Act.put]) w.heap.size k cur 5 (by exact HGD.out) cs (by exact HLEN.out) (fun _ => ⟨rfl, _, rfl, HSRC.out⟩) (by exact HFIT.out) (by exact HONE.out) w.heap.size w (by exact HBD.out) (Nat.le_refl _) ?_; intro w4 hg4 hb4; rw [hgo])) | fail)
   all_goals
    have HG5 : Hid (w4.heap[w.heap.size]? = some (.cells (fillB n (k + m) x).toArray 5 (0, 0))) := by
     have h := hg4.out
     rw [HSPL.out] at h
     exact h
    have HB5 := Lib.hid hb4
    clear hg4 hb4 HSPL HBD HGD HLEN HONE HFIT HSRC
    simp only [Act.put, List.getElem_toArray, List.getElem_cons_zero, List.getElem_cons_succ, List.setIfInBounds_toArray, List.set_cons_zero, List.set_cons_succ]
    go_wp2
    go_roundw
    case rel => exact ⟨k + m, by omega, hmn, by go_num, HG5.out, HB5.out⟩
    case measure => simp [intOf]; omega
  ·obtain rfl : k = n := by omega
   rw [fillB_full] at hg
   have HGF := Lib.hid hg
   clear hg hb HG
   go_wp2_with fail
   go_ret
   exact ⟨rfl, HGF.out, HB.out⟩
theorem same_any (n x : Nat) (h1 : 1 ≤ n) (hn : n ≤ 1000) (w : World) :
  Calls Tryz.prog 68 #[.int .i64 n, .int .u8 x] w fun e w' => ∃ gB, e = .returned (.slice (some ⟨gB, 0, none⟩) n n) ∧ w'.heap[gB]? = some (.cells (cells8 (List.replicate n x)).toArray 5 (0, 0)) ∧ w.heap.size ≤ gB ∧ Below w.heap.size w w' := by
 have hb0 : Below w.heap.size w (w.alloc (.cells #[.int .u8 (x : Nat)] 5)) := (Below.refl _ _).alloc (Nat.le_refl _) _
 have hc0 : (w.alloc (.cells #[.int .u8 (x : Nat)] 5)).cell? ⟨w.heap.size, 0, none⟩ = some (.int .u8 (x : Nat)) := by rw [cell_of_row _ _ 0 _ _ _ (heap_alloc_new w _)]; rfl
 have HR := Lib.hid (repeat_any w.heap.size n x h1 hn (w.alloc (.cells #[.int .u8 (x : Nat)] 5)) (by simp) hc0)
 have HB := Lib.hid hb0
 clear hb0 hc0
 go_enter Tryz.func68, Tryz.ntmps68
 go_wp2_with fail
 refine (HR.out).mono ?_; rintro e w' ⟨rfl, hg, hb⟩
 have HG := Lib.hid hg
 have HB2 := Lib.hid (HB.out.trans (hb.mono (by simp)))
 clear hg hb
 go_wp2
 go_ret
 refine ⟨_, rfl, ?_, by simp, HB2.out⟩
 have h := HG.out
 simp only [World.size_alloc] at h
 exact h
end Go.Proofs.YtmkeicfklbepnaaGreat
