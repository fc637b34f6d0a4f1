/-
  Contracts: a stored block, whole.
-/
import Derived.Test.YtbgclbnbnpnolaaInfF
import Derived.Laws.BitsAllLaws
namespace Go.Proofs.Ytbgclbnbnpnolaa
set_option maxRecDepth 100000
open Go.RowKit Go.Deep Go.Joins

theorem bytesAt_lt (N a : Nat) : ∀ n, ∀ x ∈ bytesAt N a n, x < 256
  | 0, x, h => by cases h
  | n + 1, x, h => by
    rw [bytesAt, List.mem_append] at h
    rcases h with h | h
    · exact bytesAt_lt N a n x h
    · simp at h
      subst h
      exact bitsAt_lt N _ 8
theorem stored_eq (src : Src) (a : Nat) (o : List Nat) : storedM src a o = bindM (readM1 16) (fun n => bindM (readM1 16) fun t => if n = 65535 - t then storeM n else failM 13) src ((a + 7) / 8 * 8) o := rfl
theorem neg16 (v : Nat) (h : v < 65536) : 65535 ^^^ v = 65535 - v := by
  have e : (BitVec.allOnes 16 ^^^ BitVec.ofNat 16 v).toNat = 65535 ^^^ v := by
    rw [BitVec.toNat_xor, BitVec.toNat_ofNat, Nat.mod_eq_of_lt (by omega)]
    rfl
  rw [← e, BitVec.allOnes_xor, BitVec.toNat_not, BitVec.toNat_ofNat, Nat.mod_eq_of_lt (by omega)]
set_option maxHeartbeats 8000000 in
theorem stored_any (B g gr a lim : Nat) (r : Option Nat) (s : ByteArray) (o : List Nat) (hs : s.size ≤ 1000000) (hl : lim ≤ 1000000000) (w : World) (hB : B ≤ w.heap.size) (hS : Sm w B g gr r s a lim o) :
    Calls Try.prog 54 #[.pointer (some ⟨g, 0, none⟩)] w (PS w B g gr r s lim (fun _ => okE) badE (storedM (srcOf s lim) a o)) := by
  rw [stored_eq]
  have hAL := align_any gr s a 0 hs hS.le w hS.rd
  have hb0 : (a + 7) / 8 * 8 ≤ 8 * s.size := by have := hS.le; omega
  rw [show alignA a 0 = (a + 7) / 8 * 8 from if_pos rfl] at hAL
  have hb8 : (a + 7) / 8 * 8 % 8 = 0 := by omega
  generalize (a + 7) / 8 * 8 = b at *
  obtain ⟨AN, hAN⟩ : ∃ AN, bindM (readM1 16) (fun n => bindM (readM1 16) fun t => if n = 65535 - t then storeM n else failM 13) (srcOf s lim) b o = AN := ⟨_, rfl⟩
  rw [hAN]
  have HANN := Lib.hid hAN
  clear hAN
  have c0 := hS.pin.c0
  have HS := Lib.hid hS
  have HAL := Lib.hid hAL
  clear hS hAL
  go_enter Try.func54, Try.ntmps54
  go_wp2_with fail
  refine (HAL.out).mono ?_; rintro e w1 ⟨rfl, hr1, hg1⟩
  have hS1 := HS.out.read hg1 hr1 hb0
  have HS1 := Lib.hid hS1
  have HU1 := Lib.hid (ups_read (g := g) (r := r) hg1)
  have k1 : w1.cell? ⟨g, 0, none⟩ = some (.pointer (some ⟨gr, 0, none⟩)) := hS1.pin.c0
  have HPK := Lib.hid (fun (x y : World) (e1 e2 : Nat) (h : Pin x g gr) (hr : Rd 81 x gr s e1 e2) (hg : x.grownBy y (some gr)) => (h.grown hr hg).c0)
  have HPI : Hid (Pin w1.drew g gr) := hS1.pin
  have HRD : Hid (Rd 81 w1.drew gr s b 0) := hr1
  clear hr1 hg1 hS1 HAL c0
  by_cases h1 : 8 * s.size < b + 16
  · -- neither number is there
    have HE : Hid (AN = .error 3) := HANN.out.symm.trans <| bind_err (if_neg (by show ¬ b + 16 ≤ 8 * s.size; omega))
    have HR1 := Lib.hid (read_short gr s b 16 hs hb0 (by omega) h1 w1.drew HRD.out)
    have HR2 := Lib.hid (fun x h => read_bad gr s b 16 3 hs hb0 (by omega) x h)
    go_wp2_with fail
    go_region_held3 (fun w' => w'.cell? ⟨g, 0, none⟩ = some (.pointer (some ⟨gr, 0, none⟩))) (first | exact k1 | exact m1 | exact m2) (first | (go_at_call 53; refine (HR1.out).mono ?_; rintro e1 x1 ⟨rfl, hr1, hg1⟩; have m1 := HPK.out _ x1 _ _ HPI.out HRD.out (by exact hg1)) | (go_at_call 53; refine (HR2.out _ ?_).mono ?_; exact hr1; rintro e2 x2 ⟨rfl, hr2, hg2⟩; have m2 := HPK.out x1 x2 _ _ (HPI.out.grown HRD.out hg1) hr1 (by exact hg2)))
    all_goals
      have HER := Lib.hid (err_any gr s b 3 x2 hr2)
      have HUE := Lib.hid ((HU1.out.then (ups_drewN w1 1)).then ((ups_read (g := g) (r := r) hg1).then (ups_read (g := g) (r := r) hg2)))
      clear hr1 hr2 hg1 hg2 m1
      go_wp2_with fail
      refine (HER.out).mono ?_; rintro e w5 ⟨rfl, rfl⟩
      go_wp2
      go_ret
      exact .err r HE.out HUE.out rfl (by omega) (by omega)
  · have hR1 : (readM1 16) (srcOf s lim) b o = .ok (bitsAt (num s) b 16, b + 16, o) := if_pos (by show b + 16 ≤ 8 * s.size; omega)
    have HR1 := Lib.hid (read_ok gr s b 16 hs (by omega) (by omega) w1.drew HRD.out)
    by_cases h2 : 8 * s.size < b + 32
    · have HE : Hid (AN = .error 3) := HANN.out.symm.trans <| (bind_ok hR1).trans (bind_err (if_neg (by show ¬ b + 16 + 16 ≤ 8 * s.size; omega)))
      have HR2 := Lib.hid (fun x h => read_short gr s (b + 16) 16 hs (by omega) (by omega) (by omega) x h)
      generalize bitsAt (num s) b 16 = v1 at *
      clear hR1
      go_wp2_with fail
      go_region_held3 (fun w' => w'.cell? ⟨g, 0, none⟩ = some (.pointer (some ⟨gr, 0, none⟩))) (first | exact k1 | exact m1 | exact m2) (first | (go_at_call 53; refine (HR1.out).mono ?_; rintro e1 x1 ⟨rfl, hr1, hg1⟩; have m1 := HPK.out _ x1 _ _ HPI.out HRD.out (by exact hg1)) | (go_at_call 53; refine (HR2.out _ ?_).mono ?_; exact hr1; rintro e2 x2 ⟨rfl, hr2, hg2⟩; have m2 := HPK.out x1 x2 _ _ (HPI.out.grown HRD.out hg1) hr1 (by exact hg2)))
      all_goals
        have HER := Lib.hid (err_any gr s (b + 16) 3 x2 hr2)
        have HUE := Lib.hid ((HU1.out.then (ups_drewN w1 1)).then ((ups_read (g := g) (r := r) hg1).then (ups_read (g := g) (r := r) hg2)))
        clear hr1 hr2 hg1 hg2 m1
        go_wp2_with fail
        refine (HER.out).mono ?_; rintro e w5 ⟨rfl, rfl⟩
        go_wp2
        go_ret
        exact .err r HE.out HUE.out rfl (by omega) (by omega)
    · have hR2 : (readM1 16) (srcOf s lim) (b + 16) o = .ok (bitsAt (num s) (b + 16) 16, b + 16 + 16, o) := if_pos (by show b + 16 + 16 ≤ 8 * s.size; omega)
      have HR2 := Lib.hid (fun x h => read_ok gr s (b + 16) 16 hs (by omega) (by omega) x h)
      have HE := Lib.hid (HANN.out.symm.trans ((bind_ok (f := fun n => bindM (readM1 16) fun t => if n = 65535 - t then storeM n else failM 13) hR1).trans (bind_ok hR2)))
      have hv1 : bitsAt (num s) b 16 < 65536 := bitsAt_lt _ _ _
      have hv2 : bitsAt (num s) (b + 16) 16 < 65536 := bitsAt_lt _ _ _
      generalize bitsAt (num s) b 16 = v1 at *
      generalize bitsAt (num s) (b + 16) 16 = v2 at *
      clear hR1 hR2
      have hw1 : IntKind.u16.wrap (v1 : Int) = (v1 : Int) := by rw [IntKind.wrap_u16]; omega
      have hw2 : IntKind.u16.wrap (v2 : Int) = (v2 : Int) := by rw [IntKind.wrap_u16]; omega
      have hw3 : IntKind.i64.wrap (v1 : Int) = (v1 : Int) := by rw [IntKind.wrap_i64]; omega
      have hsg : (if IntKind.u16.signed = true then (-1 : Int) else IntKind.u16.max) = IntKind.u16.max := rfl
      have hxo : bits .xor .u16 IntKind.u16.max (v2 : Int) = ((65535 - v2 : Nat) : Int) := by
        rw [show (65535 - v2 : Nat) = 65535 ^^^ v2 from (neg16 v2 hv2).symm]
        exact u16_xor_nat 65535 v2 (by omega) hv2
      go_wp2_with fail
      go_region_held3 (fun w' => w'.cell? ⟨g, 0, none⟩ = some (.pointer (some ⟨gr, 0, none⟩))) (first | exact k1 | exact m1 | exact m2) (first | (go_at_call 53; refine (HR1.out).mono ?_; rintro e1 x1 ⟨rfl, hr1, hg1⟩; have m1 := HPK.out _ x1 _ _ HPI.out HRD.out (by exact hg1)) | (go_at_call 53; refine (HR2.out _ ?_).mono ?_; exact hr1; rintro e2 x2 ⟨rfl, hr2, hg2⟩; have m2 := HPK.out x1 x2 _ _ (HPI.out.grown HRD.out hg1) hr1 (by exact hg2)))
      all_goals
        have HER := Lib.hid (err_any gr s (b + 16 + 16) 0 x2 hr2)
        have hU2 := (HU1.out.then (ups_drewN w1 1)).then ((ups_read (g := g) (r := r) hg1).then (ups_read (g := g) (r := r) hg2))
        have hS2 : Sm x2 B g gr r s (b + 16 + 16) lim o := ((HS1.out.drewN 1).read hg1 hr1 (by omega)).read hg2 hr2 (by omega)
        have HU2 := Lib.hid hU2
        have HS2 := Lib.hid hS2
        have HRM := Lib.hid (room_any B g gr (b + 16 + 16) lim v1 r s o hl (by omega) x2 hS2)
        clear hr1 hr2 hg1 hg2 m1 hU2 hS2 HR1 HR2
        go_wp2_with fail
        refine (HER.out).mono ?_; rintro e w5 ⟨rfl, rfl⟩
        by_cases hv : v1 = 65535 - v2
        · rw [if_pos hv] at HE
          rw [← hv] at hxo
          by_cases hro : o.length + v1 ≤ lim
          · rw [if_pos hro] at HRM
            have HEB : Hid (∀ l1 : Nat, b + 16 + 16 = l1 → AN = if l1 + 8 * v1 ≤ 8 * s.size then .ok ((), l1 + 8 * v1, o ++ bytesAt (num s) l1 v1) else .error 3) := by
              intro l1 e
              subst e
              exact HE.out.trans (if_pos hro)
            obtain ⟨p, hpp⟩ : ∃ p, b + 16 + 16 = p := ⟨_, rfl⟩
            have HAN := Lib.hid (HEB.out p hpp)
            rw [hpp] at HS2
            have hp8 : p % 8 = 0 := by omega
            have hple : p ≤ 8 * s.size := by omega
            have HRO := Lib.hid hro
            clear hpp hro hv HEB HE HER
            go_wp2_with fail
            refine (HRM.out).mono ?_; rintro e w6 ⟨rfl, dn, rfl⟩
            have HS3 : Hid (Sm (x2.drewN dn) B g gr r s p lim o) := HS2.out.drewN dn
            have HU3 : Hid (UpS g gr r r w (x2.drewN dn)) := HU2.out.then (ups_drewN _ _)
            generalize x2.drewN dn = w6 at *
            have hS3 := HS3.out
            obtain ⟨v, pf, hb, ho, hrv, hrd, hrest⟩ := hS3
            obtain ⟨A, cp, rfl⟩ := row_slice ho
            have c0 : w6.cell? ⟨g, 0, none⟩ = some (.pointer (some ⟨gr, 0, none⟩)) := by rw [cell_of_row w6 g 0 _ _ _ hb]; rfl
            have c1 : w6.cell? ⟨g, 1, none⟩ = some (.slice A o.length cp) := by rw [cell_of_row w6 g 1 _ _ _ hb]; rfl
            have hBw : B ≤ w6.heap.size := Nat.le_trans hB HU3.out.1.size
            have HFW := Lib.hid (fun (y : World) (h : w6.drew.grownBy y (some gr)) => show y.heap[g]? = some (.cells #[.pointer (some ⟨gr, 0, none⟩), .slice A o.length cp, .int .i64 (lim : Nat), pf] 94 (0, 0)) ∧ y.ownsRow B 5 1 (.slice A o.length cp) o.length (cells8 o) ∧ B ≤ y.heap.size from
              ⟨(h.block g (lt_of_heap hb) (by intro e; injection e with e; exact blk_ne hb hrd (by decide) e)).trans hb, row_kept ho (fun q e => h.block q (ho.lt q e).2 (fun hh => row_ne (by decide) ho hrd (by rw [e, hh]))), Nat.le_trans hBw h.size⟩)
            have HRV := Lib.hid hrv
            have HRDD : Hid (Rd 81 w6.drew gr s p 0) := hrd
            have hne := row_ne (by decide) ho hb
            obtain ⟨i0, hi, hz0, hz1, hz2⟩ := info_parts info8
            clear hb ho hrv hrd hrest HRM HS2 HU2
            have hlo : o.length ≤ 1000000000 := by have := HRO.out; omega
            by_cases hfit : p + 8 * v1 ≤ 8 * s.size
            · rw [if_pos hfit] at HAN
              have HBY := Lib.hid (bytes_ok gr s p v1 hs hp8 hfit w6.drew HRDD.out)
              have hxs : (s.extract (p / 8) (p / 8 + v1)).size = v1 := by rw [ByteArray.size_extract]; omega
              have HNX := Lib.hid (nums_extract s (p / 8) v1 (by omega))
              rw [show 8 * (p / 8) = p by omega] at HNX
              generalize s.extract (p / 8) (p / 8 + v1) = X at *
              go_wp2_with fail
              go_region_law (first | (go_simp; go_at_call 63; refine (HBY.out).mono ?_; rintro e3 x3 ⟨rfl, hr3, hg3⟩; obtain ⟨hb3, ho3, hB3⟩ := HFW.out x3 (by exact hg3); have m0 : x3.cell? ⟨g, 0, none⟩ = some (.pointer (some ⟨gr, 0, none⟩)) := (by rw [cell_of_row x3 g 0 _ _ _ hb3]; rfl); have m1 : x3.cell? ⟨g, 1, none⟩ = some (.slice A o.length cp) := (by rw [cell_of_row x3 g 1 _ _ _ hb3]; rfl)) | (refine step_append_str _ (by rfl) (.tmp 47) (.tmp 54) _ _ (by rfl) B 5 i0 Try.underlying22 Try.underlying9 hi hz0 hz1 hz2 (.slice A o.length cp) o.length (cells8 o) (by rfl) (by exact ho3) X (by rfl) (by unfold maxLen; omega) (by omega) (by exact hB3) ?_; intro A4 cp4 w8 hown hgrow hat; have hb8 := (hgrow.block g (lt_of_heap hb3) (Ne.symm hne)).trans hb3; have k0 := cell_of_row w8 g 1 _ _ _ hb8; have kf := frozen_of_row w8 g 1 _ _ hb8))
              all_goals
                have hS3x := (HS3.out.drewN 1).read hg3 hr3 hfit
                rw [hxs] at hown hat
                have hG := hS3x.growL hb3 x3 (Below.refl _ _) hgrow (l := bytesAt (num s) p v1) (v2 := .slice A4 (o.length + v1) cp4) (by
                  rw [bytesAt_len, ← HNX.out, ← strCells_eq]
                  exact hown) (bytesAt_lt _ _ _) (by rw [bytesAt_len]; exact HRO.out) (by
                  rcases hat with e | e
                  · exact .inl e
                  · exact .inr ⟨_, e, Nat.le_refl _⟩)
                have HER := Lib.hid (err_any gr s (p + 8 * v1) 0 _ hG.1.rd)
                have HG := Lib.hid hG.1
                have HUG := Lib.hid ((HU3.out.then (ups_drewN w6 1)).then ((ups_read (g := g) (r := r) hg3).then hG.2))
                have kg : (w8.setCell ⟨g, 1, none⟩ (.slice A4 (o.length + v1) cp4)).cell? ⟨g, 0, none⟩ = some (.pointer (some ⟨gr, 0, none⟩)) := hG.1.pin.c0
                clear hS3x hG hr3 hg3 hb3 ho3 m0 m1 hown hgrow hat hb8 k0 kf hB3
                generalize w8.setCell ⟨g, 1, none⟩ (.slice A4 (o.length + v1) cp4) = w9 at *
                go_wp2_with fail
                refine (HER.out).mono ?_; rintro e wz ⟨rfl, rfl⟩
                go_wp2
                go_ret
                exact .ok _ HAN.out HUG.out rfl HG.out
            · rw [if_neg hfit] at HAN
              have HBY := Lib.hid (bytes_short gr s p v1 hs hple hp8 (by omega) w6.drew HRDD.out)
              have hxs : (⟨#[]⟩ : ByteArray).size = 0 := rfl
              go_wp2_with fail
              go_region_law (first | (go_simp; go_at_call 63; refine (HBY.out).mono ?_; rintro e3 x3 ⟨rfl, hr3, hg3⟩; obtain ⟨hb3, ho3, hB3⟩ := HFW.out x3 (by exact hg3); have m0 : x3.cell? ⟨g, 0, none⟩ = some (.pointer (some ⟨gr, 0, none⟩)) := (by rw [cell_of_row x3 g 0 _ _ _ hb3]; rfl); have m1 : x3.cell? ⟨g, 1, none⟩ = some (.slice A o.length cp) := (by rw [cell_of_row x3 g 1 _ _ _ hb3]; rfl)) | (refine step_append_str _ (by rfl) (.tmp 47) (.tmp 54) _ _ (by rfl) B 5 i0 Try.underlying22 Try.underlying9 hi hz0 hz1 hz2 (.slice A o.length cp) o.length (cells8 o) (by rfl) (by exact ho3) ⟨#[]⟩ (by rfl) (by unfold maxLen; omega) (by omega) (by exact hB3) ?_; intro A4 cp4 w8 hown hgrow hat; have hb8 := (hgrow.block g (lt_of_heap hb3) (Ne.symm hne)).trans hb3; have k0 := cell_of_row w8 g 1 _ _ _ hb8; have kf := frozen_of_row w8 g 1 _ _ hb8))
              all_goals
                have hgr : gr ≠ g := Ne.symm (blk_ne hb3 hr3 (by decide))
                have hr9 : Rd 81 (w8.setCell ⟨g, 1, none⟩ (.slice A4 o.length cp4)) gr s p 3 := (Below.heap_setCell _ _ _ _ hgr).trans ((hgrow.block gr hr3.lt (fun e => row_ne (by decide) ho3 hr3 e.symm)).trans hr3)
                have hU := ups_store (g := g) (gr := gr) (v2 := .slice A4 o.length cp4) HRV.out hgrow hat
                have HER := Lib.hid (err_any gr s p 3 _ hr9)
                have HUG := Lib.hid ((HU3.out.then (ups_drewN w6 1)).then ((ups_read (g := g) (r := r) hg3).then hU))
                have kg : (w8.setCell ⟨g, 1, none⟩ (.slice A4 o.length cp4)).cell? ⟨g, 0, none⟩ = some (.pointer (some ⟨gr, 0, none⟩)) := by
                  rw [cell_of_row _ g 0 _ _ _ (heap_setCell_same w8 g 1 _ _ (.slice A4 o.length cp4) hb8)]; rfl
                clear hU hr9 hgr hr3 hg3 hb3 ho3 m0 m1 hown hgrow hat hb8 k0 kf hB3
                generalize w8.setCell ⟨g, 1, none⟩ (.slice A4 o.length cp4) = w9 at *
                go_wp2_with fail
                refine (HER.out).mono ?_; rintro e wz ⟨rfl, rfl⟩
                go_wp2
                go_ret
                exact .err _ HAN.out HUG.out rfl (by omega) (by omega)
          · rw [if_neg hro] at HRM
            have HEE : Hid (AN = .error 14) := HE.out.trans (if_neg hro)
            clear hro hv HE HER
            go_wp2_with fail
            refine (HRM.out).mono ?_; rintro e w6 ⟨rfl, dn, rfl⟩
            go_wp2
            go_ret
            exact .err r HEE.out (HU2.out.then (ups_drewN _ _)) rfl (by omega) (by omega)
        · rw [if_neg hv] at HE
          have ht : ((v1 : Int) != ((65535 - v2 : Nat) : Int)) = true := by rw [bne_iff_ne]; omega
          have HEE : Hid (AN = .error 13) := HE.out
          generalize 65535 - v2 = u2 at *
          clear hv HE HER HRM
          go_wp2
          go_ret
          exact .err r HEE.out HU2.out rfl (by omega) (by omega)
end Go.Proofs.Ytbgclbnbnpnolaa
