/-
 Contracts: the bytes of a length's sign.
 Contracts: a block's signs; a stored block.
 Contracts: a stored block.
-/
import Derived.Test.YtmkeicfklbepnaaGreatPkBD
import Derived.Deep.RegionHeld3

namespace Go.Proofs.YtmkeicfklbepnaaGreat
set_option maxRecDepth 100000
open Go.RowKit Go.Deep Go.Joins

theorem PR.of_ok {α : Type} {w w' : World} {gr : Nat} {s : ByteArray} {val : α → Ending → Prop} {bad : Nat → Ending → Prop} {ans : Ans α} {r : Ending} {x : α} {a1 : Nat} {o1 : List Nat} (h : PR w gr s val bad ans r w') (e : ans = .ok (x, a1, o1)) : w.grownBy w' (some gr) ∧ val x r ∧ Rd 83 w' gr s a1 0 ∧ a1 ≤ 8 * s.size := by
 subst e
 exact h
theorem PR.of_err {α : Type} {w w' : World} {gr : Nat} {s : ByteArray} {val : α → Ending → Prop} {bad : Nat → Ending → Prop} {ans : Ans α} {r : Ending} {e : Nat} (h : PR w gr s val bad ans r w') (he : ans = .error e) : w.grownBy w' (some gr) ∧ bad e r ∧ e ≠ 0 ∧ e < 100 := by
 subst he
 exact h
theorem PS.of_ok {α : Type} {w w' : World} {B g gr lim : Nat} {rw : Option Nat} {s : ByteArray} {val : α → Ending → Prop} {bad : Nat → Ending → Prop} {ans : Ans α} {r : Ending} {x : α} {a1 : Nat} {o1 : List Nat} (h : PS w B g gr rw s lim val bad ans r w') (e : ans = .ok (x, a1, o1)) : ∃ r', UpS g gr rw r' w w' ∧ val x r ∧ Sm w' B g gr r' s a1 lim o1 := by
 subst e
 exact h
theorem PS.of_err {α : Type} {w w' : World} {B g gr lim : Nat} {rw : Option Nat} {s : ByteArray} {val : α → Ending → Prop} {bad : Nat → Ending → Prop} {ans : Ans α} {r : Ending} {e : Nat} (h : PS w B g gr rw s lim val bad ans r w') (he : ans = .error e) : ∃ r', UpS g gr rw r' w w' ∧ bad e r ∧ e ≠ 0 ∧ e < 100 := by
 subst he
 exact h
theorem number_o {p : Nat × Nat} {s : Src} {a a1 x : Nat} {o o1 : List Nat} (h : numberM p s a o = .ok (x, a1, o1)) : o1 = o ∧ p.1 ≠ 0 ∧ x = p.1 + bitsAt s.N a p.2 := by
 unfold numberM at h
 split at h
 ·cases h
 ·rename_i h0
  unfold bindM readM1 retM at h
  split at h
  ·cases h
  ·rename_i y a2 o2 h2
   split at h2
   ·injection h2 with h2
    cases h2
    injection h with h
    cases h
    exact ⟨rfl, h0, rfl⟩
   ·cases h2
theorem number_same {p : Nat × Nat} {s : Src} {a a1 x : Nat} {o o1 : List Nat} (h : numberM p s a o = .ok (x, a1, o1)) : o1 = o := (number_o h).1
theorem sign_same {c : Cod} {s : Src} {a a1 x : Nat} {o o1 : List Nat} (h : signM c s a o = .ok (x, a1, o1)) : o1 = o := by
 obtain ⟨_, _, h, _⟩ := sign_ok _ _ _ _ _ _ _ h
 exact h
theorem number_le {p : Nat × Nat} {s : Src} {a a1 x : Nat} {o o1 : List Nat} (h : numberM p s a o = .ok (x, a1, o1)) : 0 < x ∧ x < p.1 + 2 ^ p.2 := by
 obtain ⟨_, h0, rfl⟩ := number_o h
 have := bitsAt_lt s.N a p.2
 exact ⟨by omega, by omega⟩
theorem bytes_get {o : List Nat} (ho : ∀ x ∈ o, x < 256) {i : Nat} (h : i < o.length) : o.getD i 0 < 256 := by
 rw [List.getD_eq_getElem?_getD, List.getElem?_eq_getElem h]
 exact ho _ (List.getElem_mem h)

/-- A stream's bytes: where they lie. -/
theorem Sm.byte {w : World} {B g gr a lim : Nat} {r : Option Nat} {s : ByteArray} {o : List Nat} (h : Sm w B g gr r s a lim o) (h0 : 0 < o.length) :
  ∃ g2 cap p, w.heap[g]? = some (.cells #[.pointer (some ⟨gr, 0, none⟩), .slice (some ⟨g2, 0, none⟩) o.length cap, .int .i64 (lim : Nat), p] 50 (0, 0)) ∧ w.ownsRow B 5 1 (.slice (some ⟨g2, 0, none⟩) o.length cap) o.length (cells8 o) ∧
   ∀ i, i < o.length → w.cell? ⟨g2, i, none⟩ = some (.int .u8 ((o.getD i 0 : Nat) : Int)) := by
 obtain ⟨v, p, hb, ho, _⟩ := h
 rcases ownsRow_forms ho with ⟨rfl, hn⟩ | ⟨g2, cap, rfl⟩
 ·omega
 ·refine ⟨g2, cap, p, hb, ho, fun i hi => ?_⟩
  have := ho.cellAt i (by omega)
  rw [this]
  simp only [cells8, List.getElem?_map, List.getElem?_eq_getElem hi, Option.map_some, List.getD_eq_getElem?_getD, Option.getD_some]

set_option maxHeartbeats 8000000 in
theorem again_any (B g gr gd a lim x : Nat) (r : Option Nat) (s : ByteArray) (o : List Nat) (d : Cod) (hs : s.size ≤ 1000000) (hl : lim ≤ 1000000000) (w : World) (hB : B ≤ w.heap.size) (hS : Sm w B g gr r s a lim o) (hd : CdC w gd d) :
  Calls Tryz.prog 65 #[.pointer (some ⟨g, 0, none⟩), .int .i64 x, .pointer (some ⟨gd, 0, none⟩)] w (PS w B g gr r s lim (fun _ => okE) badE (againM x d (srcOf s lim) a o)) := by
 have hlen := lengths_any (x : Nat) w
 rw [Int.toNat_natCast] at hlen
 have hlb := len_bound x
 have HD := Lib.hid hd
 have HS := Lib.hid hS
 have HP := Lib.hid hS.pin
 have c0 := hS.pin.c0
 have hale := hS.le
 have HA : Hid (againM x d (srcOf s lim) a o = bindM (numberM (lenOf x)) (fun n => bindM (signM d) fun y => bindM (numberM (distOf y)) fun k => copyM n k) (srcOf s lim) a o) := rfl
 have HNU := Lib.hid (number_any g gr a (lenOf x).1 (lenOf x).2 lim s o hs hale (by omega) (by omega) w hS.pin hS.rd)
 have HNL := Lib.hid (fun n a1 o1 h => number_le (p := lenOf x) (s := srcOf s lim) (a := a) (a1 := a1) (x := n) (o := o) (o1 := o1) h)
 have h32 : (2 : Nat) ^ (lenOf x).2 ≤ 2 ^ 5 := Nat.pow_le_pow_right (by omega) hlb.2
 have HNB : Hid ((lenOf x).1 ≤ 258 ∧ (2 : Nat) ^ (lenOf x).2 ≤ 32) := ⟨hlb.1, h32⟩
 generalize againM x d (srcOf s lim) a o = AG at *
 generalize lenOf x = L at *
 obtain ⟨l1, l2⟩ := L
 have HLEN := Lib.hid hlen
 clear hlen hlb hd hS h32
 go_enter Tryz.func65, Tryz.ntmps65
 go_wp2_with fail
 refine (HLEN.out).mono ?_; rintro e w1 ⟨rfl, rfl⟩
 go_wp2_with fail
 refine (HNU.out).mono ?_; rintro e w1 hpr
 cases hn : numberM (l1, l2) (srcOf s lim) a o with
 | error k =>
  obtain ⟨hg, ⟨z, rfl⟩, hk0, hk1⟩ := hpr.of_err hn
  have HE := Lib.hid (HA.out.trans (bind_err hn))
  have hne : ((k : Int) == 0) = false := by rw [beq_eq_false_iff_ne]; omega
  have HG := Lib.hid hg
  clear hn hpr hg hk0 HA
  go_wp2
  go_ret
  exact .err r HE.out (ups_read HG.out) rfl (by intro h; subst h; simp at hne) hk1
 | ok q =>
  obtain ⟨n, a1, o1⟩ := q
  obtain rfl := number_same hn
  have hnb : 0 < n ∧ n ≤ 290 := by
   have h1 := HNL.out n a1 _ hn
   have h2 := HNB.out
   try simp only at h1 h2
   omega
  obtain ⟨hg, rfl, hr1, ha1⟩ := hpr.of_ok hn
  have HA1 := Lib.hid (HA.out.trans (bind_ok hn))
  have hS1 := HS.out.read hg hr1 ha1
  have HSG := Lib.hid (signC_any gd gr a1 lim d s o1 hs ha1 w1 (HD.out.far (far_read HS.out.rd hg)) hr1)
  have HS1 := Lib.hid hS1
  have c01 := hS1.pin.c0
  have HU1 := Lib.hid (ups_read (g := g) (r := r) hg)
  have HD1 := Lib.hid (HD.out.far (far_read HS.out.rd hg))
  clear hn hpr hg hr1 HA hS1 HNU HLEN HNL HNB
  obtain ⟨hn0, hn1⟩ := hnb
  go_wp2_with fail
  refine (HSG.out).mono ?_; rintro e w2 hpr
  cases hn : signM d (srcOf s lim) a1 o1 with
  | error k =>
   obtain ⟨hg, hbad, hk0, hk1⟩ := hpr.of_err hn
   unfold sgBad at hbad
   subst hbad
   have HE := Lib.hid (HA1.out.trans (bind_err hn))
   have hne : ((k : Int) == 0) = false := by rw [beq_eq_false_iff_ne]; omega
   have HG := Lib.hid hg
   clear hn hpr hg HA1
   go_wp2
   go_ret
   exact .err r HE.out (HU1.out.then (ups_read HG.out)) rfl hk0 hk1
  | ok q =>
   obtain ⟨y, a2, o2⟩ := q
   obtain rfl := sign_same hn
   obtain ⟨hg, ⟨rfl, hyn⟩, hr2, ha2⟩ := hpr.of_ok hn
   have HA2 := Lib.hid (HA1.out.trans (bind_ok hn))
   have hS2 := HS1.out.read hg hr2 ha2
   have hdis := distances_any (y : Nat) w2
   rw [Int.toNat_natCast, if_neg (by omega), if_neg (by omega)] at hdis
   have hdb := dist_bound y
   have HNU := Lib.hid (number_any g gr a2 (distOf y).1 (distOf y).2 lim s o2 hs ha2 (by omega) (by omega) w2 hS2.pin hr2)
   have HNL := Lib.hid (fun n a1 o1 h => number_le (p := distOf y) (s := srcOf s lim) (a := a2) (a1 := a1) (x := n) (o := o2) (o1 := o1) h)
   have h32 : (2 : Nat) ^ (distOf y).2 ≤ 2 ^ 13 := Nat.pow_le_pow_right (by omega) hdb.2
   have HNB : Hid ((distOf y).1 ≤ 32768 ∧ (2 : Nat) ^ (distOf y).2 ≤ 8192) := ⟨hdb.1, h32⟩
   have HS2 := Lib.hid hS2
   have c02 := hS2.pin.c0
   have HU2 := Lib.hid (HU1.out.then (ups_read (g := g) (r := r) hg))
   have HDS := Lib.hid hdis
   clear hn hpr hg hr2 HA1 hS2 hdis hdb h32 HU1 HSG
   generalize distOf y = L at *
   obtain ⟨q1, q2⟩ := L
   go_wp2_with fail
   refine (HDS.out).mono ?_; rintro e w3 ⟨rfl, rfl⟩
   go_wp2_with fail
   refine (HNU.out).mono ?_; rintro e w3 hpr
   cases hn : numberM (q1, q2) (srcOf s lim) a2 o2 with
   | error k =>
    obtain ⟨hg, ⟨z, rfl⟩, hk0, hk1⟩ := hpr.of_err hn
    have HE := Lib.hid (HA2.out.trans (bind_err hn))
    have hne : ((k : Int) == 0) = false := by rw [beq_eq_false_iff_ne]; omega
    have HG := Lib.hid hg
    clear hn hpr hg HA2
    go_wp2
    go_ret
    exact .err r HE.out (HU2.out.then (ups_read HG.out)) rfl hk0 hk1
   | ok q =>
    obtain ⟨k, a3, o3⟩ := q
    obtain rfl := number_same hn
    have hkb : 0 < k ∧ k ≤ 50000 := by
     have h1 := HNL.out k a3 _ hn
     have h2 := HNB.out
     try simp only at h1 h2
     omega
    obtain ⟨hg, rfl, hr3, ha3⟩ := hpr.of_ok hn
    have HA3 := Lib.hid (HA2.out.trans (bind_ok hn))
    have hS3 := HS2.out.read hg hr3 ha3
    have HS3 := Lib.hid hS3
    have HU3 := Lib.hid (HU2.out.then (ups_read (g := g) (r := r) hg))
    have HRM := Lib.hid (room_any B g gr a3 lim n r s o3 hl (by omega) w3 hS3)
    have hlo := hS3.room
    obtain ⟨v, p, hb, ho, hrest⟩ := hS3
    obtain ⟨A, cp, rfl⟩ := row_slice ho
    have c3 : w3.cell? ⟨g, 1, none⟩ = some (.slice A o3.length cp) := by rw [cell_of_row w3 g 1 _ _ _ hb]; rfl
    have HCP : Hid (copyM n k (srcOf s lim) a3 o3 = if o3.length < k then .error 11 else if o3.length + n ≤ lim then .ok ((), a3, copyL o3 k n) else .error 14) := rfl
    have HO3 : Hid (∀ j, (copyL o3 k j).length = o3.length + j) := copyL_len o3 k
    have HOC := Lib.hid (fun j => show copyL o3 k (j + 1) = copyL o3 k j ++ [(copyL o3 k j).getD ((copyL o3 k j).length - k) 0] from rfl)
    clear hn hpr hg hr3 HA2 HU2 HNU HNL HNB hb ho hrest HDS
    obtain ⟨hk0, hk1⟩ := hkb
    generalize hzz : o3.length = z at *
    have HZ := Lib.hid hzz
    clear hzz
    by_cases hzk : z < k
    ·have HE : Hid (AG = .error 11) := HA3.out.trans (HCP.out.trans (if_pos hzk))
     go_wp2
     go_ret
     exact .err r HE.out HU3.out rfl (by omega) (by omega)
    ·by_cases hro : z + n ≤ lim
     ·have HE : Hid (AG = .ok ((), a3, copyL o3 k n)) := HA3.out.trans (HCP.out.trans ((if_neg hzk).trans (if_pos hro)))
      rw [if_pos hro] at HRM
      go_wp2_with fail
      refine (HRM.out).mono ?_; rintro e w4 ⟨rfl, dn, rfl⟩
      have HS4 : Hid (Sm (w3.drewN dn) B g gr r s a3 lim o3) := HS3.out.drewN dn
      have HU4 : Hid (UpS g gr r r w (w3.drewN dn)) := HU3.out.then (ups_drewN _ _)
      generalize w3.drewN dn = w4 at *
      obtain ⟨i0, hi, hz0, hz1, hz2⟩ := info_parts info8
      clear HRM HS3 HU3 c3 HS HP c0 HD HS1 c01 HD1 HS2 c02 HA3 HCP
      go_wp2_with fail
      go_loopw [62] (fun i wr => ∃ j r', j ≤ n ∧ i = .int .i64 (j : Nat) ∧ Sm wr B g gr r' s a3 lim (copyL o3 k j) ∧ UpS g gr r r' w wr) (fun i _ => n - (intOf i).toNat)
      case atStart => exact ⟨0, r, Nat.zero_le _, rfl, HS4.out, HU4.out⟩
      case round =>
       obtain ⟨j, r1, hj, rfl, hs1, hu1⟩ := hrel
       have HU1 := Lib.hid hu1
       have HS1 := Lib.hid hs1
       by_cases hjn : j < n
       ·have hlen : (copyL o3 k j).length = z + j := HO3.out j
        obtain ⟨g2, cap, p2, hb2, ho2, hcs⟩ := hs1.byte (by omega)
        have hby := bytes_get (o := copyL o3 k j) (i := z + j - k) (by obtain ⟨_, _, _, _, _, _, _, h⟩ := hs1; exact h.2.2.2.2) (by omega)
        have hcell := hcs (z + j - k) (by omega)
        have HOC1 := Lib.hid (HOC.out j)
        rw [hlen] at hb2 ho2 HOC1
        have hxl : (copyL o3 k j).length + 1 ≤ lim := by omega
        generalize copyL o3 k j = oj at *
        generalize hyy : oj.getD (z + j - k) 0 = yb at *
        have c1 : wr.cell? ⟨g, 1, none⟩ = some (.slice (some ⟨g2, 0, none⟩) (z + j) cap) := by rw [cell_of_row wr g 1 _ _ _ hb2]; rfl
        have c1a : (wr.alloc (.cells #[.int .u8 (yb : Nat)] 5)).cell? ⟨g, 1, none⟩ = some (.slice (some ⟨g2, 0, none⟩) (z + j) cap) := by rw [World.cell?_alloc_lt _ _ _ (lt_of_block' hb2)]; exact c1
        obtain ⟨q, hq, hq2⟩ : ∃ q : Nat, z + j - k = q ∧ ((z : Int) + (j : Int) - (k : Int)) = (q : Int) := ⟨z + j - k, rfl, by omega⟩
        rw [hq] at hcell
        have hqz : q < z + j := by omega
        have hw1 : IntKind.i64.wrap (q : Int) = (q : Int) := by rw [IntKind.wrap_i64]; omega
        have hqi : (q : Int) < (z : Int) + (j : Int) := by omega
        have HB2 := Lib.hid hb2
        have HO2 := Lib.hid ho2
        have HLX := Lib.hid hxl
        have HHL := Lib.hid hlen
        have hzj : z + j ≤ 1000000000 := by omega
        have hne := row_ne (by decide) ho2 hb2
        have hBw : B ≤ wr.heap.size := Nat.le_trans hB hu1.1.size
        clear hb2 ho2 hcs hyy hq hxl hlen hs1 hu1
        go_wp2_with fail
        go_region_law ((refine step_append_lies _ (by rfl) (.tmp 68) (.tmp 82) _ (by rfl) B 5 i0 (.int .u8 0) 1 1 Tryz.underlying37 hi hz0 hz1 hz2 rfl (by decide) (.slice (some ⟨g2, 0, none⟩) (z + j) cap) (z + j) (cells8 oj) (by rfl) (HO2.out.alloc _).drew ⟨wr.heap.size, 0, none⟩ 1 1 [.int .u8 (yb : Nat)] (by rfl) rfl (by exact World.news_of_block (heap_alloc_new _ _)) (by intro u hu; simp at hu; subst hu; rfl) (by omega) (by unfold maxLen; omega) (by omega) (by simp; omega) (wr.heap.size + 1) (by simp) ?_; intro g3 cap3 w5 hown hgrow hat hlt; have hb5 := after_append HB2.out hgrow hne; have k0 := cell_of_row w5 g 1 _ _ _ hb5; have kf := frozen_of_row w5 g 1 _ _ hb5))
        all_goals
         have HG := Lib.hid (HS1.out.grow HB2.out (wr.alloc (.cells #[.int .u8 (yb : Nat)] 5)).drew (((Below.refl wr.heap.size wr).alloc (Nat.le_refl _) _).drew) hgrow (by rw [HHL.out]; exact hown) (by exact hby) HLX.out (by
          rcases hat with e | e
          ·exact .inl e.symm
          ·exact .inr ⟨g3, rfl, by omega⟩))
         clear hown hgrow hat hlt hb5 k0 kf c1 c1a
         go_wp2
         go_roundw
         case rel =>
          refine ⟨j + 1, _, by omega, by go_num, ?_, HU1.out.then HG.out.2⟩
          rw [HOC1.out]
          exact HG.out.1
         case measure => simp [intOf]; omega
       ·obtain rfl : j = n := by omega
        clear hs1 hu1
        go_wp2_with fail
        go_ret
        exact .ok _ HE.out HU1.out rfl HS1.out
     ·have HE : Hid (AG = .error 14) := HA3.out.trans (HCP.out.trans ((if_neg hzk).trans (if_neg hro)))
      rw [if_neg hro] at HRM
      go_wp2_with fail
      refine (HRM.out).mono ?_; rintro e w4 ⟨rfl, dn, rfl⟩
      go_wp2
      go_ret
      exact .err r HE.out (HU3.out.then (ups_drewN _ dn)) rfl (by omega) (by omega)
end Go.Proofs.YtmkeicfklbepnaaGreat

namespace Go.Proofs.YtmkeicfklbepnaaGreat
set_option maxRecDepth 100000
open Go.RowKit Go.Deep Go.Joins

/-- The struct of a block's two codes. -/
def CsV (gs gd : Nat) : Value := .agg #[.pointer (some ⟨gs, 0, none⟩), .pointer (some ⟨gd, 0, none⟩)]
theorem step_again (c d : Cod) (s : Src) (a x a1 : Nat) (o o1 : List Nat) (h : signM c s a o = .ok (x, a1, o1)) (hx : 256 < x) : stepM c d () s a o = bindM (againM x d) (fun _ => retM (.inl ())) s a1 o1 := by
 unfold stepM
 rw [bind_ok h]
 show (if x = 256 then _ else _ : Mm _) s a1 o1 = _
 rw [if_neg (by omega), if_neg (by omega)]
theorem step_byte (c d : Cod) (s : Src) (a x a1 : Nat) (o o1 : List Nat) (h : signM c s a o = .ok (x, a1, o1)) (hx : x < 256) : stepM c d () s a o = bindM (putM x) (fun _ => retM (.inl ())) s a1 o1 := by
 unfold stepM
 rw [bind_ok h]
 show (if x = 256 then _ else _ : Mm _) s a1 o1 = _
 rw [if_neg (by omega), if_pos hx]
theorem step_end (c d : Cod) (s : Src) (a a1 : Nat) (o o1 : List Nat) (h : signM c s a o = .ok (256, a1, o1)) : stepM c d () s a o = .ok (.inr (), a1, o1) := by
 unfold stepM
 rw [bind_ok h]
 rfl
theorem step_bad (c d : Cod) (s : Src) (a e : Nat) (o : List Nat) (h : signM c s a o = .error e) : stepM c d () s a o = .error e := by
 unfold stepM
 rw [bind_err h]
theorem stable_again (x : Nat) (d : Cod) : Stable (againM x d) := stable_bind (stable_number _) fun _ => stable_bind (stable_sign _) fun _ => stable_bind (stable_number _) fun _ => stable_copy _ _
/-- How far a reader has come. -/
def rdAt (gr : Nat) (w : World) : Nat := match w.cell? ⟨gr, 1, none⟩ with
 | some (.int _ z) => z.toNat
 | _ => 0
theorem rdAt_of {w : World} {gr a e : Nat} {s : ByteArray} (h : Rd 83 w gr s a e) : rdAt gr w = a := by
 unfold rdAt
 rw [h.c1]
 simp

set_option maxHeartbeats 8000000 in
theorem signs_all (B g gr gs gd a0 lim : Nat) (r0 : Option Nat) (s : ByteArray) (o0 : List Nat) (c d : Cod) (hs : s.size ≤ 1000000) (hl : lim ≤ 1000000000) (w : World) (hB : B ≤ w.heap.size) (hS : Sm w B g gr r0 s a0 lim o0) (hc : CdC w gs c) (hd : CdC w gd d) :
  Calls Tryz.prog 38 #[.pointer (some ⟨g, 0, none⟩), CsV gs gd] w (PS w B g gr r0 s lim (fun _ => okE) badE (signsM c d (srcOf s lim) a0 o0)) := by
 unfold CsV
 have HS := Lib.hid hS
 have HC := Lib.hid hc
 have HD := Lib.hid hd
 clear hS hc hd
 go_enter Tryz.func38, Tryz.ntmps38
 go_wp2_with fail
 have hw1 : Below w.heap.size w (w.alloc (.cells #[.pointer (some ⟨gs, 0, none⟩), .pointer (some ⟨gd, 0, none⟩)] 90)) := (Below.refl _ _).alloc (Nat.le_refl _) _
 have HST1 : Hid ((w.alloc (.cells #[.pointer (some ⟨gs, 0, none⟩), .pointer (some ⟨gd, 0, none⟩)] 90)).heap[w.heap.size]? = some (.cells #[.pointer (some ⟨gs, 0, none⟩), .pointer (some ⟨gd, 0, none⟩)] 90 (0, 0))) := heap_alloc_new w _
 have HS1 := Lib.hid (HS.out.below hw1)
 have HC1 := Lib.hid (HC.out.far (far_below hw1))
 have HD1 := Lib.hid (HD.out.far (far_below hw1))
 have HU1 := Lib.hid (ups_below (g := g) (gr := gr) (r := r0) hw1)
 have hBz : B ≤ (w.alloc (.cells #[.pointer (some ⟨gs, 0, none⟩), .pointer (some ⟨gd, 0, none⟩)] 90)).heap.size := by simp; omega
 generalize w.alloc (.cells #[.pointer (some ⟨gs, 0, none⟩), .pointer (some ⟨gd, 0, none⟩)] 90) = w1 at *
 clear hw1
 go_loopw [6] (fun _ wr => ∃ a o r, (∀ ans, Runs (stepM c d) (srcOf s lim) () a o ans → Runs (stepM c d) (srcOf s lim) () a0 o0 ans) ∧ Sm wr B g gr r s a lim o ∧ UpS g gr r0 r w wr ∧ Far w1 wr) (fun _ wr => 8 * s.size - rdAt gr wr)
 case atStart => exact ⟨a0, o0, r0, fun _ h => h, HS1.out, HU1.out, Far.refl _⟩
 case round =>
  obtain ⟨a, o, r, hrun, hs1, hu1, hf1⟩ := hrel
  have HRUN := Lib.hid hrun
  have HSA := Lib.hid hs1
  have HUA := Lib.hid hu1
  have HFA := Lib.hid hf1
  have hst := hf1.cells HST1.out (by decide) (by decide) (by decide)
  have k0 : wr.cell? ⟨w.heap.size, 0, none⟩ = some (.pointer (some ⟨gs, 0, none⟩)) := by rw [cell_of_row wr _ 0 _ _ _ hst]; rfl
  have k1 : wr.cell? ⟨g, 0, none⟩ = some (.pointer (some ⟨gr, 0, none⟩)) := hs1.pin.c0
  have hsg := signC_any gs gr a lim c s o hs hs1.le wr.drew ((HC1.out.far hf1).far (far_below (below_drewN (Below.refl _ wr) 1))) (hs1.rd.drewN 1)
  have HM := Lib.hid (rdAt_of hs1.rd)
  have hale := hs1.le
  have HSB : Hid (Sm wr.drew B g gr r s a lim o) := hs1.drewN 1
  have HUB : Hid (UpS g gr r0 r w wr.drew) := hu1.then (ups_drewN wr 1)
  have HFB : Hid (Far w1 wr.drew) := hf1.then (far_below (below_drewN (Below.refl _ wr) 1))
  have HPK := Lib.hid (fun (w3 : World) (h : wr.drew.grownBy w3 (some gr)) => show w3.cell? ⟨w.heap.size, 0, none⟩ = some (.pointer (some ⟨gs, 0, none⟩)) ∧ w3.cell? ⟨g, 0, none⟩ = some (.pointer (some ⟨gr, 0, none⟩)) from
   ⟨by rw [cell_of_row w3 _ 0 _ _ _ ((HFB.out.then (far_read HSB.out.rd h)).cells HST1.out (by decide) (by decide) (by decide))]; rfl, (HSB.out.pin.grown HSB.out.rd h).c0⟩)
  clear hrun hs1 hu1 hf1 hst
  cases hn : signM c (srcOf s lim) a o with
  | error k =>
   have HSG := Lib.hid (hsg.mono fun r w' h => h.of_err hn)
   have HE := Lib.hid (loop_of (HRUN.out _ (.err (step_bad c d _ _ _ _ hn))))
   clear hn hsg
   go_wp2_with fail
   go_region_held3 (fun w' => w'.cell? ⟨w.heap.size, 0, none⟩ = some (.pointer (some ⟨gs, 0, none⟩)) ∧ w'.cell? ⟨g, 0, none⟩ = some (.pointer (some ⟨gr, 0, none⟩))) (first | exact ⟨k0, k1⟩ | exact hm) (first | (go_at_call 63; refine (HSG.out).mono ?_; rintro e w3 ⟨hg, hbad, hk0, hk1⟩; unfold sgBad at hbad; subst hbad; have hm := HPK.out w3 (by exact hg)))
   all_goals
    have hne : ((k : Int) == 0) = false := by rw [beq_eq_false_iff_ne]; omega
    have HG := Lib.hid hg
    clear hg hm
    go_wp2
    go_ret
    exact .err r HE.out (HUB.out.then (ups_read HG.out)) rfl hk0 hk1
  | ok q =>
   obtain ⟨x, a1, o1⟩ := q
   obtain rfl := sign_same hn
   have HSG := Lib.hid (hsg.mono fun r w' h => h.of_ok hn)
   have HSN := Lib.hid hn
   have hlt : a < a1 := by
    obtain ⟨l, h1, _, h2, _⟩ := sign_ok _ _ _ _ _ _ _ hn
    omega
   clear hn hsg
   go_wp2_with fail
   go_region_held3 (fun w' => w'.cell? ⟨w.heap.size, 0, none⟩ = some (.pointer (some ⟨gs, 0, none⟩)) ∧ w'.cell? ⟨g, 0, none⟩ = some (.pointer (some ⟨gr, 0, none⟩))) (first | exact ⟨k0, k1⟩ | exact hm) (first | (go_at_call 63; refine (HSG.out).mono ?_; rintro e w3 ⟨hg, ⟨rfl, hxn⟩, hr1, ha1⟩; have hm := HPK.out w3 (by exact hg)))
   have hS1 := HSB.out.read hg hr1 ha1
   have HS1 := Lib.hid hS1
   have HU1 := Lib.hid (HUB.out.then (ups_read (g := g) (r := r) hg))
   have HF1 := Lib.hid (HFB.out.then (far_read HSB.out.rd hg))
   have hBw : B ≤ w3.heap.size := Nat.le_trans hB HU1.out.1.size
   clear hg hr1 hS1 hm HSG HPK
   by_cases hx0 : x = 256
   ·subst hx0
    have HE := Lib.hid (loop_of (HRUN.out _ (.done (step_end c d _ _ _ _ _ HSN.out))))
    go_wp2
    go_ret
    exact .ok r HE.out HU1.out rfl HS1.out
   ·have hx1 : ((x : Int) == 256) = false := by rw [beq_eq_false_iff_ne]; omega
    by_cases hx2 : x < 256
    ·have HON := Lib.hid (one_any B g gr a1 lim x r s o1 hl hx2 w3 hBw HS1.out)
     have HST := Lib.hid (step_byte c d _ _ _ _ _ _ HSN.out hx2)
     have hx3 : IntKind.u8.wrap (x : Int) = (x : Int) := by rw [IntKind.wrap_u8]; omega
     clear hx0
     go_wp2_with fail
     refine (HON.out).mono ?_; rintro e w4 hps
     cases hn : putM x (srcOf s lim) a1 o1 with
     | error k =>
      obtain ⟨r4, hu4, hbad, hk0, hk1⟩ := hps.of_err hn
      unfold badE at hbad
      subst hbad
      have HE := Lib.hid (loop_of (HRUN.out _ (.err (HST.out.trans (bind_err hn)))))
      have hne : ((k : Int) == 0) = false := by rw [beq_eq_false_iff_ne]; omega
      have HU4 := Lib.hid (HU1.out.then hu4)
      clear hn hps hu4
      go_wp2
      go_ret
      exact .err r4 HE.out HU4.out rfl hk0 hk1
     | ok q =>
      obtain ⟨u, a4, o4⟩ := q
      obtain ⟨r4, hu4, hok, hs4⟩ := hps.of_ok hn
      unfold okE at hok
      subst hok
      have ha4 : a4 = a1 := by
       unfold putM at hn
       split at hn
       ·injection hn with hn
        cases hn
        rfl
       ·cases hn
      subst ha4
      have HE := Lib.hid (fun ans h => HRUN.out ans (.more (HST.out.trans ((bind_ok hn).trans rfl)) h))
      have HU4 := Lib.hid (HU1.out.then hu4)
      have HF4 := Lib.hid (HF1.out.then (hu4.far HS1.out))
      have HS4 := Lib.hid hs4
      clear hn hps hu4 hs4
      go_wp2
      go_roundw
      case rel => exact ⟨a4, o4, r4, HE.out, HS4.out, HU4.out, HF4.out⟩
      case measure =>
       rw [rdAt_of HS4.out.rd, HM.out]
       omega
    ·have h256 : 256 < x := by omega
     have hx3 : decide ((x : Int) < 256) = false := decide_eq_false (by omega)
     have hst := HF1.out.cells HST1.out (by decide) (by decide) (by decide)
     have k0 : w3.cell? ⟨w.heap.size, 1, none⟩ = some (.pointer (some ⟨gd, 0, none⟩)) := by rw [cell_of_row w3 _ 1 _ _ _ hst]; rfl
     have HON := Lib.hid (again_any B g gr gd a1 lim x r s o1 d hs hl w3 hBw HS1.out (HD1.out.far HF1.out))
     have HST := Lib.hid (step_again c d _ _ _ _ _ _ HSN.out h256)
     clear hx0 hst
     go_wp2_with fail
     refine (HON.out).mono ?_; rintro e w4 hps
     cases hn : againM x d (srcOf s lim) a1 o1 with
     | error k =>
      obtain ⟨r4, hu4, hbad, hk0, hk1⟩ := hps.of_err hn
      unfold badE at hbad
      subst hbad
      have HE := Lib.hid (loop_of (HRUN.out _ (.err (HST.out.trans (bind_err hn)))))
      have hne : ((k : Int) == 0) = false := by rw [beq_eq_false_iff_ne]; omega
      have HU4 := Lib.hid (HU1.out.then hu4)
      clear hn hps hu4
      go_wp2
      go_ret
      exact .err r4 HE.out HU4.out rfl hk0 hk1
     | ok q =>
      obtain ⟨u, a4, o4⟩ := q
      obtain ⟨r4, hu4, hok, hs4⟩ := hps.of_ok hn
      unfold okE at hok
      subst hok
      have ha4 : a1 ≤ a4 := (stable_again x d).grow _ _ _ _ _ _ ha1 (by show 8 * s.size % 8 = 0; omega) hn |>.1
      have hle4 := hs4.le
      have HE := Lib.hid (fun ans h => HRUN.out ans (.more (HST.out.trans ((bind_ok hn).trans rfl)) h))
      have HU4 := Lib.hid (HU1.out.then hu4)
      have HF4 := Lib.hid (HF1.out.then (hu4.far HS1.out))
      have HS4 := Lib.hid hs4
      clear hn hps hu4 hs4
      go_wp2
      go_roundw
      case rel => exact ⟨a4, o4, r4, HE.out, HS4.out, HU4.out, HF4.out⟩
      case measure =>
       rw [rdAt_of HS4.out.rd, HM.out]
       omega
end Go.Proofs.YtmkeicfklbepnaaGreat

namespace Go.Proofs.YtmkeicfklbepnaaGreat
set_option maxRecDepth 100000
open Go.RowKit Go.Deep Go.Joins

section
variable {P : Program} (w : World)
/-- A string's bytes put behind a row of the call's own, in a region. -/
theorem step_append_str {ops : Array Oper} {o : Oper} {a : Act} {K : Act → World → Prop} {Q : Exit → Act → World → Prop} {E : Prop} (hgd : o.guard = none) (sl x : Operand) (t u : TypeId)
  (ho : o.op = .call { callee := .builtin .append, args := #[sl, x], argTypes := #[t, u] })
  (base : Nat) (e : TypeId) (i : TypeInfo) (ht : P.underlying t = some (.slice e)) (hu : P.underlying u = some .string) (hi : P.info? e = some i) (hz : i.zero = some (.int .u8 0))
  (hsize : i.size = 1) (hby : i.bytes = 1) (v : Value) (n : Nat) (xs : List Value) (hs : a.eval sl = v) (hown : w.ownsRow base e 1 v n xs) (s : ByteArray) (hx : a.eval x = .string s)
  (h63 : n + s.size ≤ maxLen) (hbytes : n + s.size ≤ 140737488355328) (hbase : base ≤ w.heap.size)
  (h : ∀ A c w', w'.ownsRow base e 1 (.slice A (n + s.size) c) (n + s.size) (xs ++ Lib.strCells s) → w.grownBy w' v.ownBlock → ((Value.slice A (n + s.size) c).ownBlock = v.ownBlock ∨ (Value.slice A (n + s.size) c).ownBlock = some w.heap.size) → K (a.put o.dst (.slice A (n + s.size) c)) w') :
  if Region.wanted o (yielded ops a.tmps) = true then Oper.wp P o a w K Q else E := by
 have hw : Region.wanted o (yielded ops a.tmps) = true := by simp [Region.wanted, hgd]
 rw [if_pos hw]
 obtain ⟨v', w', hr, h2, h3, h4⟩ := run_append_str_at (P := P) w base t u o.type e i ht hu hi hz hsize hby v n xs hown s h63 hbytes hbase
 obtain ⟨A, c, rfl⟩ := row_slice h2
 simp only [Oper.wp, execOp, ho, resolve, invoke, builtin, Sem.run_bind, Sem.run_pure, Result.andThen_ok, List.map_toArray, List.map_cons, List.map_nil, hs, hx, hr]
 exact h A c w' h2 h3 h4
end
theorem byte_bits (s : ByteArray) (k : Nat) (h : k < s.size) : bitsAt (num s) (8 * k) 8 = s[k].toNat := by
 have hg := numL_get _ (nums_lt s) k _ (nums_get s k h)
 unfold bitsAt
 rw [show (2 : Nat) ^ (8 * k) = 256 ^ k from (p256 k).symm]
 exact hg
theorem nums_extract (s : ByteArray) (f n : Nat) (h : f + n ≤ s.size) : nums (s.extract f (f + n)) = bytesAt (num s) (8 * f) n := by
 induction n with
 | zero =>
  rw [bytesAt]
  unfold nums
  rw [ByteArray.data_extract, Array.toList_extract, List.extract_eq_take_drop]
  simp
 | succ n ih =>
  rw [bytesAt, ← ih (by omega), show 8 * f + 8 * n = 8 * (f + n) by omega, byte_bits s (f + n) (by omega)]
  unfold nums
  rw [ByteArray.data_extract, ByteArray.data_extract, Array.toList_extract, Array.toList_extract, List.extract_eq_take_drop, List.extract_eq_take_drop, show f + (n + 1) - f = n + 1 by omega, show f + n - f = n by omega]
  rw [List.take_succ_eq_append_getElem (by simp; omega), List.map_append]
  simp
  rfl
theorem bytes_ok (g : Nat) (s : ByteArray) (a n : Nat) (hs : s.size ≤ 1000000) (h8 : a % 8 = 0) (h : a + 8 * n ≤ 8 * s.size) (w : World) (hc : Rd 83 w g s a 0) :
  Calls Tryz.prog 62 #[.pointer (some ⟨g, 0, none⟩), .int .i64 n] w fun r w' => (r = .returned (.string (s.extract (a / 8) (a / 8 + n))) ∧ Rd 83 w' g s (a + 8 * n) 0 ∧ w.grownBy w' (some g)) := by
 have hA : alignA a 0 = a := by unfold alignA; rw [if_pos rfl]; omega
 have hm : mayB s a 0 (n : Nat) = true := decide_eq_true ⟨rfl, by omega, by omega⟩
 have e1 : pieceB s a 0 (n : Nat) = s.extract (a / 8) (a / 8 + n) := by unfold pieceB; rw [if_pos hm]; simp
 have e2 : bytA s a 0 (n : Nat) = a + 8 * n := by unfold bytA; rw [if_pos hm]; simp
 have e3 : bytE s a 0 (n : Nat) = 0 := by unfold bytE; rw [if_neg (by omega), if_neg (by omega), if_pos (by omega)]
 have := bytes_any g s a 0 (n : Nat) hs (by omega) w hc
 rwa [hA, e1, e2, e3] at this
theorem bytes_short (g : Nat) (s : ByteArray) (a n : Nat) (hs : s.size ≤ 1000000) (ha : a ≤ 8 * s.size) (h8 : a % 8 = 0) (h : 8 * s.size < a + 8 * n) (w : World) (hc : Rd 83 w g s a 0) :
  Calls Tryz.prog 62 #[.pointer (some ⟨g, 0, none⟩), .int .i64 n] w fun r w' => (r = .returned (.string ⟨#[]⟩) ∧ Rd 83 w' g s a 3 ∧ w.grownBy w' (some g)) := by
 have hA : alignA a 0 = a := by unfold alignA; rw [if_pos rfl]; omega
 have hm : ¬ mayB s a 0 (n : Nat) = true := fun h => by
  have := of_decide_eq_true h
  omega
 have e1 : pieceB s a 0 (n : Nat) = ⟨#[]⟩ := by unfold pieceB; rw [if_neg hm]
 have e2 : bytA s a 0 (n : Nat) = a := by unfold bytA; rw [if_neg hm]
 have e3 : bytE s a 0 (n : Nat) = 3 := by unfold bytE; rw [if_neg (by omega), if_neg (by omega), if_neg (by omega)]
 have := bytes_any g s a 0 (n : Nat) hs ha w hc
 rwa [hA, e1, e2, e3] at this
/-- A stream with bytes more. -/
theorem Sm.growL {w w2 : World} {B g gr a lim : Nat} {r : Option Nat} {s : ByteArray} {o l : List Nat} {v v2 p : Value} (h : Sm w B g gr r s a lim o) (hb : w.heap[g]? = some (.cells #[.pointer (some ⟨gr, 0, none⟩), v, .int .i64 (lim : Nat), p] 50 (0, 0)))
  (W : World) (hW : Below w.heap.size w W) (hg : W.grownBy w2 v.ownBlock) (ho : w2.ownsRow B 5 1 v2 (o.length + l.length) (cells8 o ++ cells8 l)) (hx : ∀ x ∈ l, x < 256) (hl : o.length + l.length ≤ lim) (hat : v2.ownBlock = v.ownBlock ∨ ∃ j, v2.ownBlock = some j ∧ w.heap.size ≤ j) :
  Sm (w2.setCell ⟨g, 1, none⟩ v2) B g gr v2.ownBlock s a lim (o ++ l) ∧ UpS g gr r v2.ownBlock w (w2.setCell ⟨g, 1, none⟩ v2) := by
 have hSm := h
 obtain ⟨v', p', hb', ho', hv, hR, hfx, h1, h2, h3, h4, h5⟩ := h
 rw [hb] at hb'
 simp at hb'
 obtain ⟨rfl, rfl⟩ := hb'
 have hne : v.ownBlock ≠ some g := row_ne (by decide) ho' hb
 have hner : v.ownBlock ≠ some gr := row_ne (by decide) ho' hR
 have hgs := lt_of_heap hb
 have hb2 : w2.heap[g]? = some (.cells #[.pointer (some ⟨gr, 0, none⟩), v, .int .i64 (lim : Nat), p] 50 (0, 0)) := (hg.block g (Nat.lt_of_lt_of_le hgs hW.size) (fun e => hne e.symm)).trans ((hW.block g hgs).trans hb)
 have hR2 : Rd 83 w2 gr s a 0 := (hg.block gr (Nat.lt_of_lt_of_le hR.lt hW.size) (fun e => hner e.symm)).trans ((hW.block gr hR.lt).trans hR)
 have hne2 : v2.ownBlock ≠ some g := row_ne (by decide) ho hb2
 have hgr : g ≠ gr := blk_ne hb hR (by decide)
 have hb3 := heap_setCell_same w2 g 1 _ _ v2 hb2
 have hU : UpS g gr r v2.ownBlock w (w2.setCell ⟨g, 1, none⟩ v2) := by
  refine ⟨((kept_below hW).then (kept_grown hg) (fun i _ e => ?_)).then (kept_set w2 g 1 _) (fun i _ e => .inl e), ?_⟩
  ·rw [hv] at e
   exact .inr (.inr e)
  ·rcases hat with e | ⟨j, e, hj⟩
   ·exact .inl (e.trans hv)
   ·exact .inr ⟨j, e, hj⟩
 refine ⟨⟨v2, p, hb3, ?_, rfl, (Below.heap_setCell _ _ _ _ (Ne.symm hgr)).trans hR2, hfx.far (hU.far hSm), h1, h2, by simpa using hl, h4, ?_⟩, hU⟩
 ·rw [List.length_append, cells8_app]
  exact row_kept ho fun b hb => Below.heap_setCell _ _ _ _ (fun e => hne2 (by rw [hb, e]))
 ·intro y hy
  rw [List.mem_append] at hy
  rcases hy with hy | hy
  ·exact h5 y hy
  ·exact hx y hy
theorem ups_store {w w2 : World} {g gr : Nat} {r : Option Nat} {v v2 : Value} (hv : v.ownBlock = r) (hg : w.grownBy w2 v.ownBlock) (hat : v2.ownBlock = v.ownBlock ∨ v2.ownBlock = some w.heap.size) : UpS g gr r v2.ownBlock w (w2.setCell ⟨g, 1, none⟩ v2) := by
 refine ⟨((kept_grown hg).more (S' := fun i => i = g ∨ i = gr ∨ some i = r) (fun i e => .inr (.inr (by rw [e, hv])))).then (kept_set w2 g 1 _) (fun i _ e => .inl e), ?_⟩
 ·rcases hat with e | e
  ·exact .inl (e.trans hv)
  ·exact .inr ⟨_, e, Nat.le_refl _⟩
end Go.Proofs.YtmkeicfklbepnaaGreat
