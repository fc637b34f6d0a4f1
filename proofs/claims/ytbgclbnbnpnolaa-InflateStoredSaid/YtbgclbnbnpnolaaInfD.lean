/-
  Contracts: the bytes of a length's sign.
-/
import Derived.Test.YtbgclbnbnpnolaaInfC
namespace Go.Proofs.Ytbgclbnbnpnolaa
set_option maxRecDepth 100000
open Go.RowKit Go.Deep Go.Joins

theorem PR.of_ok {α : Type} {w w' : World} {gr : Nat} {s : ByteArray} {val : α → Ending → Prop} {bad : Nat → Ending → Prop} {ans : Ans α} {r : Ending} {x : α} {a1 : Nat} {o1 : List Nat} (h : PR w gr s val bad ans r w') (e : ans = .ok (x, a1, o1)) : w.grownBy w' (some gr) ∧ val x r ∧ Rd 81 w' gr s a1 0 ∧ a1 ≤ 8 * s.size := by
  subst e
  exact h
theorem PR.of_err {α : Type} {w w' : World} {gr : Nat} {s : ByteArray} {val : α → Ending → Prop} {bad : Nat → Ending → Prop} {ans : Ans α} {r : Ending} {e : Nat} (h : PR w gr s val bad ans r w') (he : ans = .error e) : w.grownBy w' (some gr) ∧ bad e r ∧ e ≠ 0 ∧ e < 100 := by
  subst he
  exact h
theorem PS.of_ok {α : Type} {w w' : World} {B g gr lim : Nat} {rw : Option Nat} {s : ByteArray} {val : α → Ending → Prop} {bad : Nat → Ending → Prop} {ans : Ans α} {r : Ending} {x : α} {a1 : Nat} {o1 : List Nat} (h : PS w B g gr rw s lim val bad ans r w') (e : ans = .ok (x, a1, o1)) : ∃ r', UpS g gr rw r' w w' ∧ val x r ∧ Sm w' B g gr r' s a1 lim o1 := by
  subst e
  exact h
theorem PS.of_err {α : Type} {w w' : World} {B g gr lim : Nat} {rw : Option Nat} {s : ByteArray} {val : α → Ending → Prop} {bad : Nat → Ending → Prop} {ans : Ans α} {r : Ending} {e : Nat} (h : PS w B g gr rw s lim val bad ans r w') (he : ans = .error e) : ∃ r', UpS g gr rw r' w w' ∧ bad e r ∧ e ≠ 0 ∧ e < 100 := by
  subst he
  exact h
theorem number_o {p : Nat × Nat} {s : Src} {a a1 x : Nat} {o o1 : List Nat} (h : numberM p s a o = .ok (x, a1, o1)) : o1 = o ∧ p.1 ≠ 0 ∧ x = p.1 + bitsAt s.N a p.2 := by
  unfold numberM at h
  split at h
  · cases h
  · rename_i h0
    unfold bindM readM1 retM at h
    split at h
    · cases h
    · rename_i y a2 o2 h2
      split at h2
      · injection h2 with h2
        cases h2
        injection h with h
        cases h
        exact ⟨rfl, h0, rfl⟩
      · cases h2
theorem number_same {p : Nat × Nat} {s : Src} {a a1 x : Nat} {o o1 : List Nat} (h : numberM p s a o = .ok (x, a1, o1)) : o1 = o := (number_o h).1
theorem sign_same {c : Cod} {s : Src} {a a1 x : Nat} {o o1 : List Nat} (h : signM c s a o = .ok (x, a1, o1)) : o1 = o := by
  obtain ⟨_, _, h, _⟩ := sign_ok _ _ _ _ _ _ _ h
  exact h
theorem number_le {p : Nat × Nat} {s : Src} {a a1 x : Nat} {o o1 : List Nat} (h : numberM p s a o = .ok (x, a1, o1)) : 0 < x ∧ x < p.1 + 2 ^ p.2 := by
  obtain ⟨_, h0, rfl⟩ := number_o h
  have := bitsAt_lt s.N a p.2
  exact ⟨by omega, by omega⟩
theorem bytes_get {o : List Nat} (ho : ∀ x ∈ o, x < 256) {i : Nat} (h : i < o.length) : o.getD i 0 < 256 := by
  rw [List.getD_eq_getElem?_getD, List.getElem?_eq_getElem h]
  exact ho _ (List.getElem_mem h)

/-- A stream's bytes: where they lie. -/
theorem Sm.byte {w : World} {B g gr a lim : Nat} {r : Option Nat} {s : ByteArray} {o : List Nat} (h : Sm w B g gr r s a lim o) (h0 : 0 < o.length) :
    ∃ g2 cap p, w.heap[g]? = some (.cells #[.pointer (some ⟨gr, 0, none⟩), .slice (some ⟨g2, 0, none⟩) o.length cap, .int .i64 (lim : Nat), p] 94 (0, 0)) ∧ w.ownsRow B 5 1 (.slice (some ⟨g2, 0, none⟩) o.length cap) o.length (cells8 o) ∧
      ∀ i, i < o.length → w.cell? ⟨g2, i, none⟩ = some (.int .u8 ((o.getD i 0 : Nat) : Int)) := by
  obtain ⟨v, p, hb, ho, _⟩ := h
  rcases ownsRow_forms ho with ⟨rfl, hn⟩ | ⟨g2, cap, rfl⟩
  · omega
  · refine ⟨g2, cap, p, hb, ho, fun i hi => ?_⟩
    have := ho.cellAt i (by omega)
    rw [this]
    simp only [cells8, List.getElem?_map, List.getElem?_eq_getElem hi, Option.map_some, List.getD_eq_getElem?_getD, Option.getD_some]

set_option maxHeartbeats 8000000 in
theorem again_any (B g gr gd a lim x : Nat) (r : Option Nat) (s : ByteArray) (o : List Nat) (d : Cod) (hs : s.size ≤ 1000000) (hl : lim ≤ 1000000000) (w : World) (hB : B ≤ w.heap.size) (hS : Sm w B g gr r s a lim o) (hd : CdC w gd d) :
    Calls Try.prog 65 #[.pointer (some ⟨g, 0, none⟩), .int .i64 x, .pointer (some ⟨gd, 0, none⟩)] w (PS w B g gr r s lim (fun _ => okE) badE (againM x d (srcOf s lim) a o)) := by
  have hlen := lengths_any (x : Nat) w
  rw [Int.toNat_natCast] at hlen
  have hlb := len_bound x
  have HD := Lib.hid hd
  have HS := Lib.hid hS
  have HP := Lib.hid hS.pin
  have c0 := hS.pin.c0
  have hale := hS.le
  have HA : Hid (againM x d (srcOf s lim) a o = bindM (numberM (lenOf x)) (fun n => bindM (signM d) fun y => bindM (numberM (distOf y)) fun k => copyM n k) (srcOf s lim) a o) := rfl
  have HNU := Lib.hid (number_any g gr a (lenOf x).1 (lenOf x).2 lim s o hs hale (by omega) (by omega) w hS.pin hS.rd)
  have HNL := Lib.hid (fun n a1 o1 h => number_le (p := lenOf x) (s := srcOf s lim) (a := a) (a1 := a1) (x := n) (o := o) (o1 := o1) h)
  have h32 : (2 : Nat) ^ (lenOf x).2 ≤ 2 ^ 5 := Nat.pow_le_pow_right (by omega) hlb.2
  have HNB : Hid ((lenOf x).1 ≤ 258 ∧ (2 : Nat) ^ (lenOf x).2 ≤ 32) := ⟨hlb.1, h32⟩
  generalize againM x d (srcOf s lim) a o = AG at *
  generalize lenOf x = L at *
  obtain ⟨l1, l2⟩ := L
  have HLEN := Lib.hid hlen
  clear hlen hlb hd hS h32
  go_enter Try.func65, Try.ntmps65
  go_wp2_with fail
  refine (HLEN.out).mono ?_; rintro e w1 ⟨rfl, rfl⟩
  go_wp2_with fail
  refine (HNU.out).mono ?_; rintro e w1 hpr
  cases hn : numberM (l1, l2) (srcOf s lim) a o with
  | error k =>
    obtain ⟨hg, ⟨z, rfl⟩, hk0, hk1⟩ := hpr.of_err hn
    have HE := Lib.hid (HA.out.trans (bind_err hn))
    have hne : ((k : Int) == 0) = false := by rw [beq_eq_false_iff_ne]; omega
    have HG := Lib.hid hg
    clear hn hpr hg hk0 HA
    go_wp2
    go_ret
    exact .err r HE.out (ups_read HG.out) rfl (by intro h; subst h; simp at hne) hk1
  | ok q =>
    obtain ⟨n, a1, o1⟩ := q
    obtain rfl := number_same hn
    have hnb : 0 < n ∧ n ≤ 290 := by
      have h1 := HNL.out n a1 _ hn
      have h2 := HNB.out
      try simp only at h1 h2
      omega
    obtain ⟨hg, rfl, hr1, ha1⟩ := hpr.of_ok hn
    have HA1 := Lib.hid (HA.out.trans (bind_ok hn))
    have hS1 := HS.out.read hg hr1 ha1
    have HSG := Lib.hid (signC_any gd gr a1 lim d s o1 hs ha1 w1 (HD.out.far (far_read HS.out.rd hg)) hr1)
    have HS1 := Lib.hid hS1
    have c01 := hS1.pin.c0
    have HU1 := Lib.hid (ups_read (g := g) (r := r) hg)
    have HD1 := Lib.hid (HD.out.far (far_read HS.out.rd hg))
    clear hn hpr hg hr1 HA hS1 HNU HLEN HNL HNB
    obtain ⟨hn0, hn1⟩ := hnb
    go_wp2_with fail
    refine (HSG.out).mono ?_; rintro e w2 hpr
    cases hn : signM d (srcOf s lim) a1 o1 with
    | error k =>
      obtain ⟨hg, hbad, hk0, hk1⟩ := hpr.of_err hn
      unfold sgBad at hbad
      subst hbad
      have HE := Lib.hid (HA1.out.trans (bind_err hn))
      have hne : ((k : Int) == 0) = false := by rw [beq_eq_false_iff_ne]; omega
      have HG := Lib.hid hg
      clear hn hpr hg HA1
      go_wp2
      go_ret
      exact .err r HE.out (HU1.out.then (ups_read HG.out)) rfl hk0 hk1
    | ok q =>
      obtain ⟨y, a2, o2⟩ := q
      obtain rfl := sign_same hn
      obtain ⟨hg, ⟨rfl, hyn⟩, hr2, ha2⟩ := hpr.of_ok hn
      have HA2 := Lib.hid (HA1.out.trans (bind_ok hn))
      have hS2 := HS1.out.read hg hr2 ha2
      have hdis := distances_any (y : Nat) w2
      rw [Int.toNat_natCast, if_neg (by omega), if_neg (by omega)] at hdis
      have hdb := dist_bound y
      have HNU := Lib.hid (number_any g gr a2 (distOf y).1 (distOf y).2 lim s o2 hs ha2 (by omega) (by omega) w2 hS2.pin hr2)
      have HNL := Lib.hid (fun n a1 o1 h => number_le (p := distOf y) (s := srcOf s lim) (a := a2) (a1 := a1) (x := n) (o := o2) (o1 := o1) h)
      have h32 : (2 : Nat) ^ (distOf y).2 ≤ 2 ^ 13 := Nat.pow_le_pow_right (by omega) hdb.2
      have HNB : Hid ((distOf y).1 ≤ 32768 ∧ (2 : Nat) ^ (distOf y).2 ≤ 8192) := ⟨hdb.1, h32⟩
      have HS2 := Lib.hid hS2
      have c02 := hS2.pin.c0
      have HU2 := Lib.hid (HU1.out.then (ups_read (g := g) (r := r) hg))
      have HDS := Lib.hid hdis
      clear hn hpr hg hr2 HA1 hS2 hdis hdb h32 HU1 HSG
      generalize distOf y = L at *
      obtain ⟨q1, q2⟩ := L
      go_wp2_with fail
      refine (HDS.out).mono ?_; rintro e w3 ⟨rfl, rfl⟩
      go_wp2_with fail
      refine (HNU.out).mono ?_; rintro e w3 hpr
      cases hn : numberM (q1, q2) (srcOf s lim) a2 o2 with
      | error k =>
        obtain ⟨hg, ⟨z, rfl⟩, hk0, hk1⟩ := hpr.of_err hn
        have HE := Lib.hid (HA2.out.trans (bind_err hn))
        have hne : ((k : Int) == 0) = false := by rw [beq_eq_false_iff_ne]; omega
        have HG := Lib.hid hg
        clear hn hpr hg HA2
        go_wp2
        go_ret
        exact .err r HE.out (HU2.out.then (ups_read HG.out)) rfl hk0 hk1
      | ok q =>
        obtain ⟨k, a3, o3⟩ := q
        obtain rfl := number_same hn
        have hkb : 0 < k ∧ k ≤ 50000 := by
          have h1 := HNL.out k a3 _ hn
          have h2 := HNB.out
          try simp only at h1 h2
          omega
        obtain ⟨hg, rfl, hr3, ha3⟩ := hpr.of_ok hn
        have HA3 := Lib.hid (HA2.out.trans (bind_ok hn))
        have hS3 := HS2.out.read hg hr3 ha3
        have HS3 := Lib.hid hS3
        have HU3 := Lib.hid (HU2.out.then (ups_read (g := g) (r := r) hg))
        have HRM := Lib.hid (room_any B g gr a3 lim n r s o3 hl (by omega) w3 hS3)
        have hlo := hS3.room
        obtain ⟨v, p, hb, ho, hrest⟩ := hS3
        obtain ⟨A, cp, rfl⟩ := row_slice ho
        have c3 : w3.cell? ⟨g, 1, none⟩ = some (.slice A o3.length cp) := by rw [cell_of_row w3 g 1 _ _ _ hb]; rfl
        have HCP : Hid (copyM n k (srcOf s lim) a3 o3 = if o3.length < k then .error 11 else if o3.length + n ≤ lim then .ok ((), a3, copyL o3 k n) else .error 14) := rfl
        have HO3 : Hid (∀ j, (copyL o3 k j).length = o3.length + j) := copyL_len o3 k
        have HOC := Lib.hid (fun j => show copyL o3 k (j + 1) = copyL o3 k j ++ [(copyL o3 k j).getD ((copyL o3 k j).length - k) 0] from rfl)
        clear hn hpr hg hr3 HA2 HU2 HNU HNL HNB hb ho hrest HDS
        obtain ⟨hk0, hk1⟩ := hkb
        generalize hzz : o3.length = z at *
        have HZ := Lib.hid hzz
        clear hzz
        by_cases hzk : z < k
        · have HE : Hid (AG = .error 11) := HA3.out.trans (HCP.out.trans (if_pos hzk))
          go_wp2
          go_ret
          exact .err r HE.out HU3.out rfl (by omega) (by omega)
        · by_cases hro : z + n ≤ lim
          · have HE : Hid (AG = .ok ((), a3, copyL o3 k n)) := HA3.out.trans (HCP.out.trans ((if_neg hzk).trans (if_pos hro)))
            rw [if_pos hro] at HRM
            go_wp2_with fail
            refine (HRM.out).mono ?_; rintro e w4 ⟨rfl, dn, rfl⟩
            have HS4 : Hid (Sm (w3.drewN dn) B g gr r s a3 lim o3) := HS3.out.drewN dn
            have HU4 : Hid (UpS g gr r r w (w3.drewN dn)) := HU3.out.then (ups_drewN _ _)
            generalize w3.drewN dn = w4 at *
            obtain ⟨i0, hi, hz0, hz1, hz2⟩ := info_parts info8
            clear HRM HS3 HU3 c3 HS HP c0 HD HS1 c01 HD1 HS2 c02 HA3 HCP
            go_wp2_with fail
            go_loopw [62] (fun i wr => ∃ j r', j ≤ n ∧ i = .int .i64 (j : Nat) ∧ Sm wr B g gr r' s a3 lim (copyL o3 k j) ∧ UpS g gr r r' w wr) (fun i _ => n - (intOf i).toNat)
            case atStart => exact ⟨0, r, Nat.zero_le _, rfl, HS4.out, HU4.out⟩
            case round =>
              obtain ⟨j, r1, hj, rfl, hs1, hu1⟩ := hrel
              have HU1 := Lib.hid hu1
              have HS1 := Lib.hid hs1
              by_cases hjn : j < n
              · have hlen : (copyL o3 k j).length = z + j := HO3.out j
                obtain ⟨g2, cap, p2, hb2, ho2, hcs⟩ := hs1.byte (by omega)
                have hby := bytes_get (o := copyL o3 k j) (i := z + j - k) (by obtain ⟨_, _, _, _, _, _, _, h⟩ := hs1; exact h.2.2.2.2) (by omega)
                have hcell := hcs (z + j - k) (by omega)
                have HOC1 := Lib.hid (HOC.out j)
                rw [hlen] at hb2 ho2 HOC1
                have hxl : (copyL o3 k j).length + 1 ≤ lim := by omega
                generalize copyL o3 k j = oj at *
                generalize hyy : oj.getD (z + j - k) 0 = yb at *
                have c1 : wr.cell? ⟨g, 1, none⟩ = some (.slice (some ⟨g2, 0, none⟩) (z + j) cap) := by rw [cell_of_row wr g 1 _ _ _ hb2]; rfl
                have c1a : (wr.alloc (.cells #[.int .u8 (yb : Nat)] 5)).cell? ⟨g, 1, none⟩ = some (.slice (some ⟨g2, 0, none⟩) (z + j) cap) := by rw [World.cell?_alloc_lt _ _ _ (lt_of_block' hb2)]; exact c1
                obtain ⟨q, hq, hq2⟩ : ∃ q : Nat, z + j - k = q ∧ ((z : Int) + (j : Int) - (k : Int)) = (q : Int) := ⟨z + j - k, rfl, by omega⟩
                rw [hq] at hcell
                have hqz : q < z + j := by omega
                have hw1 : IntKind.i64.wrap (q : Int) = (q : Int) := by rw [IntKind.wrap_i64]; omega
                have hqi : (q : Int) < (z : Int) + (j : Int) := by omega
                have HB2 := Lib.hid hb2
                have HO2 := Lib.hid ho2
                have HLX := Lib.hid hxl
                have HHL := Lib.hid hlen
                have hzj : z + j ≤ 1000000000 := by omega
                have hne := row_ne (by decide) ho2 hb2
                have hBw : B ≤ wr.heap.size := Nat.le_trans hB hu1.1.size
                clear hb2 ho2 hcs hyy hq hxl hlen hs1 hu1
                go_wp2_with fail
                go_region_law ((refine step_append_lies _ (by rfl) (.tmp 68) (.tmp 82) _ (by rfl) B 5 i0 (.int .u8 0) 1 1 Try.underlying22 hi hz0 hz1 hz2 rfl (by decide) (.slice (some ⟨g2, 0, none⟩) (z + j) cap) (z + j) (cells8 oj) (by rfl) (HO2.out.alloc _).drew ⟨wr.heap.size, 0, none⟩ 1 1 [.int .u8 (yb : Nat)] (by rfl) rfl (by exact World.news_of_block (heap_alloc_new _ _)) (by intro u hu; simp at hu; subst hu; rfl) (by omega) (by unfold maxLen; omega) (by omega) (by simp; omega) (wr.heap.size + 1) (by simp) ?_; intro g3 cap3 w5 hown hgrow hat hlt; have hb5 := after_append HB2.out hgrow hne; have k0 := cell_of_row w5 g 1 _ _ _ hb5; have kf := frozen_of_row w5 g 1 _ _ hb5))
                all_goals
                  have HG := Lib.hid (HS1.out.grow HB2.out (wr.alloc (.cells #[.int .u8 (yb : Nat)] 5)).drew (((Below.refl wr.heap.size wr).alloc (Nat.le_refl _) _).drew) hgrow (by rw [HHL.out]; exact hown) (by exact hby) HLX.out (by
                    rcases hat with e | e
                    · exact .inl e.symm
                    · exact .inr ⟨g3, rfl, by omega⟩))
                  clear hown hgrow hat hlt hb5 k0 kf c1 c1a
                  go_wp2
                  go_roundw
                  case rel =>
                    refine ⟨j + 1, _, by omega, by go_num, ?_, HU1.out.then HG.out.2⟩
                    rw [HOC1.out]
                    exact HG.out.1
                  case measure => simp [intOf]; omega
              · obtain rfl : j = n := by omega
                clear hs1 hu1
                go_wp2_with fail
                go_ret
                exact .ok _ HE.out HU1.out rfl HS1.out
          · have HE : Hid (AG = .error 14) := HA3.out.trans (HCP.out.trans ((if_neg hzk).trans (if_neg hro)))
            rw [if_neg hro] at HRM
            go_wp2_with fail
            refine (HRM.out).mono ?_; rintro e w4 ⟨rfl, dn, rfl⟩
            go_wp2
            go_ret
            exact .err r HE.out (HU3.out.then (ups_drewN _ dn)) rfl (by omega) (by omega)
end Go.Proofs.Ytbgclbnbnpnolaa
