/-
  Glob: Matches.
  Glob: Match.
-/
import Derived.Test.YtjnoapbddifcpaaGreatDoorPkAG
import Derived.Deep.QuietTactic

namespace Go.Proofs.YtjnoapbddifcpaaGreatDoor
set_option maxRecDepth 100000
open Go.RowKit Go.Joins Go.Deep

theorem Ats.drop1 {w : World} {b off : Nat} {L : List Atm} (h : Ats w (some ⟨b, off, none⟩) L) : Ats w (some ⟨b, off + 4, none⟩) (L.drop 1) := fun h0 => by
  rw [List.length_drop] at h0
  obtain ⟨b', off', e, hlt, hc⟩ := h (by omega)
  injection e with e
  injection e with e1 e2 _
  subst e1 e2
  refine ⟨b, off + 4, rfl, hlt, fun i x hx => ?_⟩
  rw [List.getElem?_drop] at hx
  have := hc (1 + i) x hx
  rw [show off + (1 + i) * 4 = off + 4 + i * 4 by omega] at this
  exact this
theorem ats_slice (A : Option Addr) (n cap : Nat) (h1 : 1 ≤ n) (hcap : n ≤ cap) :
    ∃ A', (∀ w : World, (Instr.slice 96 (.slice A n cap) (some (.int .i64 1)) none none).run Tryz.prog w = .ok (.slice A' (n - 1) (cap - 1)) w) ∧ ∀ (w : World) (L : List Atm), L.length = n → Ats w A L → Ats w A' (L.drop 1) := by
  have h0 : (0 : Int) ≤ 1 := by omega
  have h2 : (1 : Int) ≤ (n : Int) := by omega
  refine ⟨if cap = 1 then A else A.map (·.add (1 * 4)), fun w => ?_, fun w L hl h hp => ?_⟩
  · rw [run_slice_l (P := Tryz.prog) w 96 A n cap Tryz.underlying96 .i64 1 h0 h2]
    obtain ⟨i, hi, hs⟩ := Option.map_eq_some_iff.1 info_atom
    have hsz : (sizeOf (Tryz.prog.elem 96)).run Tryz.prog w = .ok 4 w := by
      show (sizeOf 151).run Tryz.prog w = .ok 4 w
      simp [sizeOf, typeInfo, hi, hs]
    rw [hsz]
    simp [Result.andThen, sliced]
  · have hp' := hp
    rw [List.length_drop] at hp
    rw [if_neg (by omega)]
    obtain ⟨b, off, rfl, _, _⟩ := h (by omega)
    rw [Option.map_some, Addr.add_lit]
    exact h.drop1 hp'
/-! ### What lowers at each round -/
def mu (K N B g L : Nat) : Nat := B * ((N + 1) * (K + 2)) + g * (K + 2) + L
theorem mu_star {K N B B' g g' L L' : Nat} (h1 : B' + 1 ≤ B) (h2 : g' ≤ N) (h3 : L' ≤ K) : mu K N B' g' L' < mu K N B g L := by
  unfold mu
  have e1 : (B' + 1) * ((N + 1) * (K + 2)) ≤ B * ((N + 1) * (K + 2)) := Nat.mul_le_mul_right _ h1
  have e2 : g' * (K + 2) ≤ N * (K + 2) := Nat.mul_le_mul_right _ h2
  rw [Nat.add_mul, Nat.one_mul] at e1
  have e3 : (N + 1) * (K + 2) = N * (K + 2) + (K + 2) := by rw [Nat.add_mul, Nat.one_mul]
  omega
theorem mu_back {K N B g g' L L' : Nat} (h1 : g' < g) (h3 : L' ≤ K) : mu K N B g' L' < mu K N B g L := by
  unfold mu
  have e2 : (g' + 1) * (K + 2) ≤ g * (K + 2) := Nat.mul_le_mul_right _ h1
  rw [Nat.add_mul, Nat.one_mul] at e2
  omega
theorem mu_take {K N B g L L' : Nat} (h : L' < L) : mu K N B g L' < mu K N B g L := by
  unfold mu
  omega
def szT : Value → Nat
  | .string s => s.size
  | _ => 0
def bT : Value → Bool
  | .bool b => b
  | _ => false
def mv (K N : Nat) (v5 v6 v7 v8 : Value) : Nat := mu K N (if bT v8 = true then lenOf v6 else K + 1) (szT v7) (lenOf v5)
/-- What Matches' loop keeps. -/
structure MtSt (w wr : World) (L0 : List Atm) (l0 : List Nat) (K N : Nat) (L : List Atm) (S : ByteArray) (met : Bool) (Bh : List Atm) (G : ByteArray) (A Ab : Option Addr) (c cb nb : Nat) : Prop where
  gr : Gr L0 l0 L (runesB S) met Bh (runesB G)
  al : Ats wr A L
  ab : met = true → Ats wr Ab Bh ∧ Bh.length = nb
  lc : L.length ≤ c
  bc : met = true → Bh.length ≤ cb
  lk : L.length ≤ K
  bk : met = true → Bh.length ≤ K
  lb : met = true → L.length ≤ Bh.length
  sn : S.size ≤ N
  gn : G.size ≤ N
  rs : ∀ x ∈ L, x.rs.length ≤ 1000000
  rb : ∀ x ∈ Bh, x.rs.length ≤ 1000000
  b : Below w.heap.size w wr
theorem MtSt.next {w wr wx : World} {L0 : List Atm} {l0 : List Nat} {K N : Nat} {L : List Atm} {S : ByteArray} {met : Bool} {Bh : List Atm} {G : ByteArray} {A Ab : Option Addr} {c cb nb : Nat} (h : MtSt w wr L0 l0 K N L S met Bh G A Ab c cb nb) (hb : Below wr.heap.size wr wx) : MtSt w wx L0 l0 K N L S met Bh G A Ab c cb nb :=
  ⟨h.gr, h.al.below hb, fun hm => ⟨(h.ab hm).1.below hb, (h.ab hm).2⟩, h.lc, h.bc, h.lk, h.bk, h.lb, h.sn, h.gn, h.rs, h.rb, below_then h.b hb⟩
set_option maxHeartbeats 16000000 in
theorem matches_any (L0 : List Atm) (A0 : Option Addr) (c0 : Nat) (s : ByteArray) (hs : s.size ≤ 1000000) (hl : L0.length ≤ 1000000) (hlc : L0.length ≤ c0) (hrs : ∀ x ∈ L0, x.rs.length ≤ 1000000) (w : World) (hT : Tabs w) (hA : Ats w A0 L0) :
    Calls Tryz.prog 87 #[.agg #[.slice A0 L0.length c0], .string s] w fun e w' => e = .returned (.bool (mtB L0 (runesB s))) ∧ Below w.heap.size w w' := by
  have hia := info_atom
  have hip := info_pat
  have hal := below_alG w (.cells #[.slice A0 L0.length c0] 98)
  have HT0 := Lib.hid (hT.below hal)
  have HS0 : Hid (MtSt w (w.alloc (.cells #[.slice A0 L0.length c0] 98)) L0 (runesB s) L0.length s.size L0 s false [] ⟨#[]⟩ A0 none c0 0 0) :=
    ⟨by rw [runesB_nil ⟨#[]⟩ rfl]; exact gr_start _ _, hA.below hal, fun h => (by cases h), hlc, fun h => (by cases h), Nat.le_refl _, fun h => (by cases h), fun h => (by cases h), Nat.le_refl _, Nat.zero_le _, hrs, fun x hx => (by cases hx), hal⟩
  have HB0 := Lib.hid hal
  obtain ⟨M, hM⟩ : ∃ M, M = mtB L0 (runesB s) := ⟨_, rfl⟩
  rw [← hM]
  have HM : Hid (M = true ↔ Mt L0 (runesB s)) := by show _ ↔ _; rw [hM]; exact mtB_iff _ _
  generalize hK : L0.length = K at *
  generalize hN : s.size = N at *
  clear hM hA hT hal hrs
  go_enter Tryz.func87, Tryz.ntmps87
  go_wp2_with fail
  generalize w.alloc (.cells #[.slice A0 K c0] 98) = w1 at *
  go_loopw [1, 5, 6, 7, 8] (fun v1 v5 v6 v7 v8 wr => ∃ (L Bh : List Atm) (S G : ByteArray) (met : Bool) (A Ab : Option Addr) (c cb nb n : Nat), v1 = .string S ∧ v5 = .slice A n c ∧ v6 = .slice Ab nb cb ∧ v7 = .string G ∧ v8 = .bool met ∧ n = L.length ∧ Hid (MtSt w wr L0 (runesB s) K N L S met Bh G A Ab c cb nb) ∧ Hid (Tabs wr)) (fun _ v5 v6 v7 v8 _ => mv K N v5 v6 v7 v8)
  case atStart => exact ⟨L0, [], s, ⟨#[]⟩, false, A0, none, c0, 0, 0, K, rfl, rfl, rfl, rfl, rfl, hK.symm, HS0, HT0⟩
  case round =>
    obtain ⟨L, Bh, S, G, met, A, Ab, c, cb, nb, n, rfl, rfl, rfl, rfl, rfl, hn, HS, HTr⟩ := hrel
    have hSn : S.size ≤ 1000000 := by have := HS.out.sn; omega
    by_cases h0 : S.size = 0
    · have e0 : S.toList = [] := by
        have h : S.toList.length = S.size := by rw [Lib.toList_data]; rfl
        exact List.length_eq_zero_iff.1 (by omega)
      subst hn
      have HCA := Lib.hid (containsA_any L A c wr HS.out.al (by have := HS.out.lk; omega))
      have HMV : Hid (M = !(L.any (fun x => x.k != 3))) := by
        have hg := HS.out.gr
        rw [runesB_nil S h0] at hg
        have he := gr_end hg
        show _ = _
        rw [Bool.eq_iff_iff, HM.out, he]
        simp
      generalize L.any (fun x => x.k != 3) = V at *
      have HSB := Lib.hid HS.out.b
      clear h0
      go_wp2_with fail
      refine HCA.out.mono ?_; rintro e w5 ⟨rfl, hb5⟩
      have HB5 := Lib.hid (below_then HSB.out hb5)
      clear hb5
      go_wp2_with fail
      go_ret
      exact ⟨by rw [HMV.out]; rfl, HB5.out⟩
    · have hS0 : 0 < S.size := by omega
      have e1 : S.toList.isEmpty = false := by
        have h : S.toList.length = S.size := by rw [Lib.toList_data]; rfl
        cases hx : S.toList with
        | nil => rw [hx] at h; simp at h; omega
        | cons a b => rfl
      have e2 : (S.toList == []) = false := by
        cases hx : S.toList with
        | nil => rw [hx] at e1; cases e1
        | cons a b => rfl
      have e3 : ¬ S.toList = [] := by intro h; rw [h] at e1; cases e1
      have HD := Lib.hid (sh_utf8_DecodeRuneInString S wr HTr.out)
      rw [decodeGo_pos S hS0] at HD
      obtain ⟨d1, d2, d3⟩ := decode_fit S 0 hS0
      rw [Nat.zero_add] at d2
      have hrc := runesB_cons S hS0
      have HNE : Hid (runesB S ≠ []) := by show _ ≠ _; rw [hrc]; simp
      have hSz := size_drop S (Utf8.decode S 0).2
      generalize (Utf8.decode S 0).1 = r at *
      generalize (Utf8.decode S 0).2 = k at *
      have HRC := Lib.hid hrc
      have HSZ := Lib.hid hSz
      clear hrc hSz h0
      go_upto_region 8 with (refine HD.out.mono ?_; rintro e w5 ⟨rfl, hb5⟩; have HS5 := Lib.hid (HS.out.next hb5); have HT5 := Lib.hid (HTr.out.below hb5); clear hb5)
      clear HD HS
      cases L with
      | nil =>
        obtain rfl : n = 0 := hn
        have hNM : Hid (¬ Mt [] (runesB S)) := not_none HNE.out
        cases met with
        | false =>
          have HMF : Hid (M = false) := by
            show _ = _
            rw [← Bool.not_eq_true, HM.out]
            exact gr_no hNM.out HS5.out.gr
          have HFB := Lib.hid HS5.out.b
          go_wp2_with fail
          go_ret
          exact ⟨by rw [HMF.out]; rfl, HFB.out⟩
        | true =>
          have hG0 : 0 < G.size := by
            rcases Nat.eq_zero_or_pos G.size with hg | hg
            · exfalso
              obtain ⟨pre, _, _, hpre, _⟩ := HS5.out.gr.2 rfl
              rw [runesB_nil G hg] at hpre
              exact HNE.out (by rw [hpre]; simp)
            · exact hg
          have HGR := Lib.hid (gr_back HNE.out hNM.out HS5.out.gr)
          rw [runesB_drop1 G hG0] at HGR
          obtain ⟨d1, d2, _⟩ := decode_fit G 0 hG0
          rw [Nat.zero_add] at d2
          have HWD := Lib.hid (width_any G hG0 w5 HT5.out)
          have hgn : G.size ≤ 1000000 := by have := HS5.out.gn; omega
          have hGz := size_drop G (Utf8.decode G 0).2
          generalize (Utf8.decode G 0).2 = kG at *
          have HGZ := Lib.hid hGz
          clear hGz
          go_wp2_with fail
          refine HWD.out.mono ?_; rintro e w9 ⟨rfl, hb9⟩
          have HS9 := Lib.hid (HS5.out.next hb9)
          have HT9 := Lib.hid (HT5.out.below hb9)
          clear hb9
          go_wp2_with fail
          generalize hGx : G.extract kG G.size = G2 at *
          have hb2 := (HS9.out.ab rfl).2
          go_roundw
          case rel =>
            exact ⟨Bh, Bh, G2, G2, true, Ab, Ab, cb, cb, nb, nb, rfl, rfl, rfl, rfl, rfl, hb2.symm, ⟨HGR.out, (HS9.out.ab rfl).1, HS9.out.ab, HS9.out.bc rfl, HS9.out.bc, HS9.out.bk rfl, HS9.out.bk, fun _ => Nat.le_refl _, by have h1 := HGZ.out; have h2 := HS9.out.gn; omega, by have h1 := HGZ.out; have h2 := HS9.out.gn; omega, HS9.out.rb, HS9.out.rb, HS9.out.b⟩, HT9⟩
          case measure =>
            have h1 := HGZ.out
            have h2 := HS9.out.bk rfl
            simp [mv, lenOf, szT, bT]
            exact mu_back (by omega) (by omega)
      | cons a t =>
        obtain rfl : n = t.length + 1 := hn
        obtain ⟨b, off, rfl, hbl, hcc⟩ := HS5.out.al (by simp)
        obtain ⟨q0, q1, q2, Ai, ci, q3, qr⟩ := hcc 0 a rfl
        rw [Nat.zero_mul, Nat.add_zero] at q0 q1 q2 q3
        have HAC : Hid (AtC w5 b off a) := ⟨hbl, q0, q1, q2, Ai, ci, q3, qr⟩
        have har := HS5.out.rs a (by simp)
        obtain ⟨A', hrun, hAd⟩ := ats_slice (some ⟨b, off, none⟩) (t.length + 1) c (by omega) HS5.out.lc
        rw [show t.length + 1 - 1 = t.length by omega] at hrun
        have gpos : decide ((0 : Int) < ((t.length + 1 : Nat) : Int)) = true := decide_eq_true (by omega)
        clear hcc q1 q2 q3 qr
        by_cases h3 : a.k = 3
        · rw [h3] at q0
          have hgr := gr_star h3 HS5.out.gr
          have hAt := hAd w5 (a :: t) rfl HS5.out.al
          rw [List.drop_succ_cons, List.drop_zero] at hAt
          have hlc := HS5.out.lc
          have hlk := HS5.out.lk
          rw [List.length_cons] at hlc hlk
          have HGR := Lib.hid hgr
          have HAT := Lib.hid hAt
          clear hgr hAt hAd HAC har
          go_wp2_with fail
          go_roundw
          case rel =>
            exact ⟨t, t, S, S, true, A', A', c - 1, c - 1, t.length, t.length, rfl, rfl, rfl, rfl, rfl, rfl, ⟨HGR.out, HAT.out, fun _ => ⟨HAT.out, rfl⟩, by omega, fun _ => by omega, by omega, fun _ => by omega, fun _ => Nat.le_refl _, HS5.out.sn, HS5.out.sn, fun x hx => HS5.out.rs x (List.mem_cons_of_mem _ hx), fun x hx => HS5.out.rs x (List.mem_cons_of_mem _ hx), HS5.out.b⟩, HT5⟩
          case measure =>
            have h1 := HS5.out.sn
            cases met with
            | true =>
              have h2 := HS5.out.lb rfl
              have h4 := (HS5.out.ab rfl).2
              rw [List.length_cons] at h2
              simp [mv, lenOf, szT, bT]
              exact mu_star (by omega) h1 (by omega)
            | false =>
              simp [mv, lenOf, szT, bT]
              exact mu_star (by omega) h1 (by omega)
        · have g3 : (a.k == 3) = false := by rw [beq_eq_false_iff_ne]; exact h3
          have HIS := Lib.hid (is_any a (r : Nat) b off w5 HAC.out har)
          rw [takI_nat] at HIS
          have HTK := Lib.hid (fun (h : takA a r = true) => gr_take (t := t) (s := runesB (S.extract k S.size)) (met := met) (bh := Bh) (ag := runesB G) (all := L0) (l0 := runesB s) h3 h)
          have HTF0 := Lib.hid (fun (h : takA a r = false) => h)
          generalize hTv : takA a r = T at *
          clear HAC har
          go_wp2_with fail
          refine HIS.out.mono ?_; rintro e w6 ⟨rfl, hb6⟩
          have HS6 := Lib.hid (HS5.out.next hb6)
          have HT6 := Lib.hid (HT5.out.below hb6)
          have hAt := hAd w6 (a :: t) rfl HS6.out.al
          rw [List.drop_succ_cons, List.drop_zero] at hAt
          have HAT := Lib.hid hAt
          clear hb6 hAt hAd HIS q0
          cases T with
          | true =>
            have hg := HS6.out.gr
            rw [HRC.out] at hg
            have HGR := Lib.hid (HTK.out rfl hg)
            have hlc := HS6.out.lc
            have hlk := HS6.out.lk
            rw [List.length_cons] at hlc hlk
            clear hg HTK HTF0 hTv
            go_upto_region 12 with fail
            go_quiet (fail)
            have HS7 := Lib.hid (HS6.out.next (below_drewN (Below.refl _ _) nq))
            have HT7 := Lib.hid (HT6.out.below (below_drewN (Below.refl _ _) nq))
            have HAT7 := Lib.hid (HAT.out.below (below_drewN (Below.refl _ _) nq))
            generalize S.extract k S.size = S2 at *
            generalize w6.drewN nq = w7 at *
            go_wp2_with fail
            go_roundw
            case rel =>
              exact ⟨t, Bh, S2, G, met, A', Ab, c - 1, cb, nb, t.length, rfl, rfl, rfl, rfl, rfl, rfl, ⟨HGR.out, HAT7.out, HS7.out.ab, by omega, HS7.out.bc, by omega, HS7.out.bk, fun h => by have h2 := HS7.out.lb h; rw [List.length_cons] at h2; omega, by have h1 := HSZ.out; have h2 := HS7.out.sn; omega, HS7.out.gn, fun x hx => HS7.out.rs x (List.mem_cons_of_mem _ hx), HS7.out.rb, HS7.out.b⟩, HT7⟩
            case measure =>
              simp [mv, lenOf, szT, bT]
              exact mu_take (by omega)
          | false =>
            have hNM : Hid (¬ Mt (a :: t) (runesB S)) := by
              show ¬ _
              rw [HRC.out]
              exact not_head h3 hTv
            clear hTv HTK HTF0
            cases met with
            | false =>
              have HMF : Hid (M = false) := by
                show _ = _
                rw [← Bool.not_eq_true, HM.out]
                exact gr_no hNM.out HS6.out.gr
              have HFB := Lib.hid HS6.out.b
              go_wp2_with fail
              go_ret
              exact ⟨by rw [HMF.out]; rfl, HFB.out⟩
            | true =>
              have hG0 : 0 < G.size := by
                rcases Nat.eq_zero_or_pos G.size with hg | hg
                · exfalso
                  obtain ⟨pre, _, _, hpre, _⟩ := HS6.out.gr.2 rfl
                  rw [runesB_nil G hg] at hpre
                  exact HNE.out (by rw [hpre]; simp)
                · exact hg
              have HGR := Lib.hid (gr_back HNE.out hNM.out HS6.out.gr)
              rw [runesB_drop1 G hG0] at HGR
              obtain ⟨d1, d2, _⟩ := decode_fit G 0 hG0
              rw [Nat.zero_add] at d2
              have HWD := Lib.hid (width_any G hG0 w6 HT6.out)
              have hgn : G.size ≤ 1000000 := by have := HS6.out.gn; omega
              have hGz := size_drop G (Utf8.decode G 0).2
              generalize (Utf8.decode G 0).2 = kG at *
              have HGZ := Lib.hid hGz
              clear hGz
              go_wp2_with fail
              refine HWD.out.mono ?_; rintro e w9 ⟨rfl, hb9⟩
              have HS9 := Lib.hid (HS6.out.next hb9)
              have HT9 := Lib.hid (HT6.out.below hb9)
              clear hb9
              go_wp2_with fail
              generalize hGx : G.extract kG G.size = G2 at *
              have hb2 := (HS9.out.ab rfl).2
              go_roundw
              case rel =>
                exact ⟨Bh, Bh, G2, G2, true, Ab, Ab, cb, cb, nb, nb, rfl, rfl, rfl, rfl, rfl, hb2.symm, ⟨HGR.out, (HS9.out.ab rfl).1, HS9.out.ab, HS9.out.bc rfl, HS9.out.bc, HS9.out.bk rfl, HS9.out.bk, fun _ => Nat.le_refl _, by have h1 := HGZ.out; have h2 := HS9.out.gn; omega, by have h1 := HGZ.out; have h2 := HS9.out.gn; omega, HS9.out.rb, HS9.out.rb, HS9.out.b⟩, HT9⟩
              case measure =>
                have h1 := HGZ.out
                have h2 := HS9.out.bk rfl
                simp [mv, lenOf, szT, bT]
                exact mu_back (by omega) (by omega)
end Go.Proofs.YtjnoapbddifcpaaGreatDoor

namespace Go.Proofs.YtjnoapbddifcpaaGreatDoor
set_option maxRecDepth 100000
open Go.RowKit Go.Joins Go.Deep

theorem setF_count {l : List Nat} {a : Nat} {acc rs : List (Nat × Nat)} {e : Nat} (h : setF l a acc = some (rs, e)) : rs.length + a ≤ acc.length + e := by
  by_cases h1 : a < l.length ∧ l.getD a 0 = 93 ∧ acc ≠ []
  · rw [setF_done h1] at h
    injection h with h; injection h with h1 h2; subst h1; omega
  · by_cases h0 : (spanF (l.drop a)).2 = 0
    · rw [setF_none h1 h0] at h; cases h
    · rw [setF_more h1 h0] at h
      have hl := spanF_le (l.drop a)
      rw [List.length_drop] at hl
      have := setF_count h
      rw [List.length_append] at this
      simp at this
      omega
termination_by l.length + 1 - a
decreasing_by
  have h1 := spanF_le (l.drop a)
  rw [List.length_drop] at h1
  omega
theorem atomF_rs {l : List Nat} {p : Atm × Nat} (h : atomF l = some p) : p.1.rs.length ≤ l.length := by
  unfold atomF at h
  split at h
  · injection h with h; subst h; exact Nat.zero_le _
  split at h
  · injection h with h; subst h; exact Nat.zero_le _
  split at h
  · obtain ⟨q, hq, rfl⟩ := Option.map_eq_some_iff.1 h
    obtain ⟨rs, e⟩ := q
    have h1 := setF_count hq
    have h2 := (setF_le hq).2
    rw [List.length_drop] at h2
    show (rgI rs).length ≤ _
    rw [rgI_len]
    simp at h1
    omega
  split at h
  · cases h
  · injection h with h; subst h; exact Nat.zero_le _
theorem compF_count {l : List Nat} {a : Nat} {acc ats : List Atm} (h : compF l a acc = some ats) (hb : ∀ x ∈ acc, x.rs.length ≤ l.length) (ha : a ≤ l.length) : ats.length + a ≤ acc.length + l.length ∧ ∀ x ∈ ats, x.rs.length ≤ l.length := by
  by_cases hal : a < l.length
  · cases hD : atomF (l.drop a) with
    | none => rw [compF_none hal hD] at h; cases h
    | some p =>
      obtain ⟨x, k⟩ := p
      have hle := atomF_le (by rw [List.length_drop]; omega) hD
      rw [List.length_drop] at hle
      have hrs := atomF_rs hD
      rw [List.length_drop] at hrs
      dsimp only at hle hrs
      rw [compF_more hal hD] at h
      have := compF_count h (fun y hy => by
        rcases List.mem_append.1 hy with hy | hy
        · exact hb y hy
        · obtain rfl : y = x := by simpa using hy
          omega) (by omega)
      rw [List.length_append] at this
      simp at this
      exact ⟨by omega, this.2⟩
  · rw [compF_end hal] at h
    injection h with h
    subst h
    exact ⟨by omega, hb⟩
termination_by l.length - a
decreasing_by omega
/-- What Match answers. -/
def MatchR (w : World) (o : Option (List Atm)) (l : List Nat) (e : Ending) (w' : World) : Prop :=
  ((o = none ∧ e = .returned (.tuple #[.bool false, .int .i64 22])) ∨ (∃ ats, o = some ats ∧ e = .returned (.tuple #[.bool (mtB ats l), .int .i64 0]))) ∧ Below w.heap.size w w'
end Go.Proofs.YtjnoapbddifcpaaGreatDoor
