/-
  The walk of DeflateBounds.
-/
import Derived.Test.YtfhbkidceombbaaDefF
import Derived.Deep.QuietTactic
import Derived.BigQuiet
import Derived.Deep.CutBlock
namespace Go.Proofs.Ytfhbkidceombbaa
set_option maxRecDepth 100000
open Go.RowKit Go.Joins Go.Deep

theorem wsum_mono (f : Nat → Tok) (k : Nat) : ∀ d, wsum f k ≤ wsum f (k + d)
  | 0 => Nat.le_refl _
  | d + 1 => by
    have h := wsum_mono f k d
    show wsum f k ≤ wsum f (k + d) + wdT (f (k + d))
    omega
set_option maxHeartbeats 16000000 in
theorem deflateBounds_walk (n0 : Int) (A : Option Addr) (len cap : Nat) (f : Nat → Tok) (more : Bool) (w : World) (hT : Toks w A len f) (hnil : A = none → len = 0 ∧ cap = 0) (hcap : len ≤ cap) :
    Calls Try.prog 4 #[.int .i64 n0, .slice A len cap, .bool more] w fun e w' => e = .returned (.bool true) ∧ Below w.heap.size w w' := by
  have HAW := Lib.hid (fun w1 => awake9_any w1)
  have HBD := Lib.hid (fun w1 => bound_any n0 w1)
  have HRB := Lib.hid (fun w1 => rbound_any n0 w1)
  generalize bndN (clampN n0) = bn at *
  have hzt := zero_tok
  have hit := info_tok
  obtain ⟨i0, hi, hz0, hz1, hz2⟩ := info_parts info_tok3
  have HT := Lib.hid hT
  have HN := Lib.hid hnil
  clear hT hnil
  go_enter Try.func4, Try.ntmps4
  go_wp2_with fail
  refine (HAW.out _).mono ?_; rintro e w1 ⟨rfl, rfl⟩
  by_cases hlen : 400 < len
  · have g1 : decide (400 < len) = true := decide_eq_true hlen
    have g2 : decide ((400 : Int) < (len : Int)) = true := decide_eq_true (by omega)
    go_wp2_with fail
    go_ret
    exact ⟨rfl, Below.refl _ _⟩
  · have g1 : decide (400 < len) = false := decide_eq_false hlen
    have g2 : decide ((400 : Int) < (len : Int)) = false := decide_eq_false (by omega)
    go_upto_if 19 with fail
    go_cut [1] from 20 to 33 (fun v wx => ∃ A1 n1 c1 F, v = .slice A1 n1 c1 ∧ n1 ≤ 10400 ∧ Hid (Toks wx A1 n1 F) ∧ Hid (Below w.heap.size w wx))
    case first => as_aux_lemma =>
      cases more with
      | false =>
        go_wp2_with fail
        go_meet
        exact ⟨A, len, cap, f, rfl, by omega, HT, Below.refl _ _⟩
      | true =>
        have hok : Hid (∀ i, i < len → TokOk (f i)) := toks_ok HT.out
        obtain ⟨v1, w1, hrun, hown1, hb1⟩ := run_more A len 9000 f w HT.out (by omega) (by omega) (by omega)
        have hrun' : ∀ ty, (Builtin.append_ #[22, 3] ty #[.slice A len len, .int .i64 9000]).run Try.prog w = .ok v1 w1 := hrun
        have HO1 := Lib.hid hown1
        have HB1 := Lib.hid hb1
        clear hrun hown1 hb1
        go_wp2_with (at_builtin; refine Lib.wpList_append_run _ rfl _ _ _ _ rfl _ _ rfl rfl _ _ (hrun' _) ?_)
        clear hrun'
        go_loopw [1, 27] (fun v i wr => ∃ k : Nat, k ≤ 1000 ∧ i = .int .i64 (k : Nat) ∧ Hid (wr.ownsRow w.heap.size 43 3 v (len + 9000 + k) (tokCells (moreT f len 9000) (len + 9000 + k))) ∧ Hid (Below w.heap.size w wr)) (fun _ i _ => 1000 - (intOf i).toNat)
        case atStart => exact ⟨0, Nat.zero_le _, rfl, HO1, HB1⟩
        case round =>
          obtain ⟨k, hk, rfl, HO, HB⟩ := hrel
          obtain ⟨A2, cp2, rfl⟩ := row_slice' HO.out
          by_cases hlt : k < 1000
          · have HX2 := Lib.hid (heap_alloc_new wr (.cells #[.int .u8 0, .int .i64 258, .int .i64 1] 43))
            have HO2 := Lib.hid (HO.out.alloc (.cells #[.int .u8 0, .int .i64 258, .int .i64 1] 43))
            have HB2 : Hid (Below w.heap.size w (wr.alloc (.cells #[.int .u8 0, .int .i64 258, .int .i64 1] 43))) := HB.out.alloc HB.out.size _
            have HS2 : Hid (w.heap.size ≤ (wr.alloc (.cells #[.int .u8 0, .int .i64 258, .int .i64 1] 43)).heap.size) := HB2.out.size
            have HLT := Lib.hid HO.out.lt
            go_wp2_with (at_builtin; go_must (refine wpList_append_own_at _ rfl (.tmp 29) (.tmp 31) _ rfl w.heap.size 43 i0 (.agg #[.int .u8 0, .int .i64 0, .int .i64 0]) 3 24 Try.underlying22 hi hz0 hz1 hz2 rfl (by decide) (.slice A2 (len + 9000 + k) cp2) (len + 9000 + k) _ rfl HO2.out ⟨wr.heap.size, 0, none⟩ 1 1 [.int .u8 0, .int .i64 258, .int .i64 1] rfl rfl (by exact cells3 HX2.out) (cellT_one ⟨0, 258, 1⟩) (by unfold maxLen; omega) (by omega) (by exact HS2.out) ?_; intro v' w6 hown' hgrow hnil' hloc; have HO6 := Lib.hid hown'; have HB6 := Lib.hid (HB2.out.grown hgrow HS2.out (fun j hj => (HLT.out j hj).1)); clear hown' hgrow hnil' hloc))
            go_roundw
            case rel =>
              refine ⟨k + 1, by omega, by go_num, ?_, HB6⟩
              show World.ownsRow _ _ _ _ _ _ _
              have e : tokCells (moreT f len 9000) (len + 9000 + (k + 1)) = tokCells (moreT f len 9000) (len + 9000 + k) ++ [.int .u8 0, .int .i64 258, .int .i64 1] := by
                show _ ++ cellT (moreT f len 9000 (len + 9000 + k)) = _
                rw [moreT_copy]
                rfl
              rw [e]
              exact HO6.out
            case measure => simp [intOf]; omega
          · obtain rfl : k = 1000 := by omega
            go_wp2_with fail
            go_meet
            exact ⟨A2, len + 9000 + 1000, cp2, moreT f len 9000, rfl, by omega, toks_of_own HO.out (fun i _ => moreT_ok hok.out i), HB⟩
    case rest =>
      obtain ⟨A1, n1, c1, F, rfl, hn1, HT1, HB1⟩ := hcut
      generalize wc = w1 at *
      clear HT HN hcap
      have HSP := Lib.hid (split_any A1 n1 c1 F w1 HT1.out (by omega))
      have HPO := Lib.hid (fun p hp => parts_ok F n1 p hp)
      have HPF := Lib.hid (parts_follow F n1)
      generalize hP : partsOf F n1 = P at *
      have HPL : Hid (P.length ≤ 20000) := by
        show _ ≤ _
        rw [← hP]
        have := spl_len F n1
        unfold partsOf
        split
        · simp
        · rw [List.length_append]; simp; omega
      clear hP
      go_wp2_with fail
      (with_reducible refine (HSP.out).mono ?_); rintro e w2 ⟨g, A2, c2, rfl, hpr, hts, hb2⟩
      have HPR := Lib.hid hpr
      have HTS := Lib.hid hts
      have HB2 := Lib.hid (below_then HB1.out hb2)
      have HT2 := Lib.hid (HT1.out.below (Nat.le_refl _) hb2)
      clear hpr hts hb2 HSP HT1 HB1
      have hPl := HPL.out
      go_wp2_with fail
      go_loopw [8, 38] (fun v8 i wr => ∃ k q : Nat, k ≤ P.length ∧ i = .int .i64 (k : Nat) ∧ v8 = .int .i64 (q : Nat) ∧ Hid (q = endsAt (P.take k) 0) ∧ q ≤ n1 ∧ Hid (Below w2.heap.size w2 wr)) (fun _ i _ => P.length - (intOf i).toNat)
      case atStart => exact ⟨0, 0, Nat.zero_le _, rfl, rfl, rfl, Nat.zero_le _, Below.refl _ _⟩
      case round =>
        obtain ⟨k, q, hk, rfl, rfl, HQ, hq, HB⟩ := hrel
        by_cases hlt : k < P.length
        · obtain ⟨b2, rfl, hb2, hcc⟩ := (HPR.out.below (Nat.le_refl _) HB.out) (by omega)
          have HTr := Lib.hid (HTS.out.below (Nat.le_refl _) HB.out)
          have HAr := Lib.hid (HT2.out.below (Nat.le_refl _) HB.out)
          have hfa := follow_at P 0 k HPF.out.1 hlt
          have hpo := HPO.out (P.getD k (0, 0)) (by rw [List.getD_eq_getElem?_getD, List.getElem?_eq_getElem hlt]; exact List.getElem_mem hlt)
          have hck := hcc k hlt
          rw [← HQ.out] at hfa
          generalize P.getD k (0, 0) = pp at *
          obtain ⟨fr, tw⟩ := pp
          obtain ⟨rfl, hE⟩ := hfa
          obtain ⟨hp1, hp2, hp3⟩ := hpo
          unfold partV at hck
          dsimp only at hck hp1 hp2 hp3 hE
          have HE := Lib.hid hE
          have HP3 := Lib.hid hp3
          clear hE hp3 hcc
          obtain ⟨m, hm⟩ : ∃ m, m = tw - fr := ⟨_, rfl⟩
          rw [← hm] at hck
          have hm1 : fr + m = tw := by omega
          have hm2 : 0 < m := by omega
          clear hm
          subst hm1
          have HB3 := Lib.hid HB.out
          go_wp2_with fail
          go_loopw [8, 11, 44] (fun v8 v11 i wq => ∃ j t s : Nat, j ≤ m ∧ i = .int .i64 (j : Nat) ∧ v8 = .int .i64 (t : Nat) ∧ v11 = .int .i64 (s : Nat) ∧ Hid (t = fr + j) ∧ Hid (wsum F t = wsum F fr + s) ∧ s ≤ 32768 ∧ t ≤ n1 ∧ Hid (Below w2.heap.size w2 wq)) (fun _ _ i _ => m - (intOf i).toNat)
          case atStart => exact ⟨0, fr, 0, Nat.zero_le _, rfl, rfl, rfl, rfl, rfl, by omega, by omega, HB⟩
          case round =>
            obtain ⟨j, t, s, hj, rfl, rfl, rfl, HTT, HSS, hs, ht, HBq⟩ := hrel
            by_cases hjm : j < m
            · have htn : t < n1 := by have := HTT.out; omega
              obtain ⟨b', off', he', hbl, hc⟩ := (HTS.out.below (Nat.le_refl _) HBq.out) (by omega)
              injection he' with he'
              injection he' with e1 e2 e3
              subst e1 e2
              obtain ⟨hok, c0, c1', c2'⟩ := hc t htn
              rw [show 0 + t * 3 = fr * 3 + j * 3 by have := HTT.out; omega] at c0 c1' c2'
              obtain ⟨bA, oA, rfl, hblA, hcA⟩ := (HT2.out.below (Nat.le_refl _) HBq.out) (by omega)
              obtain ⟨_, a0, a1, a2⟩ := hcA t htn
              have HSN := Lib.hid (show wsum F (t + 1) = wsum F t + wdT (F t) from rfl)
              have HMO : Hid (wsum F (t + 1) ≤ wsum F fr + 32768) := by
                have h1 := wsum_mono F (t + 1) (fr + m - (t + 1))
                rw [show t + 1 + (fr + m - (t + 1)) = fr + m by have := HTT.out; omega] at h1
                have h2 := HP3.out
                show _ ≤ _
                omega
              have hw := wdT_le (F t)
              have HWD := Lib.hid (fun w1 => rbytes_any (F t) w1)
              clear hc hcA
              generalize hF1 : wsum F (t + 1) = F1 at *
              have HF1 := Lib.hid hF1
              clear hF1
              generalize wdT (F t) = T at *
              generalize F t = U at *
              obtain ⟨tb, tl, td⟩ := U
              unfold valT at HWD
              dsimp only at *
              have htb := hok.1
              clear hok
              have hb3 : Below wr.heap.size wr (wr.alloc (.cells #[.int .u8 (tb : Nat), .int .i64 tl, .int .i64 td] 43)) := (Below.refl _ _).alloc (Nat.le_refl _) _
              have hx3 := heap_alloc_new wr (.cells #[.int .u8 (tb : Nat), .int .i64 tl, .int .i64 td] 43)
              have k0 := (cell_of_row _ _ 0 _ _ _ hx3).trans (show _ = some (Value.int .u8 (tb : Nat)) from rfl)
              have k1 := (cell_of_row _ _ 1 _ _ _ hx3).trans (show _ = some (Value.int .i64 tl) from rfl)
              have k2 := (cell_of_row _ _ 2 _ _ _ hx3).trans (show _ = some (Value.int .i64 td) from rfl)
              have x0 := (hb3.cell (p := ⟨bA, oA + t * 3, none⟩) hblA).trans a0
              have x1 := (hb3.cell (p := ⟨bA, oA + t * 3 + 1, none⟩) hblA).trans a1
              have x2 := (hb3.cell (p := ⟨bA, oA + t * 3 + 2, none⟩) hblA).trans a2
              have HB4 := Lib.hid (HBq.out.trans (hb3.mono HBq.out.size))
              have gt1 : decide ((n1 : Int) ≤ (t : Int)) = false := decide_eq_false (by omega)
              have gt2 : decide (n1 ≤ t) = false := decide_eq_false (by omega)
              have gt3 : ¬ (n1 ≤ t) := by omega
              clear a0 a1 a2 hb3 hx3
              go_upto_region 20 with fail
              generalize wr.alloc (.cells #[.int .u8 (tb : Nat), .int .i64 tl, .int .i64 td] 43) = w3 at *
              go_quiet (fail)
              have HB5 := Lib.hid (below_drewN HB4.out nq)
              go_wp2_with fail
              refine (HWD.out _).mono ?_; rintro e w5 ⟨rfl, hb5⟩
              have HB6 := Lib.hid (HB5.out.trans (hb5.mono HB5.out.size))
              clear hb5
              go_wp2_with fail
              go_roundw
              case rel => exact ⟨j + 1, t + 1, s + T, by omega, by go_num, by go_num, by go_num, by show _ = _; have := HTT.out; omega, by show _ = _; have h1 := HSN.out; have h2 := HSS.out; have h3 := HF1.out; omega, by have h1 := HSN.out; have h2 := HSS.out; have h3 := HMO.out; omega, by omega, HB6⟩
              case measure => simp [intOf]; omega
            · obtain rfl : j = m := by omega
              have htm : t = fr + j := HTT.out
              have g5 : decide ((32768 : Int) < (s : Int)) = false := decide_eq_false (by omega)
              have g6 : ((j : Int) == 0) = false := by rw [beq_eq_false_iff_ne]; omega
              have HTM := Lib.hid htm
              clear htm
              go_wp2_with fail
              go_roundw
              case rel => exact ⟨k + 1, t, by omega, by go_num, rfl, by show _ = _; rw [HE.out]; exact HTM.out, by omega, HBq⟩
              case measure => simp [intOf]; omega
        · obtain rfl : k = P.length := by omega
          have HQ2 : Hid (q = n1) := by
            have h1 := HQ.out
            rw [List.take_length] at h1
            exact h1.trans HPF.out.2
          obtain rfl : q = n1 := HQ2.out
          go_wp2_with fail
          refine (HBD.out _).mono ?_; rintro e w5 ⟨rfl, rfl⟩
          go_wp2_with fail
          refine (HRB.out _).mono ?_; rintro e w6 ⟨rfl, rfl⟩
          go_wp2_with fail
          go_ret
          exact ⟨rfl, HB2.out.trans (HB.out.mono HB2.out.size)⟩
end Go.Proofs.Ytfhbkidceombbaa
