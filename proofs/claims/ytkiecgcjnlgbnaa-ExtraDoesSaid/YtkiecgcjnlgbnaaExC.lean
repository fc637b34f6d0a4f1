/-
  Contract: Parse.
-/
import Derived.Test.YtkiecgcjnlgbnaaExB
import Derived.Deep.LoopGhost
namespace Go.Proofs.Ytkiecgcjnlgbnaa
set_option maxRecDepth 100000
open Go.RowKit Go.Joins Go.Deep

/-- A cursor of the call's own, and a row of fields above it. -/
structure PX (w0 w : World) (s : ByteArray) (a e : Nat) (v : Value) (l : List Fd) : Prop where
  ci : CI w0 s a e w
  le : a ≤ s.size
  row : w.ownsRow (w0.heap.size + 1) 38 2 v l.length (cellsF l)
theorem PX.ne {w0 w : World} {s : ByteArray} {a e : Nat} {v : Value} {l : List Fd} (h : PX w0 w s a e v l) : v.ownBlock ≠ some w0.heap.size := fun k => by
  have := (h.row.lt _ k).1
  omega
theorem PX.grown {w0 w w' : World} {s : ByteArray} {a e a' e' : Nat} {v : Value} {l : List Fd} (h : PX w0 w s a e v l) (hc : Cur w' w0.heap.size s a' e') (hl : a' ≤ s.size) (hg : w.grownBy w' (some w0.heap.size)) : PX w0 w' s a' e' v l :=
  ⟨h.ci.grown hc hg, hl, h.row.kept hg (.inr h.ne)⟩
theorem PX.drewN {w0 w : World} {s : ByteArray} {a e : Nat} {v : Value} {l : List Fd} (h : PX w0 w s a e v l) (n : Nat) : PX w0 (w.drewN n) s a e v l := ⟨h.ci.drewN n, h.le, h.row⟩
theorem two_px {w0 w : World} {s : ByteArray} {a e : Nat} {v : Value} {l : List Fd} (hs : s.size ≤ maxLen) (h : PX w0 w s a e v l) :
    Calls Try.prog 23 #[.pointer (some ⟨w0.heap.size, 0, none⟩)] w fun r w' => r = .returned (.int .u16 (numB s a e 2 : Nat)) ∧ PX w0 w' s (atB s a e (2 : Nat)) (errB s a e (2 : Nat)) v l :=
  (two_of _ s a e hs h.le w h.ci.cur).mono fun _ _ ⟨he, hc, hg⟩ => ⟨he, h.grown hc (atB_le _ _ _ _ h.le) hg⟩
theorem take_px {w0 w : World} {s : ByteArray} {a e : Nat} {v : Value} {l : List Fd} (n : Nat) (hs : s.size ≤ maxLen) (hn : n < 65536) (h : PX w0 w s a e v l) :
    Calls Try.prog 24 #[.pointer (some ⟨w0.heap.size, 0, none⟩), .int .i64 (n : Nat)] w fun r w' => r = .returned (.string (piece s a e (n : Nat))) ∧ PX w0 w' s (atB s a e (n : Nat)) (errB s a e (n : Nat)) v l :=
  (take_any _ s a e n hs h.le (WalkArith.wf_i64 (by omega)) w h.ci.cur).mono fun _ _ ⟨he, hc, hg⟩ => ⟨he, h.grown hc (atB_le _ _ _ _ h.le) hg⟩

theorem parE_no {s : ByteArray} (h : s.size ≤ 65535) (k : prs s 0 [] = none) : parE s = 24 ∧ parL s = [] := by
  unfold parE parL
  have hn : ¬ 65535 < s.size := by omega
  rw [if_neg hn, if_neg hn, k]
  exact ⟨rfl, rfl⟩
theorem parE_yes {s : ByteArray} {l : List Fd} (h : s.size ≤ 65535) (k : prs s 0 [] = some l) : parE s = 0 ∧ parL s = l := by
  unfold parE parL
  have hn : ¬ 65535 < s.size := by omega
  rw [if_neg hn, if_neg hn, k]
  exact ⟨rfl, rfl⟩
set_option maxHeartbeats 2000000 in
theorem parse_any (s : ByteArray) (hs : s.size ≤ maxLen) (w : World) :
    Calls Try.prog 8 #[.string s] w fun e w' => ∃ A cap, e = .returned (.tuple #[.slice A (parL s).length cap, .int .i64 (parE s : Nat)]) ∧ Fds w' A (parL s) ∧ Below w.heap.size w w' := by
  by_cases h5 : 65535 < s.size
  · have HR : Hid (parL s = [] ∧ parE s = 5) := by
      show _ ∧ _
      unfold parL parE
      rw [if_pos h5, if_pos h5]
      exact ⟨rfl, rfl⟩
    unfold maxLen at hs
    go_enter Try.func8, Try.ntmps8
    go_wp2_with fail
    go_ret2
    rw [HR.out.1, HR.out.2]
    exact ⟨none, 0, rfl, Fds.nil _ _, Below.refl _ _⟩
  · have hs5 : s.size ≤ 65535 := by omega
    obtain ⟨i0, hi, hz0, hz1, hz2⟩ := info_parts parts_fd
    have HOV := Lib.hid (over_ci s w)
    have HNO := Lib.hid (fun k => parE_no hs5 k)
    have HYES := Lib.hid (fun l k => parE_yes (l := l) hs5 k)
    clear h5
    go_enter Try.func8, Try.ntmps8
    go_wp2_with fail
    refine (HOV.out).mono ?_
    rintro e w1 ⟨rfl, hci⟩
    have HP : Hid (PX w w1 s 0 0 (.slice none 0 0) []) := ⟨hci, Nat.zero_le _, World.ownsRow_nil _ _ _ _⟩
    have hB1 : Hid (w.heap.size + 1 ≤ w1.heap.size) := hci.lt
    clear hci HOV
    go_wp2_with fail
    go_loopg [4] s.size (fun gg v wr => ∃ (a : Nat) (l : List Fd), l.length ≤ a ∧ s.size - a ≤ gg ∧ Hid (prs s a l = prs s 0 []) ∧ Hid (PX w wr s a 0 v l) ∧ Hid (w.heap.size + 1 ≤ wr.heap.size))
    case atStart => exact ⟨0, [], Nat.le_refl _, by omega, rfl, HP.out, hB1.out⟩
    case round =>
      clear HP hB1
      obtain ⟨a, l, hla, hg, HQ, HP, hB1⟩ := hrel
      have hle := HP.out.le
      have HLF := Lib.hid (left_any _ s a 0 hs hle wr HP.out.ci.cur)
      by_cases hlt : a < s.size
      · have hpos : decide (0 < (s.size : Int) - (a : Int)) = true := decide_eq_true (by omega)
        go_wp2_with fail
        refine (HLF.out).mono ?_
        rintro e w2 ⟨rfl, d, rfl⟩
        have HP2 := Lib.hid (HP.out.drewN d)
        have HT1 := Lib.hid (two_px hs HP2.out)
        have hB2 : Hid (w.heap.size + 1 ≤ (wr.drewN d).heap.size) := hB1.out
        generalize wr.drewN d = w2 at *
        have hv1 := numB_lt s a 0 2
        have HC := Lib.hid (fun n (p : ByteArray) a2 e2 a3 e3 => fit_case s a hlt (a2 := a2) (e2 := e2) (a3 := a3) (e3 := e3) (n := n) (p := p) rfl rfl rfl)
        generalize numB s a 0 2 = v1 at *
        generalize atB s a 0 (2 : Nat) = a1 at *
        generalize errB s a 0 (2 : Nat) = e1 at *
        clear HLF HP hB1 hpos
        go_wp2_with fail
        refine (HT1.out).mono ?_
        rintro e w3 ⟨rfl, hp3⟩
        have HT2 := Lib.hid (two_px hs hp3)
        have hv2 := numB_lt s a1 e1 2
        have HC2 := Lib.hid (fun (p : ByteArray) a3 e3 => HC.out _ p _ _ a3 e3 rfl rfl rfl)
        generalize numB s a1 e1 2 = n at *
        generalize atB s a1 e1 (2 : Nat) = a2 at *
        generalize errB s a1 e1 (2 : Nat) = e2 at *
        clear HC HT1 hp3
        go_wp2_with fail
        refine (HT2.out).mono ?_
        rintro e w4 ⟨rfl, hp4⟩
        have HT3 := Lib.hid (take_px n hs (by omega) hp4)
        have HC3 := Lib.hid (HC2.out _ _ _ rfl rfl rfl)
        generalize piece s a2 e2 (n : Nat) = p at *
        generalize atB s a2 e2 (n : Nat) = a3 at *
        generalize errB s a2 e2 (n : Nat) = e3 at *
        clear HC2 HT2 hp4
        go_wp2_with fail
        refine (HT3.out).mono ?_
        rintro e w5 ⟨rfl, hp5⟩
        have HER := Lib.hid (err_ci hp5.ci)
        have HP5 := Lib.hid hp5
        clear HT3 hp5
        go_wp2_with fail
        refine (HER.out).mono ?_
        rintro e w6 ⟨rfl, rfl⟩
        rcases HC3.out with ⟨he, hfit, ha3, hfd⟩ | ⟨he, hfit⟩
        · subst he
          subst ha3
          have HQ2 := Lib.hid ((prs_step (acc := l) hfit).symm.trans HQ.out)
          have hfd' := hfd
          clear HC3 HQ
          obtain ⟨A, cap, rfl⟩ := slice_of_own HP5.out.row
          have hb5 : w.heap.size + 1 ≤ w5.heap.size := HP5.out.ci.lt
          have hx5 := heap_alloc_new w5 (.cells #[.int .u16 (v1 : Nat), .string p] 38)
          have HX5 := Lib.hid hx5
          have HB5 := Lib.hid hb5
          have HF := Lib.hid hfd
          clear hx5 hb5 hfd hfd' hle
          go_wp2_with (at_builtin; go_must (refine wpList_append_own_at _ rfl (.tmp 26) (.tmp 30) _ rfl (w.heap.size + 1) 38 i0 (.agg #[.int .u16 0, .string ⟨#[]⟩]) 2 24 Try.underlying22 hi hz0 hz1 hz2 rfl (by decide) (.slice A l.length cap) l.length _ rfl (HP5.out.row.alloc _) ⟨w5.heap.size, 0, none⟩ 1 1 [.int .u16 (v1 : Nat), .string p] rfl rfl (cells2 HX5.out) (cellF_one ⟨v1, p⟩) (by unfold maxLen; omega) (by omega) (by have h3 := HB5.out; simp; omega) ?_; intro v' w6 hown' hgrow hnil hloc))
          have HP6 : Hid (PX w w6 s (a + 4 + idA s (a + 2)) 0 v' (l ++ [fdA s a])) := by
            refine ⟨⟨?_, ?_⟩, hfit, ?_⟩
            · exact (HP5.out.ci.cur.alloc _).grown hgrow (fun k => HP5.out.ne k.symm)
            · exact (HP5.out.ci.bel.alloc (by have h3 := HB5.out; omega) _).grown hgrow (by have h3 := HB5.out; simp; omega) (fun g hg => by have := (HP5.out.row.lt g hg).1; omega)
            · rw [← HF.out, List.length_append, cellsF_app]
              exact hown'
          have HS6 : Hid (w.heap.size + 1 ≤ w6.heap.size) := HP6.out.ci.lt
          clear hown' hgrow hnil hloc
          go_wp2_with fail
          go_roundg (s.size - (a + 4 + idA s (a + 2)))
          case measure => omega
          case rel => exact ⟨_, _, by rw [List.length_append]; simp; omega, Nat.le_refl _, HQ2.out, HP6.out, HS6.out⟩
        · have heb : ((e3 : Int) != 0) = true := by rw [bne_iff_ne]; omega
          have HN := Lib.hid (HNO.out (HQ.out.symm.trans (prs_no hlt hfit)))
          clear HC3 HQ hfit
          go_wp2_with fail
          go_ret2
          rw [HN.out.1, HN.out.2]
          exact ⟨none, 0, rfl, Fds.nil _ _, HP5.out.ci.bel⟩
      · have hpos : decide (0 < (s.size : Int) - (a : Int)) = false := decide_eq_false (by omega)
        have HN := Lib.hid (HYES.out _ (HQ.out.symm.trans (prs_end (by omega))))
        obtain ⟨A, cap, rfl⟩ := slice_of_own HP.out.row
        go_wp2_with fail
        refine (HLF.out).mono ?_
        rintro e w2 ⟨rfl, d, rfl⟩
        go_wp2_with fail
        go_ret2
        rw [HN.out.1, HN.out.2]
        exact ⟨A, cap, rfl, fds_of_own (HP.out.drewN d).row, (HP.out.drewN d).ci.bel⟩
end Go.Proofs.Ytkiecgcjnlgbnaa
