/-
  Contract: the document's Parse.
-/
import Derived.Test.YtkiecgcjnlgbnaaExC
namespace Go.Proofs.Ytkiecgcjnlgbnaa
set_option maxRecDepth 100000
open Go.RowKit Go.Joins Go.Deep

theorem nums_extr (t : ByteArray) (a b : Nat) : nums (t.extract a b) = ((nums t).drop a).take (b - a) := by
  unfold nums
  rw [ByteArray.data_extract]
  simp
theorem rest_cut (s : ByteArray) (a i j : Nat) (h : a + j ≤ s.size) : (s.extract a s.size).extract i j = s.extract (a + i) (a + j) := by
  apply nums_inj
  rw [nums_extr, nums_extr, nums_extr, List.drop_take, List.take_take, List.drop_drop, show min (j - i) (s.size - a - i) = a + j - (a + i) by omega]
theorem rest_rest (s : ByteArray) (a i : Nat) (h : a + i ≤ s.size) : (s.extract a s.size).extract i (s.extract a s.size).size = s.extract (a + i) s.size := by
  have hz : (s.extract a s.size).size = s.size - a := by rw [ByteArray.size_extract]; omega
  rw [hz, rest_cut s a i (s.size - a) (by omega), show a + (s.size - a) = s.size by omega]
theorem rnumber_qx (s : ByteArray) (h8 : s.size ≤ 8) (w : World) :
    Calls Try.prog 26 #[.string s] w fun e w' => e = .returned (.int .u64 (numL (nums s) : Nat)) ∧ w' = w :=
  (rnumber_any s h8 w).mono fun _ _ h => ⟨h.1, h.2.symm⟩
set_option maxHeartbeats 2000000 in
theorem rparse_any (s : ByteArray) (hs : s.size ≤ maxLen) (w : World) :
    Calls Try.prog 9 #[.string s] w fun e w' => ∃ A cap, e = .returned (.tuple #[.slice A (parL s).length cap, .int .i64 (parE s : Nat)]) ∧ Fds w' A (parL s) ∧ Below w.heap.size w w' := by
  by_cases h5 : 65535 < s.size
  · have HR : Hid (parL s = [] ∧ parE s = 5) := by
      show _ ∧ _
      unfold parL parE
      rw [if_pos h5, if_pos h5]
      exact ⟨rfl, rfl⟩
    unfold maxLen at hs
    go_enter Try.func9, Try.ntmps9
    go_wp2_with fail
    go_ret2
    rw [HR.out.1, HR.out.2]
    exact ⟨none, 0, rfl, Fds.nil _ _, Below.refl _ _⟩
  · have hs5 : s.size ≤ 65535 := by omega
    obtain ⟨i0, hi, hz0, hz1, hz2⟩ := info_parts parts_fd
    have HNO := Lib.hid (fun k => parE_no hs5 k)
    have HYES := Lib.hid (fun l k => parE_yes (l := l) hs5 k)
    clear h5 hs
    go_enter Try.func9, Try.ntmps9
    go_wp2_with fail
    go_loopg [0, 4] s.size (fun gg t v wr => ∃ (a : Nat) (T : ByteArray) (l : List Fd), t = .string T ∧ a ≤ s.size ∧ l.length ≤ a ∧ s.size - a ≤ gg ∧ Hid (T = s.extract a s.size) ∧ Hid (prs s a l = prs s 0 []) ∧ Hid (wr.ownsRow w.heap.size 38 2 v l.length (cellsF l)) ∧ Hid (Below w.heap.size w wr))
    case atStart => exact ⟨0, s, [], rfl, Nat.zero_le _, Nat.le_refl _, by omega, by show s = _; rw [ByteArray.extract_zero_size], rfl, World.ownsRow_nil _ _ _ _, Below.refl _ _⟩
    case round =>
      obtain ⟨a, T, l, rfl, hle, hla, hg, HT, HQ, HO, HB⟩ := hrel
      have hts : T.size = s.size - a := by rw [HT.out, ByteArray.size_extract]; omega
      have HTS := Lib.hid hts
      obtain ⟨A, cap, rfl⟩ := slice_of_own HO.out
      by_cases hlt : a < s.size
      · have hpos : 0 < T.size := by omega
        by_cases h4 : T.size < 4
        · have h4b : decide ((T.size : Int) < 4) = true := decide_eq_true (by omega)
          have HN := Lib.hid (HNO.out (HQ.out.symm.trans (prs_no hlt (by omega))))
          clear hts
          go_wp2_with fail
          go_ret2
          rw [HN.out.1, HN.out.2]
          exact ⟨none, 0, rfl, Fds.nil _ _, HB.out⟩
        · have h4b : decide ((T.size : Int) < 4) = false := decide_eq_false (by omega)
          have z1 : (T.extract 0 2).size ≤ 8 := by rw [ByteArray.size_extract]; omega
          have z2 : (T.extract 2 4).size ≤ 8 := by rw [ByteArray.size_extract]; omega
          have y1 : numL (nums (T.extract 0 2)) = idA s a := by
            rw [HT.out, rest_cut s a 0 2 (by omega), nums_extr]
            unfold idA
            rw [show a + 2 - (a + 0) = 2 by omega]
            rfl
          have y2 : numL (nums (T.extract 2 4)) = idA s (a + 2) := by
            rw [HT.out, rest_cut s a 2 4 (by omega), nums_extr]
            unfold idA
            rw [show a + 4 - (a + 2) = 2 by omega]
          have q1 := idA_lt s a
          have q2 := idA_lt s (a + 2)
          have hle4 : 4 ≤ T.size := by omega
          have hle2 : 2 ≤ T.size := by omega
          rw [← y1] at q1
          rw [← y2] at q2
          have Y1 := Lib.hid y1
          have Y2 := Lib.hid y2
          clear hts y1 y2 h4
          go_wp2_with fail
          go_quiet ((go_at_call 26; exact Calls.quiet_of_same (rnumber_qx _ (by assumption) _)))
          have HO2 : Hid ((wr.drewN nq).ownsRow w.heap.size 38 2 (.slice A l.length cap) l.length (cellsF l)) := HO.out
          have HB2 := Lib.hid (below_drewN HB.out nq)
          generalize numL (nums (T.extract 0 2)) = v1 at *
          generalize numL (nums (T.extract 2 4)) = n at *
          have g1 := Y1.out
          have g2 := Y2.out
          subst g1
          subst g2
          generalize wr.drewN nq = w2 at *
          clear z1 z2 HO HB Y1 Y2
          by_cases hfit : a + 4 + idA s (a + 2) ≤ s.size
          · have hfb : decide ((T.size : Int) < 4 + (idA s (a + 2) : Nat)) = false := decide_eq_false (by rw [HTS.out]; omega)
            have hfl : 4 + idA s (a + 2) ≤ T.size := by rw [HTS.out]; omega
            have HQ2 := Lib.hid ((prs_step (acc := l) hfit).symm.trans HQ.out)
            have hp : T.extract 4 (4 + idA s (a + 2)) = s.extract (a + 4) (a + 4 + idA s (a + 2)) := by rw [HT.out, rest_cut s a 4 _ (by omega), Nat.add_assoc a 4]
            have hT2 : T.extract (4 + idA s (a + 2)) T.size = s.extract (a + 4 + idA s (a + 2)) s.size := by
              rw [HT.out, rest_rest s a _ (by omega), Nat.add_assoc a 4]
            have HT2 := Lib.hid hT2
            have HP : Hid ((⟨idA s a, T.extract 4 (4 + idA s (a + 2))⟩ : Fd) = fdA s a) := by show _ = _; rw [hp]; rfl
            have hr : (4 : Int) + ((idA s (a + 2) : Nat) : Int) = ((4 + idA s (a + 2) : Nat) : Int) := by omega
            generalize hn : 4 + idA s (a + 2) = m at *
            have HM := Lib.hid hn
            generalize hid : idA s (a + 2) = n at *
            generalize hid2 : idA s a = v1 at *
            generalize hpp : T.extract 4 m = p at *
            have HX5 := Lib.hid (heap_alloc_new w2 (.cells #[.int .u16 (v1 : Nat), .string p] 38))
            have HPP := Lib.hid hpp
            clear hid hid2 hp hT2 hn
            go_wp2_with (at_builtin; go_must (refine wpList_append_own_at _ rfl (.tmp 28) (.tmp 36) _ rfl w.heap.size 38 i0 (.agg #[.int .u16 0, .string ⟨#[]⟩]) 2 24 Try.underlying22 hi hz0 hz1 hz2 rfl (by decide) (.slice A l.length cap) l.length _ rfl (HO2.out.alloc _) ⟨w2.heap.size, 0, none⟩ 1 1 [.int .u16 (v1 : Nat), .string p] rfl rfl (cells2 HX5.out) (cellF_one ⟨v1, p⟩) (by unfold maxLen; omega) (by omega) (by have h3 := HB2.out.size; simp; omega) ?_; intro v' w6 hown' hgrow hnil hloc))
            have HO6 : Hid (w6.ownsRow w.heap.size 38 2 v' (l ++ [fdA s a]).length (cellsF (l ++ [fdA s a]))) := by
              show World.ownsRow _ _ _ _ _ _ _
              rw [← HP.out, List.length_append, cellsF_app]
              exact hown'
            have HB6 := Lib.hid ((HB2.out.alloc HB2.out.size _).grown hgrow (by have h3 := HB2.out.size; simp; omega) (fun g hg => (HO2.out.lt g hg).1))
            clear hown' hgrow hnil hloc
            go_wp2_with fail
            go_roundg (s.size - (a + 4 + n))
            case measure => omega
            case rel => exact ⟨a + 4 + n, _, _, rfl, hfit, by rw [List.length_append]; simp; omega, Nat.le_refl _, HT2.out, HQ2.out, HO6.out, HB6.out⟩
          · have hfb : decide ((T.size : Int) < 4 + (idA s (a + 2) : Nat)) = true := decide_eq_true (by rw [HTS.out]; omega)
            have HN := Lib.hid (HNO.out (HQ.out.symm.trans (prs_no hlt hfit)))
            go_wp2_with fail
            go_ret2
            rw [HN.out.1, HN.out.2]
            exact ⟨none, 0, rfl, Fds.nil _ _, HB2.out⟩
      · have hpos : ¬ 0 < T.size := by omega
        have HN := Lib.hid (HYES.out _ (HQ.out.symm.trans (prs_end (by omega))))
        go_wp2_with fail
        go_ret2
        rw [HN.out.1, HN.out.2]
        exact ⟨A, cap, rfl, fds_of_own HO.out, HB.out⟩
end Go.Proofs.Ytkiecgcjnlgbnaa
