/-
  The document's place of an end record.
-/
import Derived.Test.YtklmfncljebgnaaTlK
namespace Go.Proofs.Ytklmfncljebgnaa
set_option maxRecDepth 100000
set_option linter.unusedSimpArgs false
set_option linter.unusedVariables false
open Go.RowKit Go.Joins Go.Deep Go.Op
theorem RdI.own' {w : World} {B : Nat} {K : IntKind} {e : TypeId} {A : Option Addr} {c n : Nat} {l : List Nat} (hn : l.length = n) (h : w.ownsRow B e 1 (.slice A n c) n (cellsK K l)) : RdI w K A l := by
  subst hn
  exact RdI.of_own h
theorem rowE (t : ByteArray) (ht : 22 ≤ t.size) (hs : t.size ≤ 1000000) (g : Nat) (w : World) (hr : RdI w .i64 (some ⟨g, 0, none⟩) wsE) :
    Calls Try.prog 41 #[.string t, .slice (some ⟨g, 0, none⟩) 8 8] w fun e w' => ∃ A2 c2, e = .returned (.slice A2 8 c2) ∧ RdI w' .u64 A2 [nAt t 0 4, nAt t 4 2, nAt t 6 2, nAt t 8 2, nAt t 10 2, nAt t 12 4, nAt t 16 4, nAt t 20 2] ∧ Below w.heap.size w w' :=
  (rrow_any t hs (some ⟨g, 0, none⟩) 8 wsE (by decide) (by decide) ht w hr).mono fun e w' ⟨A2, c2, he, ho, hb⟩ => ⟨A2, c2, he, RdI.own' (l := rowN t 0 wsE) rfl ho, hb⟩
theorem rowW (t : ByteArray) (ht : 56 ≤ t.size) (hs : t.size ≤ 1000000) (g : Nat) (w : World) (hr : RdI w .i64 (some ⟨g, 0, none⟩) wsW) :
    Calls Try.prog 41 #[.string t, .slice (some ⟨g, 0, none⟩) 10 10] w fun e w' => ∃ A2 c2, e = .returned (.slice A2 10 c2) ∧ RdI w' .u64 A2 [nAt t 0 4, nAt t 4 8, nAt t 12 2, nAt t 14 2, nAt t 16 4, nAt t 20 4, nAt t 24 8, nAt t 32 8, nAt t 40 8, nAt t 48 8] ∧ Below w.heap.size w w' :=
  (rrow_any t hs (some ⟨g, 0, none⟩) 10 wsW (by decide) (by decide) ht w hr).mono fun e w' ⟨A2, c2, he, ho, hb⟩ => ⟨A2, c2, he, RdI.own' (l := rowN t 0 wsW) rfl ho, hb⟩
theorem rowLo (t : ByteArray) (ht : 20 ≤ t.size) (hs : t.size ≤ 1000000) (g : Nat) (w : World) (hr : RdI w .i64 (some ⟨g, 0, none⟩) wsLo) :
    Calls Try.prog 41 #[.string t, .slice (some ⟨g, 0, none⟩) 4 4] w fun e w' => ∃ A2 c2, e = .returned (.slice A2 4 c2) ∧ RdI w' .u64 A2 [nAt t 0 4, nAt t 4 4, nAt t 8 8, nAt t 16 4] ∧ Below w.heap.size w w' :=
  (rrow_any t hs (some ⟨g, 0, none⟩) 4 wsLo (by decide) (by decide) ht w hr).mono fun e w' ⟨A2, c2, he, ho, hb⟩ => ⟨A2, c2, he, RdI.own' (l := rowN t 0 wsLo) rfl ho, hb⟩
set_option maxHeartbeats 8000000 in
theorem place_any (s : ByteArray) (hs : s.size ≤ 60000) (w : World) :
    Calls Try.prog 60 #[.string s] w fun e w' => e = .returned (.int .i64 (lastI s)) ∧ Below w.heap.size w w' := by
  by_cases h22 : 22 ≤ s.size
  · have HL := Lib.hid (lastI_yes h22)
    have HSK := Lib.hid (fun k => show seekE s (k + 1) = if isEnd s k = true then some k else seekE s k from rfl)
    have HIE := Lib.hid (fun k => show isEnd s k = (decide (nAt s k 4 = 101010256) && decide (nAt s (k + 20) 2 = s.size - 22 - k)) from rfl)
    have HLT := Lib.hid (fun k => nAt_lt s (k + 20) 2)
    go_enter Try.func60, Try.ntmps60
    go_wp2
    go_loopw [3] (fun v wr => ∃ k : Nat, k ≤ s.size - 21 ∧ v = .int .i64 ((k : Int) - 1) ∧ seekE s (s.size - 21) = seekE s k ∧ Below w.heap.size w wr) (fun v _ => (intOf v + 1).toNat)
    case atStart => exact ⟨s.size - 21, Nat.le_refl _, by rw [show (((s.size - 21 : Nat) : Int) - 1) = (s.size : Int) - 22 by omega], rfl, Below.refl _ _⟩
    case round =>
      obtain ⟨k, hk, rfl, hsk, hbel⟩ := hrel
      have HK := Lib.hid hsk
      have HB := Lib.hid hbel
      clear hsk hbel
      by_cases h0 : k = 0
      · subst h0
        rw [show (((0 : Nat) : Int) - 1) = -1 from rfl]
        go_wp2_with fail
        go_ret
        rw [HL.out, HK.out]
        exact ⟨rfl, HB.out⟩
      · obtain ⟨a, rfl⟩ : ∃ a, k = a + 1 := ⟨k - 1, by omega⟩
        rw [show (((a + 1 : Nat) : Int) - 1) = (a : Int) from by omega]
        have hie := HIE.out a
        have hlt := HLT.out a
        have hsk := HSK.out a
        have hts : (s.extract a s.size).size = s.size - a := by rw [ByteArray.size_extract]; omega
        have HRW := Lib.hid (fun g w hr => rowE (s.extract a s.size) (by omega) (by omega) g w hr)
        simp only [nAt_from, Nat.add_zero] at HRW
        have hno : decide ((a : Int) + 22 + 65535 < (s.size : Int)) = false := decide_eq_false (by omega)
        have hno2 : ¬ (a : Int) + 22 + 65535 < (s.size : Int) := by omega
        have has : a ≤ s.size := by omega
        have HIE1 := Lib.hid hie
        have HSK1 := Lib.hid hsk
        have HK1 := Lib.hid HK.out
        clear hie hsk hts HIE HSK HK HLT
        go_upto_region 6 with fail
        have hS0 : (fun ww => Below wr.heap.size wr ww) wr.drew := (Below.refl _ _).drew
        refine wp_region_held_drew (S := fun ww => Below wr.heap.size wr ww) (by kernel_rfl) hS0 (fun hSA => ?_)
        clear hS0
        generalize hq0 : wr.drew = q0 at *
        clear hq0
        refine wpAnyH_take (i := 0) (v := .string s) rfl (by kernel_rfl) (by kernel_rfl) (by kernel_rfl) (fun _ _ _ h => h) (Or.inl ⟨by kernel_rfl, ?_⟩) (by assumption) ?_
        · intro ww hSw
          clear hSw
          go_simp
          all_goals (try omega)
          all_goals (try assumption)
          all_goals (try rfl)
        try simp only [Act.put, List.setIfInBounds_toArray, List.set_cons_zero, List.set_cons_succ, List.getElem_toArray, List.getElem_cons_succ, List.getElem_cons_zero]
        refine wpAnyH_take (i := 1) (v := .int .i64 (a : Nat)) rfl (by kernel_rfl) (by kernel_rfl) (by kernel_rfl) (fun _ _ _ h => h) (Or.inl ⟨by kernel_rfl, ?_⟩) (by assumption) ?_
        · intro ww hSw
          clear hSw
          go_simp
          all_goals (try omega)
          all_goals (try assumption)
          all_goals (try rfl)
        try simp only [Act.put, List.setIfInBounds_toArray, List.set_cons_zero, List.set_cons_succ, List.getElem_toArray, List.getElem_cons_succ, List.getElem_cons_zero]
        refine wpAnyH_take (i := 2) (v := .string (s.extract a s.size)) rfl (by kernel_rfl) (by kernel_rfl) (by kernel_rfl) (fun _ _ _ h => h) (Or.inl ⟨by kernel_rfl, ?_⟩) (by assumption) ?_
        · intro ww hSw
          clear hSw
          go_simp
          all_goals (try omega)
          all_goals (try assumption)
          all_goals (try rfl)
        try simp only [Act.put, List.setIfInBounds_toArray, List.set_cons_zero, List.set_cons_succ, List.getElem_toArray, List.getElem_cons_succ, List.getElem_cons_zero]
        refine wpAnyH_ready (rs := [3]) (by kernel_rfl) (by simp) ?_
        refine AllReadyH.cons rfl (fun K hK => ?_) AllReadyH.nil
        go_simp
        refine (rends_any _).mono ?_
        rintro e q1 ⟨rfl, hrb, hb1⟩
        have hS1 : (fun ww => Below wr.heap.size wr ww) q1 := Below.trans hSA (hb1.mono hSA.size)
        refine hK.out _ _ hS1 (fun hT1 => ?_)
        clear hK K
        try simp only [Act.put, List.setIfInBounds_toArray, List.set_cons_zero, List.set_cons_succ, List.getElem_toArray, List.getElem_cons_succ, List.getElem_cons_zero]
        refine wpAnyH_ready (rs := [4]) (by kernel_rfl) (by simp) ?_
        refine AllReadyH.cons rfl (fun K hK => ?_) AllReadyH.nil
        go_simp
        refine (HRW.out _ _ hrb).mono ?_
        rintro e q2 ⟨lA, lc, rfl, hro, hb2⟩
        have hS2 : (fun ww => Below wr.heap.size wr ww) q2 := Below.trans hS1 (hb2.mono hS1.size)
        refine hK.out _ _ hS2 (fun hT2 => ?_)
        clear hK K hrb
        try simp only [Act.put, List.setIfInBounds_toArray, List.set_cons_zero, List.set_cons_succ, List.getElem_toArray, List.getElem_cons_succ, List.getElem_cons_zero]
        refine wpAnyH_take (i := 5) (v := .slice lA 8 lc) rfl (by kernel_rfl) (by kernel_rfl) (by kernel_rfl) (fun _ _ _ h => h) (Or.inl ⟨by kernel_rfl, ?_⟩) (by assumption) ?_
        · intro ww hSw
          clear hSw
          go_simp
          all_goals (try omega)
          all_goals (try assumption)
          all_goals (try rfl)
        try simp only [Act.put, List.setIfInBounds_toArray, List.set_cons_zero, List.set_cons_succ, List.getElem_toArray, List.getElem_cons_succ, List.getElem_cons_zero]
        have lB := Lib.hid hS2
        have lR := Lib.hid hro
        clear hSA hS1 hT1 hS2 hT2 hb1 hb2 hro
        refine wpAnyH_done (by kernel_rfl) ?_ _
        have HB2 := Lib.hid (HB.out.trans (lB.out.mono HB.out.size))
        obtain ⟨g, rfl⟩ := lR.out.slice (by simp)
        have n0 := lR.out.at (i := 0) rfl
        have n7 := lR.out.at (i := 7) rfl
        clear lB lR HB HRW
        generalize nAt s a 4 = M at *
        generalize nAt s (a + 20) 2 = N at *
        have hq : IntKind.i64.wrap (N : Int) = N := by rw [IntKind.wrap_i64]; omega
        by_cases hm : M = 101010256
        · have hm1 : (((M : Nat) : Int) == 101010256) = true := by rw [beq_iff_eq]; omega
          by_cases hn : N = s.size - 22 - a
          · have hnd : ((N : Int) == (s.size : Int) - (a : Int) - 22) = true := by rw [beq_iff_eq]; omega
            have ht : isEnd s a = true := by rw [HIE1.out, decide_eq_true hn, decide_eq_true hm]; rfl
            have HA : Hid (lastI s = (a : Int)) := by show _ = _; rw [HL.out, HK1.out, HSK1.out, if_pos ht]
            have hnn : (N : Int) = (s.size : Int) - (a : Int) - 22 := by omega
            have HNN := Lib.hid hnn
            clear ht hn hnn
            go_wp2_with fail
            go_ret
            rw [HA.out]
            exact ⟨rfl, HB2.out⟩
          · have hnd : ((N : Int) == (s.size : Int) - (a : Int) - 22) = false := by rw [beq_eq_false_iff_ne]; omega
            have hf : isEnd s a = false := by rw [HIE1.out, decide_eq_false hn, Bool.and_false]
            have HS2 : Hid (seekE s (s.size - 21) = seekE s a) := by show _ = _; rw [HK1.out, HSK1.out, if_neg (by rw [hf]; decide)]
            have hnn : ¬ (N : Int) = (s.size : Int) - (a : Int) - 22 := by omega
            clear hf
            go_wp2_with fail
            go_roundw
            case rel => exact ⟨a, by omega, by go_num, HS2.out, HB2.out⟩
            case measure => (simp [intOf]) <;> omega
        · have hm1 : (((M : Nat) : Int) == 101010256) = false := by rw [beq_eq_false_iff_ne]; omega
          have hf : isEnd s a = false := by rw [HIE1.out, decide_eq_false hm, Bool.false_and]
          have HS2 : Hid (seekE s (s.size - 21) = seekE s a) := by show _ = _; rw [HK1.out, HSK1.out, if_neg (by rw [hf]; decide)]
          clear hf
          go_wp2_with fail
          go_roundw
          case rel => exact ⟨a, by omega, by go_num, HS2.out, HB2.out⟩
          case measure => (simp [intOf]) <;> omega
  · have HL : Hid (lastI s = -1) := by
      show _ = _
      unfold lastI lastE
      rw [if_neg h22]
    go_enter Try.func60, Try.ntmps60
    go_wp2
    go_loop [3] (fun v => v = .int .i64 ((s.size : Int) - 22)) (fun _ => 0)
    case atStart => rfl
    case round =>
      obtain rfl := hrel
      have hneg : (s.size : Int) - 22 < 0 := by omega
      have hnd : decide ((0 : Int) ≤ (s.size : Int) - 22) = false := decide_eq_false (by omega)
      go_wp2_with fail
      go_ret
      rw [HL.out]
      exact ⟨rfl, Below.refl _ _⟩
end Go.Proofs.Ytklmfncljebgnaa
