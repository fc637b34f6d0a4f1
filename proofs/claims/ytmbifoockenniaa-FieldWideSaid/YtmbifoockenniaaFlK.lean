/-
  Contracts: the document's ParseWide; the program's answer is it.
-/
import Derived.Test.YtmbifoockenniaaFlJ
namespace Go.Proofs.Ytmbifoockenniaa
set_option maxRecDepth 100000
open Go.RowKit Go.Joins

def yk (s : ByteArray) (q : Nat → Bool) (k j : Nat) : Nat := if j < k then xk s q j else 0
theorem yk_set (s : ByteArray) (q : Nat → Bool) (k : Nat) (hk : k < 4) : (#[.int .u64 (yk s q k 0 : Nat), .int .u64 (yk s q k 1 : Nat), .int .u64 (yk s q k 2 : Nat), .int .u64 (yk s q k 3 : Nat)] : Array Value).setIfInBounds k (.int .u64 (xk s q k : Nat)) = #[.int .u64 (yk s q (k + 1) 0 : Nat), .int .u64 (yk s q (k + 1) 1 : Nat), .int .u64 (yk s q (k + 1) 2 : Nat), .int .u64 (yk s q (k + 1) 3 : Nat)] := by
  have : k = 0 ∨ k = 1 ∨ k = 2 ∨ k = 3 := by omega
  rcases this with rfl | rfl | rfl | rfl <;> simp [yk]
theorem yk_same (s : ByteArray) (q : Nat → Bool) (k j : Nat) (h : q k = false) : yk s q (k + 1) j = yk s q k j := by
  unfold yk
  by_cases h1 : j < k
  · rw [if_pos h1, if_pos (by omega)]
  · rw [if_neg h1]
    by_cases h2 : j = k
    · subst h2
      rw [if_pos (by omega)]
      unfold xk
      rw [if_neg (by rw [h]; decide)]
    · rw [if_neg (by omega)]
theorem wRes_yes {s : ByteArray} {q : Nat → Bool} {K : IntKind} (h : wk q 4 = s.size) : wRes s q K = .tuple #[.agg #[.int .u64 (xk s q 0 : Nat), .int .u64 (xk s q 1 : Nat), .int .u64 (xk s q 2 : Nat), .int K (xk s q 3 : Nat)], .int .i64 0] := if_pos h
theorem wRes_no {s : ByteArray} {q : Nat → Bool} {K : IntKind} (h : ¬ wk q 4 = s.size) : wRes s q K = .tuple #[.agg #[.int .u64 0, .int .u64 0, .int .u64 0, .int K 0], .int .i64 31] := if_neg h

theorem info_rwide : (Try.prog.info? 59).map (·.size) = some 4 := by kernel_rfl
theorem zero_rwide (w : World) : (zeroValue 59).run Try.prog w = .ok (.agg #[.int .u64 0, .int .u64 0, .int .u64 0, .int .u64 0]) w := by kernel_rfl
theorem rwide_one (a b c d : Int) : (#[Value.int .u64 a, .int .u64 b, .int .u64 c, .int .u64 d] : Array Value).all (·.oneCell') = true := by simp [Value.oneCell']
structure RW (w : World) (s : ByteArray) (q0 q1 q2 q3 : Bool) (q : Nat → Bool) (k : Nat) (t : ByteArray) (wr : World) : Prop where
  txt : nums t = (nums s).drop (wk q k)
  fit : wk q k ≤ s.size
  box : wr.heap[w.heap.size]? = some (.cells #[.bool q0, .bool q1, .bool q2, .bool q3] 55 (0, 0))
  res : wr.heap[w.heap.size + 1]? = some (.cells #[.int .u64 0, .int .u64 0, .int .u64 0, .int .u64 0] 59 (0, 0))
  row : wr.heap[w.heap.size + 2]? = some (.cells #[.int .u64 (yk s q k 0 : Nat), .int .u64 (yk s q k 1 : Nat), .int .u64 (yk s q k 2 : Nat), .int .u64 (yk s q k 3 : Nat)] 59 (0, 0))
  bel : Below w.heap.size w wr

set_option maxHeartbeats 2000000 in
theorem rparseWide_any (s : ByteArray) (q0 q1 q2 q3 : Bool) (_hs : s.size ≤ 1000) (w : World) :
    Calls Try.prog 26 #[.string s, .agg #[.bool q0, .bool q1, .bool q2, .bool q3]] w fun e w' => e = .returned (wRes s (qk q0 q1 q2 q3) .u64) ∧ Below w.heap.size w w' := by
  have HZ := zero_rwide
  have HQ : Hid (∀ k, k < 4 → (#[Value.bool q0, .bool q1, .bool q2, .bool q3] : Array Value)[k]? = some (.bool (qk q0 q1 q2 q3 k))) := fun k hk => by
    have : k = 0 ∨ k = 1 ∨ k = 2 ∨ k = 3 := by omega
    rcases this with rfl | rfl | rfl | rfl <;> rfl
  generalize qk q0 q1 q2 q3 = q at *
  have hb := (((Below.refl w.heap.size w).alloc (Nat.le_refl _) (.cells #[.bool q0, .bool q1, .bool q2, .bool q3] 55)).alloc (by simp) (.cells #[.int .u64 0, .int .u64 0, .int .u64 0, .int .u64 0] 59)).alloc (by simp; omega) (.cells #[.int .u64 0, .int .u64 0, .int .u64 0, .int .u64 0] 59)
  have hx := (Below.heap_alloc ((w.alloc (.cells #[.bool q0, .bool q1, .bool q2, .bool q3] 55)).alloc (.cells #[.int .u64 0, .int .u64 0, .int .u64 0, .int .u64 0] 59)) (.cells #[.int .u64 0, .int .u64 0, .int .u64 0, .int .u64 0] 59) w.heap.size (by simp; omega)).trans ((Below.heap_alloc (w.alloc (.cells #[.bool q0, .bool q1, .bool q2, .bool q3] 55)) (.cells #[.int .u64 0, .int .u64 0, .int .u64 0, .int .u64 0] 59) w.heap.size (by simp)).trans (heap_alloc_new w _))
  have hr := (Below.heap_alloc ((w.alloc (.cells #[.bool q0, .bool q1, .bool q2, .bool q3] 55)).alloc (.cells #[.int .u64 0, .int .u64 0, .int .u64 0, .int .u64 0] 59)) (.cells #[.int .u64 0, .int .u64 0, .int .u64 0, .int .u64 0] 59) (w.heap.size + 1) (by simp)).trans (heap_alloc2_new w (.cells #[.bool q0, .bool q1, .bool q2, .bool q3] 55) (.cells #[.int .u64 0, .int .u64 0, .int .u64 0, .int .u64 0] 59))
  have hy := heap_alloc2_new (w.alloc (.cells #[.bool q0, .bool q1, .bool q2, .bool q3] 55)) (.cells #[.int .u64 0, .int .u64 0, .int .u64 0, .int .u64 0] 59) (.cells #[.int .u64 0, .int .u64 0, .int .u64 0, .int .u64 0] 59)
  have hsz : (w.alloc (.cells #[.bool q0, .bool q1, .bool q2, .bool q3] 55)).heap.size = w.heap.size + 1 := by simp
  rw [hsz] at hy
  have HST : Hid (RW w s q0 q1 q2 q3 q 0 s (((w.alloc (.cells #[.bool q0, .bool q1, .bool q2, .bool q3] 55)).alloc (.cells #[.int .u64 0, .int .u64 0, .int .u64 0, .int .u64 0] 59)).alloc (.cells #[.int .u64 0, .int .u64 0, .int .u64 0, .int .u64 0] 59))) := ⟨rfl, Nat.zero_le _, hx, hr, hy, hb⟩
  clear hb hx hr hy hsz
  go_enter Try.func26, Try.ntmps26
  go_wp2_with fail
  generalize ((w.alloc (.cells #[.bool q0, .bool q1, .bool q2, .bool q3] 55)).alloc (.cells #[.int .u64 0, .int .u64 0, .int .u64 0, .int .u64 0] 59)).alloc (.cells #[.int .u64 0, .int .u64 0, .int .u64 0, .int .u64 0] 59) = w0 at *
  go_loopw [0, 7] (fun t i wr => ∃ (k : Nat) (t' : ByteArray), k ≤ 4 ∧ t = .string t' ∧ i = .int .i64 (k : Nat) ∧ RW w s q0 q1 q2 q3 q k t' wr) (fun _ i _ => 4 - (intOf i).toNat)
  case atStart => exact ⟨0, s, by omega, rfl, rfl, HST.out⟩
  case round =>
    clear HST
    obtain ⟨k, t, hk, rfl, rfl, hrx⟩ := hrel
    have hts : t.size = s.size - wk q k := by rw [← nums_len, hrx.txt, List.length_drop, nums_len]
    have hfit := hrx.fit
    have hpm := wk_mono q k 4 hk
    have HRX := Lib.hid hrx
    clear hrx
    by_cases hk4 : k < 4
    · have hz : (((k : Nat) : Int) == 3) = decide (k = 3) := by
        rw [Bool.eq_iff_iff, beq_iff_eq, decide_eq_true_iff]
        omega
      have hq : wr.cell? ⟨w.heap.size, k, none⟩ = some (.bool (q k)) := by
        rw [cell_of_row _ _ k _ _ _ HRX.out.box]
        exact HQ.out k hk4
      have HNK : Hid (nk k = if decide (k = 3) = true then 4 else 8) := by
        show nk k = _
        unfold nk
        by_cases h : k = 3
        · rw [if_pos h, if_pos (by simpa using h)]
        · rw [if_neg h, if_neg (by simpa using h)]
      have HWK : Hid (wk q (k + 1) = wk q k + if q k = true then nk k else 0) := rfl
      have HXK : Hid (xk s q k = if q k = true then numL (((nums s).drop (wk q k)).take (nk k)) else 0) := rfl
      have HSM : Hid (q k = false → ∀ j, yk s q (k + 1) j = yk s q k j) := fun h j => yk_same s q k j h
      have hmono := wk_mono q (k + 1) 4 hk4
      generalize decide (k = 3) = b at *
      generalize hQK : q k = qq at *
      have HTS := Lib.hid hts
      have HMO := Lib.hid hmono
      have HPM := Lib.hid hpm
      clear hts hpm hmono hQK
      cases qq with
      | false =>
        have HN : Hid (RW w s q0 q1 q2 q3 q (k + 1) t wr) := by
          have h := HRX.out
          have e : wk q (k + 1) = wk q k := by rw [HWK.out]; rfl
          have es := HSM.out rfl
          exact ⟨by rw [e]; exact h.txt, by rw [e]; exact h.fit, h.box, h.res, by rw [es, es, es, es]; exact h.row, h.bel⟩
        clear HSM HWK HXK
        cases b
        all_goals
          go_wp2_with fail
          go_roundw
          case rel => exact ⟨k + 1, t, by omega, rfl, by go_num, HN.out⟩
          case measure => simp [intOf]; omega
      | true =>
        have hw1 : wk q (k + 1) = wk q k + nk k := HWK.out
        have hnk : nk k = 4 ∨ nk k = 8 := by unfold nk; split <;> simp
        by_cases h4 : wk q k + nk k ≤ s.size
        · have hsz : (t.extract 0 (nk k)).size ≤ 8 := by rw [ByteArray.size_extract]; omega
          have HSG := Lib.hid (fun w => rnumber_any _ hsz w)
          have hv : numL (nums (t.extract 0 (nk k))) = xk s q k := by
            rw [HXK.out, if_pos rfl, nums_ext, HRX.out.txt]
            rfl
          rw [hv] at HSG
          have hnt : nums (t.extract (nk k) t.size) = (nums s).drop (wk q (k + 1)) := by
            rw [nums_ext, HRX.out.txt, List.drop_drop, List.take_of_length_le (by rw [List.length_drop, nums_len]; have := HTS.out; omega), hw1]
          have HNT := Lib.hid hnt
          have HFT : Hid (wk q (k + 1) ≤ s.size) := by show _ ≤ _; omega
          have hle : nk k ≤ t.size := by have := HTS.out; omega
          have c1 : wr.cell? ⟨w.heap.size + 2, k, none⟩ = some (.int .u64 0) := by
            rw [cell_of_row wr _ k _ _ _ HRX.out.row]
            have : k = 0 ∨ k = 1 ∨ k = 2 ∨ k = 3 := by omega
            rcases this with rfl | rfl | rfl | rfl <;> simp [yk]
          have f1 := frozen_of_row wr (w.heap.size + 2) k _ _ HRX.out.row
          have hnb := HNK.out
          clear hv hnt h4 hw1 hnk HSM HWK HXK HNK
          cases b
          all_goals
            rw [hnb] at HSG HNT hle
            clear hnb
            simp only [Bool.false_eq_true, if_false, if_true] at HSG HNT hle
            go_wp2_with fail
            refine (HSG.out _).mono ?_; rintro r y1 ⟨rfl, rfl⟩
            go_wp2_with fail
            go_roundw
            case rel =>
              refine ⟨k + 1, _, by omega, by rfl, by go_num, HNT.out, HFT.out, ?_, ?_, ?_, HRX.out.bel.setCell (by show _ ≤ w.heap.size + 2; omega) _⟩
              · rw [Below.heap_setCell _ _ _ _ (by show w.heap.size ≠ w.heap.size + 2; omega)]; exact HRX.out.box
              · rw [Below.heap_setCell _ _ _ _ (by show w.heap.size + 1 ≠ w.heap.size + 2; omega)]; exact HRX.out.res
              · rw [← yk_set s q k hk4]
                exact heap_setCell_same wr _ k _ _ _ HRX.out.row
            case measure => simp [intOf]; omega
        · have HO := Lib.hid (wRes_no (s := s) (q := q) (K := .u64) (by have := HMO.out; omega))
          have hlt : t.size < nk k := by have := HTS.out; omega
          have hnb := HNK.out
          clear h4 hw1 hnk HSM HWK HXK HNK
          cases b
          all_goals
            rw [hnb] at hlt
            clear hnb
            simp only [Bool.false_eq_true, if_false, if_true] at hlt
            go_wp2_with (refine wpList_store_row rfl 59 (.tmp 4) (.tmp 23) rfl (w.heap.size + 1) #[.int .u64 0, .int .u64 0, .int .u64 0, .int .u64 0] rfl rfl 59 #[.int .u64 0, .int .u64 0, .int .u64 0, .int .u64 0] HRX.out.res info_rwide rfl (rwide_one _ _ _ _) ?_)
            exact bodyPost_ret (results_ct_row rfl _ _ (w.heap.size + 1) 59 #[.int .u64 0, .int .u64 0, .int .u64 0, .int .u64 0] (0, 0) _ rfl (setRow_heap _ _ _ _ _ _ HRX.out.res) Try.underlying59 rfl info_rwide) rfl ⟨by rw [HO.out]; rfl, below_setRow HRX.out.bel (Nat.le_succ _) _⟩
    · obtain rfl : k = 4 := by omega
      by_cases hend : wk q 4 = s.size
      · have HO := Lib.hid (wRes_yes (s := s) (q := q) (K := .u64) hend)
        have hz2 : decide ((0 : Int) < (t.size : Int)) = false := decide_eq_false (by omega)
        have hz3 : ¬ 0 < t.size := by omega
        have HROW : Hid (wr.heap[w.heap.size + 2]? = some (.cells #[.int .u64 (xk s q 0 : Nat), .int .u64 (xk s q 1 : Nat), .int .u64 (xk s q 2 : Nat), .int .u64 (xk s q 3 : Nat)] 59 (0, 0))) := HRX.out.row
        generalize xk s q 0 = v0 at *
        generalize xk s q 1 = v1 at *
        generalize xk s q 2 = v2 at *
        generalize xk s q 3 = v3 at *
        clear hend hts hfit hpm
        go_wp2_with (first | (refine wpList_load_row rfl 59 (.tmp 6) rfl (w.heap.size + 2) rfl 59 _ (0, 0) _ HROW.out Try.underlying59 rfl info_rwide ?_) | (refine wpList_store_row rfl 59 (.tmp 4) (.tmp 37) rfl (w.heap.size + 1) #[.int .u64 (v0 : Nat), .int .u64 (v1 : Nat), .int .u64 (v2 : Nat), .int .u64 (v3 : Nat)] rfl rfl 59 #[.int .u64 0, .int .u64 0, .int .u64 0, .int .u64 0] HRX.out.res info_rwide rfl (rwide_one _ _ _ _) ?_))
        exact bodyPost_ret (results_ct_row rfl _ _ (w.heap.size + 1) 59 #[.int .u64 (v0 : Nat), .int .u64 (v1 : Nat), .int .u64 (v2 : Nat), .int .u64 (v3 : Nat)] (0, 0) _ rfl (setRow_heap _ _ _ _ _ _ HRX.out.res) Try.underlying59 rfl info_rwide) rfl ⟨by rw [HO.out]; rfl, below_setRow HRX.out.bel (Nat.le_succ _) _⟩
      · have HO := Lib.hid (wRes_no (s := s) (q := q) (K := .u64) hend)
        have hgt : 0 < t.size := by omega
        clear hend hts hfit hpm
        go_wp2_with (refine wpList_store_row rfl 59 (.tmp 4) (.tmp 36) rfl (w.heap.size + 1) #[.int .u64 0, .int .u64 0, .int .u64 0, .int .u64 0] rfl rfl 59 #[.int .u64 0, .int .u64 0, .int .u64 0, .int .u64 0] HRX.out.res info_rwide rfl (rwide_one _ _ _ _) ?_)
        exact bodyPost_ret (results_ct_row rfl _ _ (w.heap.size + 1) 59 #[.int .u64 0, .int .u64 0, .int .u64 0, .int .u64 0] (0, 0) _ rfl (setRow_heap _ _ _ _ _ _ HRX.out.res) Try.underlying59 rfl info_rwide) rfl ⟨by rw [HO.out]; rfl, below_setRow HRX.out.bel (Nat.le_succ _) _⟩
end Go.Proofs.Ytmbifoockenniaa
