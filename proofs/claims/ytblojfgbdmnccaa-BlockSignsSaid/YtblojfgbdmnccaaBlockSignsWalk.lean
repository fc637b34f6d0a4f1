/-
  The walk of BlockSigns: it returns true, whatever the number and the tokens.
-/
import Derived.Test.YtblojfgbdmnccaaBlkF
namespace Go.Proofs.Ytblojfgbdmnccaa
set_option maxRecDepth 100000
open Go.Joins Go.RowKit Go.Deep

set_option maxHeartbeats 16000000 in
theorem blockSigns_walk (x : Int) (A : Option Addr) (n cap : Nat) (f : Nat → Tok) (w : World) (hx : -9223372036854775808 ≤ x ∧ x ≤ 9223372036854775807) (hT : Toks w A n f) :
    Calls Try.prog 10 #[.int .i64 x, .slice A n cap] w fun e w' => e = .returned (.bool true) ∧ Below w.heap.size w w' := by
  by_cases h1 : 400 < n
  · have g1 : decide ((400 : Int) < (n : Int)) = true := decide_eq_true (by omega)
    have g2 : decide (400 < n) = true := decide_eq_true h1
    go_enter Try.func10, Try.ntmps10
    go_wp2_with fail
    refine (awake8_any _).mono ?_; rintro e w1 ⟨rfl, rfl⟩
    go_wp2
    go_ret
    exact ⟨rfl, Below.refl _ _⟩
  · have g1 : decide ((400 : Int) < (n : Int)) = false := decide_eq_false (by omega)
    have g2 : decide (400 < n) = false := decide_eq_false h1
    have hn4 : n ≤ 400 := by omega
    have hz1 := zeroA286
    have hz2 := zeroA30
    have HL := Lib.hid (blen_any x w)
    have HL2 := Lib.hid (rlen_any x w)
    have HD := Lib.hid (bdist_any x w)
    have HD2 := Lib.hid (rdist_any x hx w)
    have HT := Lib.hid hT
    have HC := Lib.hid (counts_any A n cap f w hT (by omega))
    have HRC := Lib.hid (fun W A c (h : Toks W A n f) => rcounts_any A n c f W h (by omega))
    generalize lenT x = lt at *
    generalize dstT x = dt at *
    obtain ⟨l1, l2, l3⟩ := lt
    obtain ⟨d1, d2, d3⟩ := dt
    simp only at HL HL2 HD HD2
    clear hT hx h1
    go_enter Try.func10, Try.ntmps10
    go_wp2_with fail
    refine (awake8_any _).mono ?_; rintro e w1 ⟨rfl, rfl⟩
    go_wp2_with fail
    refine (HL.out).mono ?_; rintro e w1 ⟨rfl, rfl⟩
    go_wp2_with fail
    refine (HL2.out).mono ?_; rintro e w1 ⟨rfl, rfl⟩
    go_wp2_with fail
    refine (HD.out).mono ?_; rintro e w1 ⟨rfl, rfl⟩
    go_wp2_with fail
    refine (HD2.out).mono ?_; rintro e w1 ⟨rfl, rfl⟩
    go_wp2_with fail
    refine (HC.out).mono ?_; rintro e w2 ⟨rfl, hb2⟩
    have hx1 := heap_alloc_new w2 (.cells (arrU (fun _ => 0) 286) 81)
    have hs1 : (w2.alloc (.cells (arrU (fun _ => 0) 286) 81)).heap.size = w2.heap.size + 1 := by simp
    have hx2 := heap_alloc_new (w2.alloc (.cells (arrU (fun _ => 0) 286) 81)) (.cells (arrU (fun _ => 0) 30) 82)
    have hx12 := (Below.heap_alloc (w2.alloc (.cells (arrU (fun _ => 0) 286) 81)) (.cells (arrU (fun _ => 0) 30) 82) w2.heap.size (by rw [hs1]; omega)).trans hx1
    rw [hs1] at hx2
    have HX1 := Lib.hid hx12
    have HX2 : Hid ((((w2.alloc (.cells (arrU (fun _ => 0) 286) 81)).alloc (.cells (arrU (fun _ => 0) 30) 82)).setRow w2.heap.size (arrU (cA f n) 286)).heap[w2.heap.size + 1]? = some (.cells (arrU (fun _ => 0) 30) 82 (0, 0))) := (setRow_other _ _ _ _ (by omega)).trans hx2
    have HBB : Hid (Below w.heap.size w ((w2.alloc (.cells (arrU (fun _ => 0) 286) 81)).alloc (.cells (arrU (fun _ => 0) 30) 82))) := (hb2.alloc hb2.size _).alloc (by have := hb2.size; simp; omega) _
    have HW2 : Hid (w.heap.size ≤ w2.heap.size) := hb2.size
    clear hx1 hx2 hx12 hs1 hb2 HC
    go_wp2_with first
      | (refine wpList_store_row rfl 81 (.tmp 17) (.tmp 53) rfl w2.heap.size (arrU (cA f n) 286) rfl rfl 81 (arrU (fun _ => 0) 286) HX1.out (infoA286 _) (by rw [arrU_size, arrU_size]) (arrU_one _ _) ?_)
      | (refine wpList_store_row rfl 82 (.tmp 18) (.tmp 54) rfl (w2.heap.size + 1) (arrU (cB f n) 30) rfl rfl 82 (arrU (fun _ => 0) 30) HX2.out (infoA30 _) (by rw [arrU_size, arrU_size]) (arrU_one _ _) ?_)
    have HA3 : Hid ((((((w2.alloc (.cells (arrU (fun _ => 0) 286) 81)).alloc (.cells (arrU (fun _ => 0) 30) 82)).setRow w2.heap.size (arrU (cA f n) 286)).setRow (w2.heap.size + 1) (arrU (cB f n) 30)).heap[w2.heap.size]?) = some (.cells (arrU (cA f n) 286) 81 (0, 0))) := (setRow_other _ _ _ _ (by omega)).trans (setRow_heap _ _ _ _ _ _ HX1.out)
    have HB3 : Hid ((((((w2.alloc (.cells (arrU (fun _ => 0) 286) 81)).alloc (.cells (arrU (fun _ => 0) 30) 82)).setRow w2.heap.size (arrU (cA f n) 286)).setRow (w2.heap.size + 1) (arrU (cB f n) 30)).heap[w2.heap.size + 1]?) = some (.cells (arrU (cB f n) 30) 82 (0, 0))) := setRow_heap _ _ _ _ _ _ HX2.out
    have HW3 : Hid (Below w.heap.size w ((((w2.alloc (.cells (arrU (fun _ => 0) 286) 81)).alloc (.cells (arrU (fun _ => 0) 30) 82)).setRow w2.heap.size (arrU (cA f n) 286)).setRow (w2.heap.size + 1) (arrU (cB f n) 30))) := below_setRow (below_setRow HBB.out HW2.out _) (Nat.le_succ_of_le HW2.out) _
    have HT3 := Lib.hid (HT.out.below (Nat.le_refl _) HW3.out)
    clear HX1 HX2 HBB
    generalize (((w2.alloc (.cells (arrU (fun _ => 0) 286) 81)).alloc (.cells (arrU (fun _ => 0) 30) 82)).setRow w2.heap.size (arrU (cA f n) 286)).setRow (w2.heap.size + 1) (arrU (cB f n) 30) = w3 at *
    refine (to8_any A n cap f w3 HT3.out (by omega)).mono ?_; rintro e w4 ⟨A4, c4, rfl, hT4, hb4⟩
    have HA4 := Lib.hid ((hb4.block w2.heap.size (Array.getElem?_eq_some_iff.1 HA3.out).1).trans HA3.out)
    have HB4 := Lib.hid ((hb4.block (w2.heap.size + 1) (Array.getElem?_eq_some_iff.1 HB3.out).1).trans HB3.out)
    have HW4 := Lib.hid (HW3.out.trans (hb4.mono HW3.out.size))
    have HR4 := Lib.hid (HRC.out w4 A4 c4 hT4)
    clear hT4 hb4 HA3 HB3 HRC
    go_wp2_with fail
    refine (HR4.out).mono ?_; rintro e w5 ⟨rfl, hb5⟩
    have HA5 := Lib.hid ((hb5.block w2.heap.size (Array.getElem?_eq_some_iff.1 HA4.out).1).trans HA4.out)
    have HB5 := Lib.hid ((hb5.block (w2.heap.size + 1) (Array.getElem?_eq_some_iff.1 HB4.out).1).trans HB4.out)
    have HW5 := Lib.hid (HW4.out.trans (hb5.mono HW4.out.size))
    have HL5 : Hid (w2.heap.size + 1 < w5.heap.size) := (Array.getElem?_eq_some_iff.1 HB5.out).1
    have hx1 := heap_alloc_new w5 (.cells (arrU (fun _ => 0) 286) 81)
    have hs1 : (w5.alloc (.cells (arrU (fun _ => 0) 286) 81)).heap.size = w5.heap.size + 1 := by simp
    have hx2 := heap_alloc_new (w5.alloc (.cells (arrU (fun _ => 0) 286) 81)) (.cells (arrU (fun _ => 0) 30) 82)
    have hx12 := (Below.heap_alloc (w5.alloc (.cells (arrU (fun _ => 0) 286) 81)) (.cells (arrU (fun _ => 0) 30) 82) w5.heap.size (by rw [hs1]; omega)).trans hx1
    have hal : ∀ i, i < w5.heap.size → ((w5.alloc (.cells (arrU (fun _ => 0) 286) 81)).alloc (.cells (arrU (fun _ => 0) 30) 82)).heap[i]? = w5.heap[i]? := fun i hi => (Below.heap_alloc _ _ i (by rw [hs1]; omega)).trans (Below.heap_alloc _ _ i hi)
    rw [hs1] at hx2
    have HX1 := Lib.hid hx12
    have HX2 : Hid ((((w5.alloc (.cells (arrU (fun _ => 0) 286) 81)).alloc (.cells (arrU (fun _ => 0) 30) 82)).setRow w5.heap.size (arrU (cA f n) 286)).heap[w5.heap.size + 1]? = some (.cells (arrU (fun _ => 0) 30) 82 (0, 0))) := (setRow_other _ _ _ _ (by omega)).trans hx2
    have HA6 : Hid ((((((w5.alloc (.cells (arrU (fun _ => 0) 286) 81)).alloc (.cells (arrU (fun _ => 0) 30) 82)).setRow w5.heap.size (arrU (cA f n) 286)).setRow (w5.heap.size + 1) (arrU (cB f n) 30)).heap[w5.heap.size]?) = some (.cells (arrU (cA f n) 286) 81 (0, 0))) := (setRow_other _ _ _ _ (by omega)).trans (setRow_heap _ _ _ _ _ _ HX1.out)
    have HB6 : Hid ((((((w5.alloc (.cells (arrU (fun _ => 0) 286) 81)).alloc (.cells (arrU (fun _ => 0) 30) 82)).setRow w5.heap.size (arrU (cA f n) 286)).setRow (w5.heap.size + 1) (arrU (cB f n) 30)).heap[w5.heap.size + 1]?) = some (.cells (arrU (cB f n) 30) 82 (0, 0))) := setRow_heap _ _ _ _ _ _ HX2.out
    have HA7 : Hid ((((((w5.alloc (.cells (arrU (fun _ => 0) 286) 81)).alloc (.cells (arrU (fun _ => 0) 30) 82)).setRow w5.heap.size (arrU (cA f n) 286)).setRow (w5.heap.size + 1) (arrU (cB f n) 30)).heap[w2.heap.size]?) = some (.cells (arrU (cA f n) 286) 81 (0, 0))) := by
      have := HL5.out
      exact (setRow_other _ _ _ _ (by omega)).trans ((setRow_other _ _ _ _ (by omega)).trans ((hal _ (by omega)).trans HA5.out))
    have HB7 : Hid ((((((w5.alloc (.cells (arrU (fun _ => 0) 286) 81)).alloc (.cells (arrU (fun _ => 0) 30) 82)).setRow w5.heap.size (arrU (cA f n) 286)).setRow (w5.heap.size + 1) (arrU (cB f n) 30)).heap[w2.heap.size + 1]?) = some (.cells (arrU (cB f n) 30) 82 (0, 0))) := by
      have := HL5.out
      exact (setRow_other _ _ _ _ (by omega)).trans ((setRow_other _ _ _ _ (by omega)).trans ((hal _ (by omega)).trans HB5.out))
    have HW6 : Hid (Below w.heap.size w ((((w5.alloc (.cells (arrU (fun _ => 0) 286) 81)).alloc (.cells (arrU (fun _ => 0) 30) 82)).setRow w5.heap.size (arrU (cA f n) 286)).setRow (w5.heap.size + 1) (arrU (cB f n) 30))) := by
      have h1 := HW5.out.size
      exact below_setRow (below_setRow ((HW5.out.alloc h1 _).alloc (by simp; omega) _) h1 _) (by omega) _
    clear hx1 hx2 hx12 hs1 hb5 hal HR4 HA4 HB4 HA5 HB5
    go_wp2_with first
      | (refine wpList_store_row rfl 81 (.tmp 19) (.tmp 59) rfl w5.heap.size (arrU (cA f n) 286) rfl rfl 81 (arrU (fun _ => 0) 286) HX1.out (infoA286 _) (by rw [arrU_size, arrU_size]) (arrU_one _ _) ?_)
      | (refine wpList_store_row rfl 82 (.tmp 20) (.tmp 60) rfl (w5.heap.size + 1) (arrU (cB f n) 30) rfl rfl 82 (arrU (fun _ => 0) 30) HX2.out (infoA30 _) (by rw [arrU_size, arrU_size]) (arrU_one _ _) ?_)
    generalize (((w5.alloc (.cells (arrU (fun _ => 0) 286) 81)).alloc (.cells (arrU (fun _ => 0) 30) 82)).setRow w5.heap.size (arrU (cA f n) 286)).setRow (w5.heap.size + 1) (arrU (cB f n) 30) = w6 at *
    generalize hA : arrU (cA f n) 286 = RA at *
    generalize hB : arrU (cB f n) 30 = RB at *
    have hiA : (Try.prog.info? 81).map (·.size) = some RA.size := by rw [← hA]; exact infoA286 _
    have hiB : (Try.prog.info? 82).map (·.size) = some RB.size := by rw [← hB]; exact infoA30 _
    have HEA : Hid (∀ w, (Op.equalIn 10000 81 (.agg RA) (.agg RA)).run Try.prog w = .ok true w) := Lib.hid (by rw [← hA]; exact same286 _)
    have HEB : Hid (∀ w, (Op.equalIn 10000 82 (.agg RB) (.agg RB)).run Try.prog w = .ok true w) := Lib.hid (by rw [← hB]; exact same30 _)
    have HEB2 : Hid (∀ w, (binOp .eql 82 (.agg RB) (.agg RB)).run Try.prog w = .ok (.bool true) w) := Lib.hid (by rw [← hB]; exact equal30 _)
    clear hA hB
    go_wp2_with fail
    rename_i hK
    refine wp_load_row 81 (.tmp 17) rfl w2.heap.size rfl 81 RA (0, 0) _ HA7.out Try.underlying81 rfl hiA ?_
    refine hK _ _ ?_
    clear hK
    go_wp2_with fail
    rename_i hK
    refine wp_load_row 81 (.tmp 19) rfl w5.heap.size rfl 81 RA (0, 0) _ HA6.out Try.underlying81 rfl hiA ?_
    refine hK _ _ ?_
    clear hK
    go_wp2_with fail
    rename_i hK
    rw [HEA.out]
    refine hK _ _ ?_
    clear hK
    trace "C"
    go_step
    go_step
    rename_i hK
    refine hK _ _ ?_
    clear hK
    trace "C2"
    first
      | (go_step; go_step; rename_i hK; refine hK _ _ ?_; clear hK; refine wpList_load_row_g w6 (by rfl) 82 (.tmp 18) rfl (w2.heap.size + 1) (by rfl) 82 RB (0, 0) _ HB7.out Try.underlying82 rfl hiB ?_)
      | (go_step; rename_i hK; refine hK _ _ ?_; clear hK; refine wpList_load_row_g w6 (by rfl) 82 (.tmp 18) rfl (w2.heap.size + 1) (by rfl) 82 RB (0, 0) _ HB7.out Try.underlying82 rfl hiB ?_)
      | (trace_state; fail)
    trace "D"
    refine wpList_load_row_g w6 (by rfl) 82 (.tmp 20) rfl (w5.heap.size + 1) (by rfl) 82 RB (0, 0) _ HB6.out Try.underlying82 rfl hiB ?_
    trace "D2"
    refine wpList_eql_arr_g w6 (by rfl) 82 82 (.tmp 95) (.tmp 96) rfl RB (by rfl) (by rfl) guard30 (HEB2.out w6) ?_
    trace "E"
    go_wp2_with fail
    trace "F"
    go_ret
    exact ⟨rfl, HW6.out⟩
end Go.Proofs.Ytblojfgbdmnccaa
