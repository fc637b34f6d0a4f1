/-
  Contracts of package header: ParseDescriptor.
-/
import Derived.Test.YtklmfncljebgnaaHdQ
namespace Go.Proofs.Ytklmfncljebgnaa
set_option maxRecDepth 100000
set_option linter.unusedSimpArgs false
open Go.RowKit Go.Joins Go.Deep Go.Op
/-- How many bytes each of its sizes has. -/
def dw (wide : Bool) : Nat := if wide then 8 else 4
def fitD (wide : Bool) (s : ByteArray) : Prop := 8 + dw wide + dw wide ≤ s.size
instance (wide : Bool) (s : ByteArray) : Decidable (fitD wide s) := by unfold fitD; infer_instance
def hdD (wide : Bool) (s : ByteArray) : Array Value := #[.int .u32 (nAt s 4 4 : Nat), .int .u64 (nAt s 8 (dw wide) : Nat), .int .u64 (nAt s (8 + dw wide) (dw wide) : Nat)]
def psD (wide : Bool) (s : ByteArray) : Value := if begB s 134695760 = true then (if fitD wide s then .tuple #[.agg (hdD wide s), .int .i64 (8 + dw wide + dw wide : Nat), .int .i64 0] else .tuple #[.agg #[.int .u32 0, .int .u64 0, .int .u64 0], .int .i64 0, .int .i64 3]) else .tuple #[.agg #[.int .u32 0, .int .u64 0, .int .u64 0], .int .i64 0, .int .i64 4]
theorem psD_yes {b : Bool} {s : ByteArray} {v1 v2 v3 : Nat} (hb : begB s 134695760 = true) (e1 : v1 = nAt s 4 4) (_ : 8 + dw b ≤ s.size) (e2 : v2 = nAt s 8 (dw b)) (k3 : 8 + dw b + dw b ≤ s.size) (e3 : v3 = nAt s (8 + dw b) (dw b)) : psD b s = .tuple #[.agg #[.int .u32 (v1 : Nat), .int .u64 (v2 : Nat), .int .u64 (v3 : Nat)], .int .i64 ((8 + dw b + dw b : Nat)), .int .i64 0] := by
  unfold psD
  rw [if_pos hb, if_pos (show fitD b s from k3)]
  unfold hdD
  subst e3 e2 e1
  rfl
set_option maxHeartbeats 8000000 in
theorem parseD_any (s : ByteArray) (wide : Bool) (hs : s.size ≤ 1000000) (w : World) :
    Calls Try.prog 19 #[.string s, .bool wide] w fun e w' => e = .returned (psD wide s) ∧ Below w.heap.size w w' := by
  have hsz : s.size ≤ maxLen := by unfold maxLen; omega
  have HL := Lib.hid hsz
  have HBG := Lib.hid (fun w => begin_any s ⟨#[80, 75, 7, 8]⟩ 134695760 (by omega) rfl hsz w)
  have hr0 := heap_alloc_new w (.cells #[.int .u32 0, .int .u64 0, .int .u64 0] 45)
  have HW0 : Hid (Below w.heap.size w (w.alloc (.cells #[.int .u32 0, .int .u64 0, .int .u64 0] 45))) := (Below.refl _ _).alloc (Nat.le_refl _) _
  have HSZ : Hid ((w.alloc (.cells #[.int .u32 0, .int .u64 0, .int .u64 0] 45)).heap.size = w.heap.size + 1) := alloc_size _ _
  have HR0 := Lib.hid hr0
  clear hsz hr0 hs
  go_enter Try.func19, Try.ntmps19
  go_wp2_with fail
  generalize w.alloc (.cells #[.int .u32 0, .int .u64 0, .int .u64 0] 45) = w0 at *
  refine (HBG.out _).mono ?_; rintro r y0 ⟨rfl, C0⟩
  have hB0 := below_then' HW0.out HSZ.out C0.bel
  have hR0 : y0.heap[w.heap.size]? = some (.cells #[.int .u32 0, .int .u64 0, .int .u64 0] 45 (0, 0)) := (C0.bel.block _ (by rw [HSZ.out]; omega)).trans HR0.out
  have HC0 := Lib.hid C0
  have HB := Lib.hid hB0
  have HR := Lib.hid hR0
  clear C0 hB0 hR0 HBG HR0
  generalize hbb : begB s 134695760 = b at *
  have HBB := Lib.hid hbb
  clear hbb
  cases b with
  | false =>
    have HA : Hid (psD wide s = .tuple #[.agg #[.int .u32 0, .int .u64 0, .int .u64 0], .int .i64 0, .int .i64 4]) := if_neg (by rw [HBB.out]; decide)
    go_wp2_with (refine wpList_store_row rfl 45 (.tmp 4) (.tmp 17) rfl w.heap.size #[.int .u32 0, .int .u64 0, .int .u64 0] rfl rfl 45 #[.int .u32 0, .int .u64 0, .int .u64 0] HR.out info_D rfl (by simp [Value.oneCell']) ?_)
    rw [HA.out]
    exact bodyPost_ret (results_ctt_row rfl _ _ w.heap.size 45 #[.int .u32 0, .int .u64 0, .int .u64 0] (0, 0) _ rfl (heap_setRow_same _ _ _ _ _ HR.out) Try.underlying45 rfl info_D) rfl ⟨rfl, below_setRow HB.out (Nat.le_refl _) _⟩
  | true =>
    have W0 : Wk w0 s (fitD wide s) 4 (4 ≤ s.size ∧ nAt s 0 4 = 134695760) y0 := wk_fresh 134695760 (fun f => by unfold fitD at f; omega) HBB.out HC0.out
    have HWK := Lib.hid W0
    have hlt := W0.lt
    have N1 : Hid (w.heap.size ≠ w0.heap.size) := by show _ ≠ _; rw [HSZ.out]; omega
    have N5 : Hid (w.heap.size ≤ w0.heap.size) := by show _ ≤ _; rw [HSZ.out]; omega
    have NX : Hid (w0.heap.size < y0.heap.size) := hlt
    clear W0 HW0 HC0 hlt
    go_wp2_with fail
    refine (four_wk HL.out HWK.out (fun f q => by unfold fitD at f; omega)).mono ?_; rintro r y1 ⟨v1, l1, rfl, W, G⟩
    replace HWK := Lib.hid W
    replace HR := Lib.hid (stays G N1.out HR.out)
    replace HB := Lib.hid (HB.out.grown G HB.out.size (fun k hk => by injection hk with hk; subst hk; exact N5.out))
    have hgs := G.size
    clear W G
    have HWL := HWK.out.lt
    have HH : Hid ((y1.alloc (.cells #[.int .u32 (v1 : Nat), .int .u64 0, .int .u64 0] 45)).heap[y1.heap.size]? = some (.cells #[.int .u32 (v1 : Nat), .int .u64 0, .int .u64 0] 45 (0, 0))) := heap_alloc_new _ _
    replace HWK := Lib.hid (HWK.out.below (w' := y1.alloc (.cells #[.int .u32 (v1 : Nat), .int .u64 0, .int .u64 0] 45)) ((Below.refl _ _).alloc (by omega) _))
    replace HR : Hid ((y1.alloc (.cells #[.int .u32 (v1 : Nat), .int .u64 0, .int .u64 0] 45)).heap[w.heap.size]? = some (.cells #[.int .u32 0, .int .u64 0, .int .u64 0] 45 (0, 0))) := (Below.heap_alloc y1 _ _ (lt_of_some HR.out)).trans HR.out
    replace HB : Hid (Below w.heap.size w (y1.alloc (.cells #[.int .u32 (v1 : Nat), .int .u64 0, .int .u64 0] 45))) := HB.out.alloc HB.out.size _
    have N2 : Hid (y1.heap.size ≠ w0.heap.size) := by show _ ≠ _; omega
    have N3 : Hid (w.heap.size ≠ y1.heap.size) := by show _ ≠ _; have := HSZ.out; omega
    have N4 : Hid (w0.heap.size + 1 ≤ y1.heap.size) := HWL
    have N6 : Hid (w.heap.size ≤ y1.heap.size) := by show _ ≤ _; have := HSZ.out; omega
    clear HWL hgs HSZ
    cases wide with
    | true =>
      have hdw : Hid (dw true = 8) := rfl
      go_wp2_with fail
      generalize y1.alloc (.cells #[.int .u32 (v1 : Nat), .int .u64 0, .int .u64 0] 45) = x0 at *
      generalize y1.heap.size = gh at *
      refine (eight_wk HL.out HWK.out (fun f q => by unfold fitD at f; rw [hdw.out] at f; omega)).mono ?_; rintro r y2 ⟨v2, l2, rfl, W, G⟩
      replace HWK := Lib.hid W
      replace HR := Lib.hid (stays G N1.out HR.out)
      replace HH := Lib.hid (stays G N2.out HH.out)
      replace HB := Lib.hid (HB.out.grown G HB.out.size (fun k hk => by injection hk with hk; subst hk; exact N5.out))
      clear W G
      go_wp2_with fail
      refine (eight_wk HL.out HWK.out (fun f q => by unfold fitD at f; rw [hdw.out] at f; omega)).mono ?_; rintro r y3 ⟨v3, l3, rfl, W, G⟩
      replace HWK := Lib.hid W
      replace HR := Lib.hid (stays G N1.out HR.out)
      replace HH := Lib.hid (stays G N2.out HH.out)
      replace HB := Lib.hid (HB.out.grown G HB.out.size (fun k hk => by injection hk with hk; subst hk; exact N5.out))
      clear W G
      have c1 : y3.cell? ⟨gh, 1, none⟩ = some (.int .u64 0) := by rw [Lib.cell_of_heap HH.out]; rfl
      have c2 : y3.cell? ⟨gh, 2, none⟩ = some (.int .u64 0) := by rw [Lib.cell_of_heap HH.out]; rfl
      have q1 := Lib.frozen_of_heap HH.out 1
      have q2 := Lib.frozen_of_heap HH.out 2
      have h0 := HH.out
      have h1 : (y3.setCell ⟨gh, 1, none⟩ (.int .u64 (v2 : Nat))).heap[gh]? = some (.cells #[.int .u32 (v1 : Nat), .int .u64 (v2 : Nat), .int .u64 0] 45 (0, 0)) := Go.heap_setCell_same _ gh 1 _ _ _ h0
      have h2 : ((y3.setCell ⟨gh, 1, none⟩ (.int .u64 (v2 : Nat))).setCell ⟨gh, 2, none⟩ (.int .u64 (v3 : Nat))).heap[gh]? = some (.cells #[.int .u32 (v1 : Nat), .int .u64 (v2 : Nat), .int .u64 (v3 : Nat)] 45 (0, 0)) := Go.heap_setCell_same _ gh 2 _ _ _ h1
      replace HH := Lib.hid h2
      replace HWK := Lib.hid (HWK.out.below (w' := (y3.setCell ⟨gh, 1, none⟩ (.int .u64 (v2 : Nat))).setCell ⟨gh, 2, none⟩ (.int .u64 (v3 : Nat))) (((Below.refl _ _).setCell (N4.out) _).setCell (N4.out) _))
      replace HR : Hid (((y3.setCell ⟨gh, 1, none⟩ (.int .u64 (v2 : Nat))).setCell ⟨gh, 2, none⟩ (.int .u64 (v3 : Nat))).heap[w.heap.size]? = some (.cells #[.int .u32 0, .int .u64 0, .int .u64 0] 45 (0, 0))) := by
        show _ = _
        rw [Below.heap_setCell _ _ _ _ N3.out, Below.heap_setCell _ _ _ _ N3.out]
        exact HR.out
      replace HB : Hid (Below w.heap.size w ((y3.setCell ⟨gh, 1, none⟩ (.int .u64 (v2 : Nat))).setCell ⟨gh, 2, none⟩ (.int .u64 (v3 : Nat)))) := (HB.out.setCell N6.out _).setCell N6.out _
      clear h0 h1 h2
      go_wp2_with (refine wpList_load_row rfl 45 (.tmp 9) rfl gh rfl 45 _ (0, 0) _ HH.out Try.underlying45 rfl info_D ?_)
      generalize (y3.setCell ⟨gh, 1, none⟩ (.int .u64 (v2 : Nat))).setCell ⟨gh, 2, none⟩ (.int .u64 (v3 : Nat)) = x1 at *
      clear c1 c2 q1 q2
      obtain ⟨a, e, hc, ha, hcase⟩ := HWK.out
      rcases hcase with ⟨rfl, rfl, ⟨⟨⟨hq0, k1, e1⟩, k2, e2⟩, k3, e3⟩⟩ | ⟨rfl, hn⟩
      · have HA : Hid (psD true s = .tuple #[.agg #[.int .u32 (v1 : Nat), .int .u64 (v2 : Nat), .int .u64 (v3 : Nat)], .int .i64 (4 + 4 + 8 + 8 : Nat), .int .i64 0]) := psD_yes HBB.out e1 k2 e2 k3 e3
        have HD := Lib.hid (doneD_ok v1 v2 v3 hc)
        clear hc ha e1 e2 e3 k1 k2 k3 hq0
        refine (HD.out).mono ?_; rintro r z ⟨rfl, hz⟩
        replace HB := Lib.hid (below_then HB.out hz)
        replace HR := Lib.hid ((hz.block _ (lt_of_some HR.out)).trans HR.out)
        clear hz HD
        go_wp2_with (refine wpList_store_row rfl 45 (.tmp 4) (.tmp 39) rfl w.heap.size #[.int .u32 (v1 : Nat), .int .u64 (v2 : Nat), .int .u64 (v3 : Nat)] rfl rfl 45 #[.int .u32 0, .int .u64 0, .int .u64 0] HR.out info_D rfl (one_D v1 v2 v3) ?_)
        rw [HA.out]
        exact bodyPost_ret (results_ctt_row rfl _ _ w.heap.size 45 #[.int .u32 (v1 : Nat), .int .u64 (v2 : Nat), .int .u64 (v3 : Nat)] (0, 0) _ rfl (heap_setRow_same _ _ _ _ _ HR.out) Try.underlying45 rfl info_D) rfl ⟨rfl, below_setRow HB.out (Nat.le_refl _) _⟩
      · have HA : Hid (psD true s = .tuple #[.agg #[.int .u32 0, .int .u64 0, .int .u64 0], .int .i64 0, .int .i64 3]) := by
          show _ = _
          unfold psD
          rw [if_pos HBB.out, if_neg hn]
        have HD := Lib.hid (doneD_no v1 v2 v3 hc)
        clear hc ha hn
        refine (HD.out).mono ?_; rintro r z ⟨rfl, hz⟩
        replace HB := Lib.hid (below_then HB.out hz)
        replace HR := Lib.hid ((hz.block _ (lt_of_some HR.out)).trans HR.out)
        clear hz HD
        go_wp2_with (refine wpList_store_row rfl 45 (.tmp 4) (.tmp 39) rfl w.heap.size #[.int .u32 0, .int .u64 0, .int .u64 0] rfl rfl 45 #[.int .u32 0, .int .u64 0, .int .u64 0] HR.out info_D rfl (by simp [Value.oneCell']) ?_)
        rw [HA.out]
        exact bodyPost_ret (results_ctt_row rfl _ _ w.heap.size 45 #[.int .u32 0, .int .u64 0, .int .u64 0] (0, 0) _ rfl (heap_setRow_same _ _ _ _ _ HR.out) Try.underlying45 rfl info_D) rfl ⟨rfl, below_setRow HB.out (Nat.le_refl _) _⟩
    | false =>
      have hdw : Hid (dw false = 4) := rfl
      go_wp2_with fail
      generalize y1.alloc (.cells #[.int .u32 (v1 : Nat), .int .u64 0, .int .u64 0] 45) = x0 at *
      generalize y1.heap.size = gh at *
      refine (four_wk HL.out HWK.out (fun f q => by unfold fitD at f; rw [hdw.out] at f; omega)).mono ?_; rintro r y2 ⟨v2, l2, rfl, W, G⟩
      replace HWK := Lib.hid W
      replace HR := Lib.hid (stays G N1.out HR.out)
      replace HH := Lib.hid (stays G N2.out HH.out)
      replace HB := Lib.hid (HB.out.grown G HB.out.size (fun k hk => by injection hk with hk; subst hk; exact N5.out))
      clear W G
      go_wp2_with fail
      refine (four_wk HL.out HWK.out (fun f q => by unfold fitD at f; rw [hdw.out] at f; omega)).mono ?_; rintro r y3 ⟨v3, l3, rfl, W, G⟩
      replace HWK := Lib.hid W
      replace HR := Lib.hid (stays G N1.out HR.out)
      replace HH := Lib.hid (stays G N2.out HH.out)
      replace HB := Lib.hid (HB.out.grown G HB.out.size (fun k hk => by injection hk with hk; subst hk; exact N5.out))
      clear W G
      have c1 : y3.cell? ⟨gh, 1, none⟩ = some (.int .u64 0) := by rw [Lib.cell_of_heap HH.out]; rfl
      have c2 : y3.cell? ⟨gh, 2, none⟩ = some (.int .u64 0) := by rw [Lib.cell_of_heap HH.out]; rfl
      have q1 := Lib.frozen_of_heap HH.out 1
      have q2 := Lib.frozen_of_heap HH.out 2
      have h0 := HH.out
      have h1 : (y3.setCell ⟨gh, 1, none⟩ (.int .u64 (v2 : Nat))).heap[gh]? = some (.cells #[.int .u32 (v1 : Nat), .int .u64 (v2 : Nat), .int .u64 0] 45 (0, 0)) := Go.heap_setCell_same _ gh 1 _ _ _ h0
      have h2 : ((y3.setCell ⟨gh, 1, none⟩ (.int .u64 (v2 : Nat))).setCell ⟨gh, 2, none⟩ (.int .u64 (v3 : Nat))).heap[gh]? = some (.cells #[.int .u32 (v1 : Nat), .int .u64 (v2 : Nat), .int .u64 (v3 : Nat)] 45 (0, 0)) := Go.heap_setCell_same _ gh 2 _ _ _ h1
      replace HH := Lib.hid h2
      replace HWK := Lib.hid (HWK.out.below (w' := (y3.setCell ⟨gh, 1, none⟩ (.int .u64 (v2 : Nat))).setCell ⟨gh, 2, none⟩ (.int .u64 (v3 : Nat))) (((Below.refl _ _).setCell (N4.out) _).setCell (N4.out) _))
      replace HR : Hid (((y3.setCell ⟨gh, 1, none⟩ (.int .u64 (v2 : Nat))).setCell ⟨gh, 2, none⟩ (.int .u64 (v3 : Nat))).heap[w.heap.size]? = some (.cells #[.int .u32 0, .int .u64 0, .int .u64 0] 45 (0, 0))) := by
        show _ = _
        rw [Below.heap_setCell _ _ _ _ N3.out, Below.heap_setCell _ _ _ _ N3.out]
        exact HR.out
      replace HB : Hid (Below w.heap.size w ((y3.setCell ⟨gh, 1, none⟩ (.int .u64 (v2 : Nat))).setCell ⟨gh, 2, none⟩ (.int .u64 (v3 : Nat)))) := (HB.out.setCell N6.out _).setCell N6.out _
      clear h0 h1 h2
      go_wp2_with (refine wpList_load_row rfl 45 (.tmp 9) rfl gh rfl 45 _ (0, 0) _ HH.out Try.underlying45 rfl info_D ?_)
      generalize (y3.setCell ⟨gh, 1, none⟩ (.int .u64 (v2 : Nat))).setCell ⟨gh, 2, none⟩ (.int .u64 (v3 : Nat)) = x1 at *
      clear c1 c2 q1 q2
      obtain ⟨a, e, hc, ha, hcase⟩ := HWK.out
      rcases hcase with ⟨rfl, rfl, ⟨⟨⟨hq0, k1, e1⟩, k2, e2⟩, k3, e3⟩⟩ | ⟨rfl, hn⟩
      · have HA : Hid (psD false s = .tuple #[.agg #[.int .u32 (v1 : Nat), .int .u64 (v2 : Nat), .int .u64 (v3 : Nat)], .int .i64 (4 + 4 + 4 + 4 : Nat), .int .i64 0]) := psD_yes HBB.out e1 k2 e2 k3 e3
        have HD := Lib.hid (doneD_ok v1 v2 v3 hc)
        clear hc ha e1 e2 e3 k1 k2 k3 hq0
        refine (HD.out).mono ?_; rintro r z ⟨rfl, hz⟩
        replace HB := Lib.hid (below_then HB.out hz)
        replace HR := Lib.hid ((hz.block _ (lt_of_some HR.out)).trans HR.out)
        clear hz HD
        go_wp2_with (refine wpList_store_row rfl 45 (.tmp 4) (.tmp 39) rfl w.heap.size #[.int .u32 (v1 : Nat), .int .u64 (v2 : Nat), .int .u64 (v3 : Nat)] rfl rfl 45 #[.int .u32 0, .int .u64 0, .int .u64 0] HR.out info_D rfl (one_D v1 v2 v3) ?_)
        rw [HA.out]
        exact bodyPost_ret (results_ctt_row rfl _ _ w.heap.size 45 #[.int .u32 (v1 : Nat), .int .u64 (v2 : Nat), .int .u64 (v3 : Nat)] (0, 0) _ rfl (heap_setRow_same _ _ _ _ _ HR.out) Try.underlying45 rfl info_D) rfl ⟨rfl, below_setRow HB.out (Nat.le_refl _) _⟩
      · have HA : Hid (psD false s = .tuple #[.agg #[.int .u32 0, .int .u64 0, .int .u64 0], .int .i64 0, .int .i64 3]) := by
          show _ = _
          unfold psD
          rw [if_pos HBB.out, if_neg hn]
        have HD := Lib.hid (doneD_no v1 v2 v3 hc)
        clear hc ha hn
        refine (HD.out).mono ?_; rintro r z ⟨rfl, hz⟩
        replace HB := Lib.hid (below_then HB.out hz)
        replace HR := Lib.hid ((hz.block _ (lt_of_some HR.out)).trans HR.out)
        clear hz HD
        go_wp2_with (refine wpList_store_row rfl 45 (.tmp 4) (.tmp 39) rfl w.heap.size #[.int .u32 0, .int .u64 0, .int .u64 0] rfl rfl 45 #[.int .u32 0, .int .u64 0, .int .u64 0] HR.out info_D rfl (by simp [Value.oneCell']) ?_)
        rw [HA.out]
        exact bodyPost_ret (results_ctt_row rfl _ _ w.heap.size 45 #[.int .u32 0, .int .u64 0, .int .u64 0] (0, 0) _ rfl (heap_setRow_same _ _ _ _ _ HR.out) Try.underlying45 rfl info_D) rfl ⟨rfl, below_setRow HB.out (Nat.le_refl _) _⟩
end Go.Proofs.Ytklmfncljebgnaa
