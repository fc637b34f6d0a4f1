/-
  Contracts of package tail: readEnd, readWide.
-/
import Derived.Test.YtlojhklhhdgkcaaTlF
import Derived.Test.YtlojhklhhdgkcaaHdP
import Derived.StillTailTactics
namespace Go.Proofs.Ytlojhklhhdgkcaa
set_option maxRecDepth 100000
set_option linter.unusedSimpArgs false
set_option linter.unusedVariables false
open Go.RowKit Go.Joins Go.Deep Go.Op
def fit18 (u : ByteArray) : Prop := 18 ≤ u.size
/-- What the end record says that bytes begin with. -/
def rdE (t : ByteArray) : Value := .agg #[.int .u32 (nAt t 4 2 : Nat), .int .u32 (nAt t 6 2 : Nat), .int .u64 (nAt t 8 2 : Nat), .int .u64 (nAt t 10 2 : Nat), .int .u64 (nAt t 12 4 : Nat), .int .u64 (nAt t 16 4 : Nat)]
set_option maxHeartbeats 8000000 in
theorem readEnd_any (t : ByteArray) (ht : 22 ≤ t.size) (hs : t.size ≤ 1000000) (w : World) :
    Calls Try.prog 11 #[.string t] w fun e w' => e = .returned (rdE t) ∧ Below w.heap.size w w' := by
  have hus : (t.extract 4 t.size).size = t.size - 4 := by rw [ByteArray.size_extract]; omega
  obtain ⟨u, hu⟩ : ∃ u, u = t.extract 4 t.size := ⟨_, rfl⟩
  rw [← hu] at hus
  have HF : Hid (fit18 u) := by show 18 ≤ u.size; omega
  have HL : Hid (u.size ≤ maxLen) := by show _ ≤ _; unfold maxLen; omega
  have HU := Lib.hid hu
  have hr0 := heap_alloc_new w (.cells #[.int .u32 0, .int .u32 0, .int .u64 0, .int .u64 0, .int .u64 0, .int .u64 0] 41)
  have HW0 : Hid (Below w.heap.size w (w.alloc (.cells #[.int .u32 0, .int .u32 0, .int .u64 0, .int .u64 0, .int .u64 0, .int .u64 0] 41))) := (Below.refl _ _).alloc (Nat.le_refl _) _
  have HSZ : Hid ((w.alloc (.cells #[.int .u32 0, .int .u32 0, .int .u64 0, .int .u64 0, .int .u64 0, .int .u64 0] 41)).heap.size = w.heap.size + 1) := alloc_size _ _
  have HR0 := Lib.hid hr0
  clear hr0
  go_enter Try.func11, Try.ntmps11
  go_wp2_with fail
  rw [← HU.out]
  generalize w.alloc (.cells #[.int .u32 0, .int .u32 0, .int .u64 0, .int .u64 0, .int .u64 0, .int .u64 0] 41) = w0 at *
  refine (over_ci u _).mono ?_; rintro r y0 ⟨rfl, C0⟩
  have hB0 := below_then' HW0.out HSZ.out C0.bel
  have hR0 : y0.heap[w.heap.size]? = some (.cells #[.int .u32 0, .int .u32 0, .int .u64 0, .int .u64 0, .int .u64 0, .int .u64 0] 41 (0, 0)) := (C0.bel.block _ (by rw [HSZ.out]; omega)).trans HR0.out
  have W0 : Wk w0 u (fit18 u) 0 True y0 := ⟨0, 0, C0, Nat.zero_le _, .inl ⟨rfl, rfl, trivial⟩⟩
  have HWK := Lib.hid W0
  have HB := Lib.hid hB0
  have HR := Lib.hid hR0
  have NLT : Hid (w0.heap.size < y0.heap.size) := W0.lt
  have N1 : Hid (w.heap.size ≠ w0.heap.size) := by show _ ≠ _; rw [HSZ.out]; omega
  have N5 : Hid (w.heap.size ≤ w0.heap.size) := by show _ ≤ _; rw [HSZ.out]; omega
  clear C0 hB0 hR0 HR0 HW0 W0
  have HWL := HWK.out.lt
  have HH : Hid ((y0.alloc (.cells #[.int .u32 0, .int .u32 0, .int .u64 0, .int .u64 0, .int .u64 0, .int .u64 0] 41)).heap[y0.heap.size]? = some (.cells #[.int .u32 0, .int .u32 0, .int .u64 0, .int .u64 0, .int .u64 0, .int .u64 0] 41 (0, 0))) := heap_alloc_new _ _
  replace HWK := Lib.hid (HWK.out.below (w' := y0.alloc (.cells #[.int .u32 0, .int .u32 0, .int .u64 0, .int .u64 0, .int .u64 0, .int .u64 0] 41)) ((Below.refl _ _).alloc (by omega) _))
  replace HR : Hid ((y0.alloc (.cells #[.int .u32 0, .int .u32 0, .int .u64 0, .int .u64 0, .int .u64 0, .int .u64 0] 41)).heap[w.heap.size]? = some (.cells #[.int .u32 0, .int .u32 0, .int .u64 0, .int .u64 0, .int .u64 0, .int .u64 0] 41 (0, 0))) := (Below.heap_alloc y0 _ _ (lt_of_some HR.out)).trans HR.out
  replace HB : Hid (Below w.heap.size w (y0.alloc (.cells #[.int .u32 0, .int .u32 0, .int .u64 0, .int .u64 0, .int .u64 0, .int .u64 0] 41))) := HB.out.alloc HB.out.size _
  have N2 : Hid (y0.heap.size ≠ w0.heap.size) := by show _ ≠ _; omega
  have N3 : Hid (w.heap.size ≠ y0.heap.size) := by show _ ≠ _; have := HSZ.out; omega
  have N4 : Hid (w0.heap.size + 1 ≤ y0.heap.size) := HWL
  have N6 : Hid (w.heap.size ≤ y0.heap.size) := by show _ ≤ _; have := HSZ.out; omega
  clear HWL HSZ
  go_wp2_with fail
  generalize y0.alloc (.cells #[.int .u32 0, .int .u32 0, .int .u64 0, .int .u64 0, .int .u64 0, .int .u64 0] 41) = x0 at *
  generalize y0.heap.size = gh at *
  refine (two_wk HL.out HWK.out (fun f q => by unfold fit18 at f; omega)).mono ?_; rintro r y1 ⟨v1, lv1, rfl, W, G⟩
  replace HWK := Lib.hid W
  replace HR := Lib.hid (stays G N1.out HR.out)
  replace HH := Lib.hid (stays G N2.out HH.out)
  replace HB := Lib.hid (HB.out.grown G HB.out.size (fun k hk => by injection hk with hk; subst hk; exact N5.out))
  clear W G
  go_wp2_with fail
  refine (two_wk HL.out HWK.out (fun f q => by unfold fit18 at f; omega)).mono ?_; rintro r y2 ⟨v2, lv2, rfl, W, G⟩
  replace HWK := Lib.hid W
  replace HR := Lib.hid (stays G N1.out HR.out)
  replace HH := Lib.hid (stays G N2.out HH.out)
  replace HB := Lib.hid (HB.out.grown G HB.out.size (fun k hk => by injection hk with hk; subst hk; exact N5.out))
  clear W G
  have c0 : y2.cell? ⟨gh, 0, none⟩ = some (.int .u32 0) := by rw [Lib.cell_of_heap HH.out]; rfl
  have q0 := Lib.frozen_of_heap HH.out 0
  have wp0 : IntKind.u32.wrap (v1 : Int) = v1 := by rw [IntKind.wrap_u32]; omega
  have c1 : y2.cell? ⟨gh, 1, none⟩ = some (.int .u32 0) := by rw [Lib.cell_of_heap HH.out]; rfl
  have q1 := Lib.frozen_of_heap HH.out 1
  have wp1 : IntKind.u32.wrap (v2 : Int) = v2 := by rw [IntKind.wrap_u32]; omega
  have h0 := HH.out
  have h1 : ((y2).setCell ⟨gh, 0, none⟩ (.int .u32 (v1 : Nat))).heap[gh]? = some (.cells #[.int .u32 (v1 : Nat), .int .u32 0, .int .u64 0, .int .u64 0, .int .u64 0, .int .u64 0] 41 (0, 0)) := Go.heap_setCell_same _ gh 0 _ _ _ h0
  have h2 : (((y2).setCell ⟨gh, 0, none⟩ (.int .u32 (v1 : Nat))).setCell ⟨gh, 1, none⟩ (.int .u32 (v2 : Nat))).heap[gh]? = some (.cells #[.int .u32 (v1 : Nat), .int .u32 (v2 : Nat), .int .u64 0, .int .u64 0, .int .u64 0, .int .u64 0] 41 (0, 0)) := Go.heap_setCell_same _ gh 1 _ _ _ h1
  replace HH := Lib.hid h2
  replace HWK := Lib.hid (HWK.out.below (w' := ((y2).setCell ⟨gh, 0, none⟩ (.int .u32 (v1 : Nat))).setCell ⟨gh, 1, none⟩ (.int .u32 (v2 : Nat))) (((Below.refl _ _).setCell (N4.out) _).setCell (N4.out) _))
  replace HR : Hid ((((y2).setCell ⟨gh, 0, none⟩ (.int .u32 (v1 : Nat))).setCell ⟨gh, 1, none⟩ (.int .u32 (v2 : Nat))).heap[w.heap.size]? = some (.cells #[.int .u32 0, .int .u32 0, .int .u64 0, .int .u64 0, .int .u64 0, .int .u64 0] 41 (0, 0))) := by
    show _ = _
    rw [Below.heap_setCell _ _ _ _ N3.out, Below.heap_setCell _ _ _ _ N3.out]
    exact HR.out
  replace HB : Hid (Below w.heap.size w (((y2).setCell ⟨gh, 0, none⟩ (.int .u32 (v1 : Nat))).setCell ⟨gh, 1, none⟩ (.int .u32 (v2 : Nat)))) := (HB.out.setCell N6.out _).setCell N6.out _
  clear h0 h1 h2
  go_wp2_with fail
  generalize ((y2).setCell ⟨gh, 0, none⟩ (.int .u32 (v1 : Nat))).setCell ⟨gh, 1, none⟩ (.int .u32 (v2 : Nat)) = x1 at *
  clear c0 q0 wp0 c1 q1 wp1
  refine (two_wk HL.out HWK.out (fun f q => by unfold fit18 at f; omega)).mono ?_; rintro r y3 ⟨v3, lv3, rfl, W, G⟩
  replace HWK := Lib.hid W
  replace HR := Lib.hid (stays G N1.out HR.out)
  replace HH := Lib.hid (stays G N2.out HH.out)
  replace HB := Lib.hid (HB.out.grown G HB.out.size (fun k hk => by injection hk with hk; subst hk; exact N5.out))
  clear W G
  go_wp2_with fail
  refine (two_wk HL.out HWK.out (fun f q => by unfold fit18 at f; omega)).mono ?_; rintro r y4 ⟨v4, lv4, rfl, W, G⟩
  replace HWK := Lib.hid W
  replace HR := Lib.hid (stays G N1.out HR.out)
  replace HH := Lib.hid (stays G N2.out HH.out)
  replace HB := Lib.hid (HB.out.grown G HB.out.size (fun k hk => by injection hk with hk; subst hk; exact N5.out))
  clear W G
  have c2 : y4.cell? ⟨gh, 2, none⟩ = some (.int .u64 0) := by rw [Lib.cell_of_heap HH.out]; rfl
  have q2 := Lib.frozen_of_heap HH.out 2
  have wp2 : IntKind.u64.wrap (v3 : Int) = v3 := by rw [IntKind.wrap_u64]; omega
  have c3 : y4.cell? ⟨gh, 3, none⟩ = some (.int .u64 0) := by rw [Lib.cell_of_heap HH.out]; rfl
  have q3 := Lib.frozen_of_heap HH.out 3
  have wp3 : IntKind.u64.wrap (v4 : Int) = v4 := by rw [IntKind.wrap_u64]; omega
  have h0 := HH.out
  have h1 : ((y4).setCell ⟨gh, 2, none⟩ (.int .u64 (v3 : Nat))).heap[gh]? = some (.cells #[.int .u32 (v1 : Nat), .int .u32 (v2 : Nat), .int .u64 (v3 : Nat), .int .u64 0, .int .u64 0, .int .u64 0] 41 (0, 0)) := Go.heap_setCell_same _ gh 2 _ _ _ h0
  have h2 : (((y4).setCell ⟨gh, 2, none⟩ (.int .u64 (v3 : Nat))).setCell ⟨gh, 3, none⟩ (.int .u64 (v4 : Nat))).heap[gh]? = some (.cells #[.int .u32 (v1 : Nat), .int .u32 (v2 : Nat), .int .u64 (v3 : Nat), .int .u64 (v4 : Nat), .int .u64 0, .int .u64 0] 41 (0, 0)) := Go.heap_setCell_same _ gh 3 _ _ _ h1
  replace HH := Lib.hid h2
  replace HWK := Lib.hid (HWK.out.below (w' := ((y4).setCell ⟨gh, 2, none⟩ (.int .u64 (v3 : Nat))).setCell ⟨gh, 3, none⟩ (.int .u64 (v4 : Nat))) (((Below.refl _ _).setCell (N4.out) _).setCell (N4.out) _))
  replace HR : Hid ((((y4).setCell ⟨gh, 2, none⟩ (.int .u64 (v3 : Nat))).setCell ⟨gh, 3, none⟩ (.int .u64 (v4 : Nat))).heap[w.heap.size]? = some (.cells #[.int .u32 0, .int .u32 0, .int .u64 0, .int .u64 0, .int .u64 0, .int .u64 0] 41 (0, 0))) := by
    show _ = _
    rw [Below.heap_setCell _ _ _ _ N3.out, Below.heap_setCell _ _ _ _ N3.out]
    exact HR.out
  replace HB : Hid (Below w.heap.size w (((y4).setCell ⟨gh, 2, none⟩ (.int .u64 (v3 : Nat))).setCell ⟨gh, 3, none⟩ (.int .u64 (v4 : Nat)))) := (HB.out.setCell N6.out _).setCell N6.out _
  clear h0 h1 h2
  go_wp2_with fail
  generalize ((y4).setCell ⟨gh, 2, none⟩ (.int .u64 (v3 : Nat))).setCell ⟨gh, 3, none⟩ (.int .u64 (v4 : Nat)) = x2 at *
  clear c2 q2 wp2 c3 q3 wp3
  refine (four_wk HL.out HWK.out (fun f q => by unfold fit18 at f; omega)).mono ?_; rintro r y5 ⟨v5, lv5, rfl, W, G⟩
  replace HWK := Lib.hid W
  replace HR := Lib.hid (stays G N1.out HR.out)
  replace HH := Lib.hid (stays G N2.out HH.out)
  replace HB := Lib.hid (HB.out.grown G HB.out.size (fun k hk => by injection hk with hk; subst hk; exact N5.out))
  clear W G
  go_wp2_with fail
  refine (four_wk HL.out HWK.out (fun f q => by unfold fit18 at f; omega)).mono ?_; rintro r y6 ⟨v6, lv6, rfl, W, G⟩
  replace HWK := Lib.hid W
  replace HR := Lib.hid (stays G N1.out HR.out)
  replace HH := Lib.hid (stays G N2.out HH.out)
  replace HB := Lib.hid (HB.out.grown G HB.out.size (fun k hk => by injection hk with hk; subst hk; exact N5.out))
  clear W G
  have c4 : y6.cell? ⟨gh, 4, none⟩ = some (.int .u64 0) := by rw [Lib.cell_of_heap HH.out]; rfl
  have q4 := Lib.frozen_of_heap HH.out 4
  have wp4 : IntKind.u64.wrap (v5 : Int) = v5 := by rw [IntKind.wrap_u64]; omega
  have c5 : y6.cell? ⟨gh, 5, none⟩ = some (.int .u64 0) := by rw [Lib.cell_of_heap HH.out]; rfl
  have q5 := Lib.frozen_of_heap HH.out 5
  have wp5 : IntKind.u64.wrap (v6 : Int) = v6 := by rw [IntKind.wrap_u64]; omega
  have h0 := HH.out
  have h1 : ((y6).setCell ⟨gh, 4, none⟩ (.int .u64 (v5 : Nat))).heap[gh]? = some (.cells #[.int .u32 (v1 : Nat), .int .u32 (v2 : Nat), .int .u64 (v3 : Nat), .int .u64 (v4 : Nat), .int .u64 (v5 : Nat), .int .u64 0] 41 (0, 0)) := Go.heap_setCell_same _ gh 4 _ _ _ h0
  have h2 : (((y6).setCell ⟨gh, 4, none⟩ (.int .u64 (v5 : Nat))).setCell ⟨gh, 5, none⟩ (.int .u64 (v6 : Nat))).heap[gh]? = some (.cells #[.int .u32 (v1 : Nat), .int .u32 (v2 : Nat), .int .u64 (v3 : Nat), .int .u64 (v4 : Nat), .int .u64 (v5 : Nat), .int .u64 (v6 : Nat)] 41 (0, 0)) := Go.heap_setCell_same _ gh 5 _ _ _ h1
  replace HH := Lib.hid h2
  replace HWK := Lib.hid (HWK.out.below (w' := ((y6).setCell ⟨gh, 4, none⟩ (.int .u64 (v5 : Nat))).setCell ⟨gh, 5, none⟩ (.int .u64 (v6 : Nat))) (((Below.refl _ _).setCell (N4.out) _).setCell (N4.out) _))
  replace HR : Hid ((((y6).setCell ⟨gh, 4, none⟩ (.int .u64 (v5 : Nat))).setCell ⟨gh, 5, none⟩ (.int .u64 (v6 : Nat))).heap[w.heap.size]? = some (.cells #[.int .u32 0, .int .u32 0, .int .u64 0, .int .u64 0, .int .u64 0, .int .u64 0] 41 (0, 0))) := by
    show _ = _
    rw [Below.heap_setCell _ _ _ _ N3.out, Below.heap_setCell _ _ _ _ N3.out]
    exact HR.out
  replace HB : Hid (Below w.heap.size w (((y6).setCell ⟨gh, 4, none⟩ (.int .u64 (v5 : Nat))).setCell ⟨gh, 5, none⟩ (.int .u64 (v6 : Nat)))) := (HB.out.setCell N6.out _).setCell N6.out _
  clear h0 h1 h2
  go_wp2_with (first | (refine wpList_load_row rfl 41 (.tmp 4) rfl gh rfl 41 _ (0, 0) _ HH.out Try.underlying41 rfl info_rec ?_) | (refine wpList_store_row rfl 41 (.tmp 2) (.tmp 32) rfl w.heap.size #[.int .u32 (v1 : Nat), .int .u32 (v2 : Nat), .int .u64 (v3 : Nat), .int .u64 (v4 : Nat), .int .u64 (v5 : Nat), .int .u64 (v6 : Nat)] rfl rfl 41 #[.int .u32 0, .int .u32 0, .int .u64 0, .int .u64 0, .int .u64 0, .int .u64 0] HR.out info_rec rfl (one_rec v1 v2 v3 v4 v5 v6) ?_))
  generalize ((y6).setCell ⟨gh, 4, none⟩ (.int .u64 (v5 : Nat))).setCell ⟨gh, 5, none⟩ (.int .u64 (v6 : Nat)) = x3 at *
  clear c4 q4 wp4 c5 q5 wp5
  obtain ⟨a, e, hc, ha, hcase⟩ := HWK.out
  rcases hcase with ⟨rfl, rfl, hq⟩ | ⟨_, hn⟩
  case inr => exact absurd HF.out hn
  obtain ⟨⟨⟨⟨⟨⟨_, _, e1⟩, _, e2⟩, _, e3⟩, _, e4⟩, _, e5⟩, _, e6⟩ := hq
  have HA : Hid (rdE t = .agg #[.int .u32 (v1 : Nat), .int .u32 (v2 : Nat), .int .u64 (v3 : Nat), .int .u64 (v4 : Nat), .int .u64 (v5 : Nat), .int .u64 (v6 : Nat)]) := by
    show rdE t = _
    unfold rdE
    rw [e1, e2, e3, e4, e5, e6, hu, nAt_from, nAt_from, nAt_from, nAt_from, nAt_from, nAt_from]
  rw [HA.out]
  exact bodyPost_ret (results_cell_row rfl _ _ w.heap.size 41 #[.int .u32 (v1 : Nat), .int .u32 (v2 : Nat), .int .u64 (v3 : Nat), .int .u64 (v4 : Nat), .int .u64 (v5 : Nat), .int .u64 (v6 : Nat)] (0, 0) _ rfl (heap_setRow_same _ _ _ _ _ HR.out) Try.underlying41 rfl info_rec) rfl ⟨rfl, below_setRow HB.out (Nat.le_refl _) _⟩
end Go.Proofs.Ytlojhklhhdgkcaa
