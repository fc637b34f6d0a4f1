/-
  Contracts of package tail: readWide.
-/
import Derived.Deep.CutRange
import Derived.Test.YtlojhklhhdgkcaaTlG
import Derived.Deep.RegionHeld3
namespace Go.Proofs.Ytlojhklhhdgkcaa
set_option maxRecDepth 100000
set_option linter.unusedSimpArgs false
set_option linter.unusedVariables false
open Go.RowKit Go.Joins Go.Deep Go.Op
theorem results_ct_row' {P : Program} {fn : Func} {p u : Tmp} {ty : TypeId} (h : fn.results = #[.cell p ty, .tmp u]) (tmps : Array Value) (w : World) (g : Nat) (t : TypeId) (cs : Array Value) (fr : Nat × Nat) (d : TypeDesc)
    (hp : tmps.getD p undef = .pointer (some ⟨g, 0, none⟩)) (hg : w.heap[g]? = some (.cells cs t fr))
    (hu : P.underlying ty = some d) (hd : (match d with | .struct _ | .array _ _ => true | _ => false) = true) (hi : (P.info? ty).map (·.size) = some cs.size) :
    (results fn tmps).run P w = .ok (.tuple #[.agg cs, tmps.getD u undef]) w := by
  have hp' : tmps[p]?.getD undef = .pointer (some ⟨g, 0, none⟩) := by simpa using hp
  simp [results, h, hp', asAddr, run_loadVar_row w g t ty cs fr d hg hu hd hi]
def fit56 (t : ByteArray) : Prop := 56 ≤ t.size
/-- Are the bytes a wide record, whole? -/
def wdB (t : ByteArray) : Bool := decide (56 ≤ t.size) && (decide (nAt t 0 4 = 101075792) && decide (nAt t 4 8 = t.size - 12))
def WdOk (t : ByteArray) (v1 v2 v3 v4 v5 v6 : Nat) (b : Bool) : Prop := b = wdB t ∧ (b = true → v1 = nAt t 16 4 ∧ v2 = nAt t 20 4 ∧ v3 = nAt t 24 8 ∧ v4 = nAt t 32 8 ∧ v5 = nAt t 40 8 ∧ v6 = nAt t 48 8)
theorem wd_short {t : ByteArray} {v1 v2 v3 v4 v5 v6 : Nat} (h : ¬ fit56 t) : WdOk t v1 v2 v3 v4 v5 v6 false := ⟨by unfold wdB; rw [decide_eq_false (show ¬ 56 ≤ t.size from h)]; rfl, fun h => by cases h⟩
set_option maxHeartbeats 8000000 in
theorem readWide_any (t : ByteArray) (hs : t.size ≤ 1000000) (w : World) :
    Calls Try.prog 31 #[.string t] w fun e w' => ∃ v1 v2 v3 v4 v5 v6 : Nat, ∃ b : Bool, e = .returned (.tuple #[.agg #[.int .u32 (v1 : Nat), .int .u32 (v2 : Nat), .int .u64 (v3 : Nat), .int .u64 (v4 : Nat), .int .u64 (v5 : Nat), .int .u64 (v6 : Nat)], .bool b]) ∧ WdOk t v1 v2 v3 v4 v5 v6 b ∧ Below w.heap.size w w' := by
  have HL : Hid (t.size ≤ maxLen) := by show _ ≤ _; unfold maxLen; omega
  have hr0 := heap_alloc_new w (.cells #[.int .u32 0, .int .u32 0, .int .u64 0, .int .u64 0, .int .u64 0, .int .u64 0] 41)
  have HW0 : Hid (Below w.heap.size w (w.alloc (.cells #[.int .u32 0, .int .u32 0, .int .u64 0, .int .u64 0, .int .u64 0, .int .u64 0] 41))) := (Below.refl _ _).alloc (Nat.le_refl _) _
  have HSZ : Hid ((w.alloc (.cells #[.int .u32 0, .int .u32 0, .int .u64 0, .int .u64 0, .int .u64 0, .int .u64 0] 41)).heap.size = w.heap.size + 1) := alloc_size _ _
  have HR0 := Lib.hid hr0
  clear hr0
  go_enter Try.func31, Try.ntmps31
  go_wp2_with fail
  generalize w.alloc (.cells #[.int .u32 0, .int .u32 0, .int .u64 0, .int .u64 0, .int .u64 0, .int .u64 0] 41) = w0 at *
  refine (over_ci t _).mono ?_; rintro r y0 ⟨rfl, C0⟩
  have hB0 := below_then' HW0.out HSZ.out C0.bel
  have hR0 : y0.heap[w.heap.size]? = some (.cells #[.int .u32 0, .int .u32 0, .int .u64 0, .int .u64 0, .int .u64 0, .int .u64 0] 41 (0, 0)) := (C0.bel.block _ (by rw [HSZ.out]; omega)).trans HR0.out
  have W0 : Wk w0 t (fit56 t) 0 True y0 := ⟨0, 0, C0, Nat.zero_le _, .inl ⟨rfl, rfl, trivial⟩⟩
  have HWK := Lib.hid W0
  have HB := Lib.hid hB0
  have HR := Lib.hid hR0
  have NLT : Hid (w0.heap.size < y0.heap.size) := W0.lt
  have N1 : Hid (w.heap.size ≠ w0.heap.size) := by show _ ≠ _; rw [HSZ.out]; omega
  have N5 : Hid (w.heap.size ≤ w0.heap.size) := by show _ ≤ _; rw [HSZ.out]; omega
  clear C0 hB0 hR0 HR0 HW0 W0
  go_wp2_with fail
  refine (take_wk 4 (by omega) HL.out HWK.out (fun f q => by unfold fit56 at f; omega)).mono ?_; rintro r ya ⟨mk, lmk, rfl, W, G⟩
  replace HWK := Lib.hid W
  replace HR := Lib.hid (stays G N1.out HR.out)
  replace HB := Lib.hid (HB.out.grown G HB.out.size (fun k hk => by injection hk with hk; subst hk; exact N5.out))
  have NL2 : Hid (w0.heap.size < ya.heap.size) := Nat.lt_of_lt_of_le NLT.out G.size
  clear W G
  go_wp2_with fail
  refine (eight_wk HL.out HWK.out (fun f q => by unfold fit56 at f; omega)).mono ?_; rintro r yb ⟨fo, lfo, rfl, W, G⟩
  replace HWK := Lib.hid W
  replace HR := Lib.hid (stays G N1.out HR.out)
  replace HB := Lib.hid (HB.out.grown G HB.out.size (fun k hk => by injection hk with hk; subst hk; exact N5.out))
  clear W G
  go_wp2_with fail
  refine (four_wk HL.out HWK.out (fun f q => by unfold fit56 at f; omega)).mono ?_; rintro r yc ⟨mn, lmn, rfl, W, G⟩
  replace HWK := Lib.hid W
  replace HR := Lib.hid (stays G N1.out HR.out)
  replace HB := Lib.hid (HB.out.grown G HB.out.size (fun k hk => by injection hk with hk; subst hk; exact N5.out))
  clear W G
  have HWL := HWK.out.lt
  have HH : Hid ((yc.alloc (.cells #[.int .u32 0, .int .u32 0, .int .u64 0, .int .u64 0, .int .u64 0, .int .u64 0] 41)).heap[yc.heap.size]? = some (.cells #[.int .u32 0, .int .u32 0, .int .u64 0, .int .u64 0, .int .u64 0, .int .u64 0] 41 (0, 0))) := heap_alloc_new _ _
  replace HWK := Lib.hid (HWK.out.below (w' := yc.alloc (.cells #[.int .u32 0, .int .u32 0, .int .u64 0, .int .u64 0, .int .u64 0, .int .u64 0] 41)) ((Below.refl _ _).alloc (by omega) _))
  replace HR : Hid ((yc.alloc (.cells #[.int .u32 0, .int .u32 0, .int .u64 0, .int .u64 0, .int .u64 0, .int .u64 0] 41)).heap[w.heap.size]? = some (.cells #[.int .u32 0, .int .u32 0, .int .u64 0, .int .u64 0, .int .u64 0, .int .u64 0] 41 (0, 0))) := (Below.heap_alloc yc _ _ (lt_of_some HR.out)).trans HR.out
  replace HB : Hid (Below w.heap.size w (yc.alloc (.cells #[.int .u32 0, .int .u32 0, .int .u64 0, .int .u64 0, .int .u64 0, .int .u64 0] 41))) := HB.out.alloc HB.out.size _
  have N2 : Hid (yc.heap.size ≠ w0.heap.size) := by show _ ≠ _; omega
  have N3 : Hid (w.heap.size ≠ yc.heap.size) := by show _ ≠ _; have := HSZ.out; omega
  have N4 : Hid (w0.heap.size + 1 ≤ yc.heap.size) := HWL
  have N6 : Hid (w.heap.size ≤ yc.heap.size) := by show _ ≤ _; have := HSZ.out; omega
  clear HWL HSZ
  go_wp2_with fail
  generalize yc.alloc (.cells #[.int .u32 0, .int .u32 0, .int .u64 0, .int .u64 0, .int .u64 0, .int .u64 0] 41) = x0 at *
  generalize yc.heap.size = gh at *
  refine (four_wk HL.out HWK.out (fun f q => by unfold fit56 at f; omega)).mono ?_; rintro r y1 ⟨v1, lv1, rfl, W, G⟩
  replace HWK := Lib.hid W
  replace HR := Lib.hid (stays G N1.out HR.out)
  replace HH := Lib.hid (stays G N2.out HH.out)
  replace HB := Lib.hid (HB.out.grown G HB.out.size (fun k hk => by injection hk with hk; subst hk; exact N5.out))
  clear W G
  go_wp2_with fail
  refine (four_wk HL.out HWK.out (fun f q => by unfold fit56 at f; omega)).mono ?_; rintro r y2 ⟨v2, lv2, rfl, W, G⟩
  replace HWK := Lib.hid W
  replace HR := Lib.hid (stays G N1.out HR.out)
  replace HH := Lib.hid (stays G N2.out HH.out)
  replace HB := Lib.hid (HB.out.grown G HB.out.size (fun k hk => by injection hk with hk; subst hk; exact N5.out))
  clear W G
  have c0 : y2.cell? ⟨gh, 0, none⟩ = some (.int .u32 0) := by rw [Lib.cell_of_heap HH.out]; rfl
  have q0 := Lib.frozen_of_heap HH.out 0
  have wp0 : IntKind.u32.wrap (v1 : Int) = v1 := by rw [IntKind.wrap_u32]; omega
  have c1 : y2.cell? ⟨gh, 1, none⟩ = some (.int .u32 0) := by rw [Lib.cell_of_heap HH.out]; rfl
  have q1 := Lib.frozen_of_heap HH.out 1
  have wp1 : IntKind.u32.wrap (v2 : Int) = v2 := by rw [IntKind.wrap_u32]; omega
  have h0 := HH.out
  have h1 : ((y2).setCell ⟨gh, 0, none⟩ (.int .u32 (v1 : Nat))).heap[gh]? = some (.cells #[.int .u32 (v1 : Nat), .int .u32 0, .int .u64 0, .int .u64 0, .int .u64 0, .int .u64 0] 41 (0, 0)) := Go.heap_setCell_same _ gh 0 _ _ _ h0
  have h2 : (((y2).setCell ⟨gh, 0, none⟩ (.int .u32 (v1 : Nat))).setCell ⟨gh, 1, none⟩ (.int .u32 (v2 : Nat))).heap[gh]? = some (.cells #[.int .u32 (v1 : Nat), .int .u32 (v2 : Nat), .int .u64 0, .int .u64 0, .int .u64 0, .int .u64 0] 41 (0, 0)) := Go.heap_setCell_same _ gh 1 _ _ _ h1
  replace HH := Lib.hid h2
  replace HWK := Lib.hid (HWK.out.below (w' := ((y2).setCell ⟨gh, 0, none⟩ (.int .u32 (v1 : Nat))).setCell ⟨gh, 1, none⟩ (.int .u32 (v2 : Nat))) (((Below.refl _ _).setCell (N4.out) _).setCell (N4.out) _))
  replace HR : Hid ((((y2).setCell ⟨gh, 0, none⟩ (.int .u32 (v1 : Nat))).setCell ⟨gh, 1, none⟩ (.int .u32 (v2 : Nat))).heap[w.heap.size]? = some (.cells #[.int .u32 0, .int .u32 0, .int .u64 0, .int .u64 0, .int .u64 0, .int .u64 0] 41 (0, 0))) := by
    show _ = _
    rw [Below.heap_setCell _ _ _ _ N3.out, Below.heap_setCell _ _ _ _ N3.out]
    exact HR.out
  replace HB : Hid (Below w.heap.size w (((y2).setCell ⟨gh, 0, none⟩ (.int .u32 (v1 : Nat))).setCell ⟨gh, 1, none⟩ (.int .u32 (v2 : Nat)))) := (HB.out.setCell N6.out _).setCell N6.out _
  clear h0 h1 h2
  go_wp2_with fail
  generalize ((y2).setCell ⟨gh, 0, none⟩ (.int .u32 (v1 : Nat))).setCell ⟨gh, 1, none⟩ (.int .u32 (v2 : Nat)) = x1 at *
  clear c0 q0 wp0 c1 q1 wp1
  refine (eight_wk HL.out HWK.out (fun f q => by unfold fit56 at f; omega)).mono ?_; rintro r y3 ⟨v3, lv3, rfl, W, G⟩
  replace HWK := Lib.hid W
  replace HR := Lib.hid (stays G N1.out HR.out)
  replace HH := Lib.hid (stays G N2.out HH.out)
  replace HB := Lib.hid (HB.out.grown G HB.out.size (fun k hk => by injection hk with hk; subst hk; exact N5.out))
  clear W G
  go_wp2_with fail
  refine (eight_wk HL.out HWK.out (fun f q => by unfold fit56 at f; omega)).mono ?_; rintro r y4 ⟨v4, lv4, rfl, W, G⟩
  replace HWK := Lib.hid W
  replace HR := Lib.hid (stays G N1.out HR.out)
  replace HH := Lib.hid (stays G N2.out HH.out)
  replace HB := Lib.hid (HB.out.grown G HB.out.size (fun k hk => by injection hk with hk; subst hk; exact N5.out))
  clear W G
  have c2 : y4.cell? ⟨gh, 2, none⟩ = some (.int .u64 0) := by rw [Lib.cell_of_heap HH.out]; rfl
  have q2 := Lib.frozen_of_heap HH.out 2
  have wp2 : IntKind.u64.wrap (v3 : Int) = v3 := by rw [IntKind.wrap_u64]; omega
  have c3 : y4.cell? ⟨gh, 3, none⟩ = some (.int .u64 0) := by rw [Lib.cell_of_heap HH.out]; rfl
  have q3 := Lib.frozen_of_heap HH.out 3
  have wp3 : IntKind.u64.wrap (v4 : Int) = v4 := by rw [IntKind.wrap_u64]; omega
  have h0 := HH.out
  have h1 : ((y4).setCell ⟨gh, 2, none⟩ (.int .u64 (v3 : Nat))).heap[gh]? = some (.cells #[.int .u32 (v1 : Nat), .int .u32 (v2 : Nat), .int .u64 (v3 : Nat), .int .u64 0, .int .u64 0, .int .u64 0] 41 (0, 0)) := Go.heap_setCell_same _ gh 2 _ _ _ h0
  have h2 : (((y4).setCell ⟨gh, 2, none⟩ (.int .u64 (v3 : Nat))).setCell ⟨gh, 3, none⟩ (.int .u64 (v4 : Nat))).heap[gh]? = some (.cells #[.int .u32 (v1 : Nat), .int .u32 (v2 : Nat), .int .u64 (v3 : Nat), .int .u64 (v4 : Nat), .int .u64 0, .int .u64 0] 41 (0, 0)) := Go.heap_setCell_same _ gh 3 _ _ _ h1
  replace HH := Lib.hid h2
  replace HWK := Lib.hid (HWK.out.below (w' := ((y4).setCell ⟨gh, 2, none⟩ (.int .u64 (v3 : Nat))).setCell ⟨gh, 3, none⟩ (.int .u64 (v4 : Nat))) (((Below.refl _ _).setCell (N4.out) _).setCell (N4.out) _))
  replace HR : Hid ((((y4).setCell ⟨gh, 2, none⟩ (.int .u64 (v3 : Nat))).setCell ⟨gh, 3, none⟩ (.int .u64 (v4 : Nat))).heap[w.heap.size]? = some (.cells #[.int .u32 0, .int .u32 0, .int .u64 0, .int .u64 0, .int .u64 0, .int .u64 0] 41 (0, 0))) := by
    show _ = _
    rw [Below.heap_setCell _ _ _ _ N3.out, Below.heap_setCell _ _ _ _ N3.out]
    exact HR.out
  replace HB : Hid (Below w.heap.size w (((y4).setCell ⟨gh, 2, none⟩ (.int .u64 (v3 : Nat))).setCell ⟨gh, 3, none⟩ (.int .u64 (v4 : Nat)))) := (HB.out.setCell N6.out _).setCell N6.out _
  clear h0 h1 h2
  go_wp2_with fail
  generalize ((y4).setCell ⟨gh, 2, none⟩ (.int .u64 (v3 : Nat))).setCell ⟨gh, 3, none⟩ (.int .u64 (v4 : Nat)) = x2 at *
  clear c2 q2 wp2 c3 q3 wp3
  refine (eight_wk HL.out HWK.out (fun f q => by unfold fit56 at f; omega)).mono ?_; rintro r y5 ⟨v5, lv5, rfl, W, G⟩
  replace HWK := Lib.hid W
  replace HR := Lib.hid (stays G N1.out HR.out)
  replace HH := Lib.hid (stays G N2.out HH.out)
  replace HB := Lib.hid (HB.out.grown G HB.out.size (fun k hk => by injection hk with hk; subst hk; exact N5.out))
  clear W G
  go_wp2_with fail
  refine (eight_wk HL.out HWK.out (fun f q => by unfold fit56 at f; omega)).mono ?_; rintro r y6 ⟨v6, lv6, rfl, W, G⟩
  replace HWK := Lib.hid W
  replace HR := Lib.hid (stays G N1.out HR.out)
  replace HH := Lib.hid (stays G N2.out HH.out)
  replace HB := Lib.hid (HB.out.grown G HB.out.size (fun k hk => by injection hk with hk; subst hk; exact N5.out))
  clear W G
  have c4 : y6.cell? ⟨gh, 4, none⟩ = some (.int .u64 0) := by rw [Lib.cell_of_heap HH.out]; rfl
  have q4 := Lib.frozen_of_heap HH.out 4
  have wp4 : IntKind.u64.wrap (v5 : Int) = v5 := by rw [IntKind.wrap_u64]; omega
  have c5 : y6.cell? ⟨gh, 5, none⟩ = some (.int .u64 0) := by rw [Lib.cell_of_heap HH.out]; rfl
  have q5 := Lib.frozen_of_heap HH.out 5
  have wp5 : IntKind.u64.wrap (v6 : Int) = v6 := by rw [IntKind.wrap_u64]; omega
  have h0 := HH.out
  have h1 : ((y6).setCell ⟨gh, 4, none⟩ (.int .u64 (v5 : Nat))).heap[gh]? = some (.cells #[.int .u32 (v1 : Nat), .int .u32 (v2 : Nat), .int .u64 (v3 : Nat), .int .u64 (v4 : Nat), .int .u64 (v5 : Nat), .int .u64 0] 41 (0, 0)) := Go.heap_setCell_same _ gh 4 _ _ _ h0
  have h2 : (((y6).setCell ⟨gh, 4, none⟩ (.int .u64 (v5 : Nat))).setCell ⟨gh, 5, none⟩ (.int .u64 (v6 : Nat))).heap[gh]? = some (.cells #[.int .u32 (v1 : Nat), .int .u32 (v2 : Nat), .int .u64 (v3 : Nat), .int .u64 (v4 : Nat), .int .u64 (v5 : Nat), .int .u64 (v6 : Nat)] 41 (0, 0)) := Go.heap_setCell_same _ gh 5 _ _ _ h1
  replace HH := Lib.hid h2
  replace HWK := Lib.hid (HWK.out.below (w' := ((y6).setCell ⟨gh, 4, none⟩ (.int .u64 (v5 : Nat))).setCell ⟨gh, 5, none⟩ (.int .u64 (v6 : Nat))) (((Below.refl _ _).setCell (N4.out) _).setCell (N4.out) _))
  replace HR : Hid ((((y6).setCell ⟨gh, 4, none⟩ (.int .u64 (v5 : Nat))).setCell ⟨gh, 5, none⟩ (.int .u64 (v6 : Nat))).heap[w.heap.size]? = some (.cells #[.int .u32 0, .int .u32 0, .int .u64 0, .int .u64 0, .int .u64 0, .int .u64 0] 41 (0, 0))) := by
    show _ = _
    rw [Below.heap_setCell _ _ _ _ N3.out, Below.heap_setCell _ _ _ _ N3.out]
    exact HR.out
  replace HB : Hid (Below w.heap.size w (((y6).setCell ⟨gh, 4, none⟩ (.int .u64 (v5 : Nat))).setCell ⟨gh, 5, none⟩ (.int .u64 (v6 : Nat)))) := (HB.out.setCell N6.out _).setCell N6.out _
  clear h0 h1 h2
  go_upto_region 8 with fail
  generalize ((y6).setCell ⟨gh, 4, none⟩ (.int .u64 (v5 : Nat))).setCell ⟨gh, 5, none⟩ (.int .u64 (v6 : Nat)) = x3 at *
  clear c4 q4 wp4 c5 q5 wp5
  obtain ⟨a, e0, hc, ha, hcase⟩ := HWK.out
  rcases hcase with ⟨rfl, rfl, hq⟩ | ⟨rfl, hn⟩
  · obtain ⟨⟨⟨⟨⟨⟨⟨⟨⟨_, _, em⟩, _, ef⟩, _, _⟩, _, e1⟩, _, e2⟩, _, e3⟩, _, e4⟩, _, e5⟩, hk6, e6⟩ := hq
    have h56 : 56 ≤ t.size := by omega
    obtain ⟨tl, htl⟩ : ∃ x : Nat, ((t.size : Int) - 12) = (x : Int) ∧ x < 1000001 := ⟨t.size - 12, by omega, by omega⟩
    have hwl : IntKind.u64.wrap ((t.size : Int) - 12) = tl := by rw [IntKind.wrap_u64]; omega
    have HOK : Hid (∀ bm bb : Bool, bm = decide (nAt t 0 4 = 101075792) → bb = decide (fo = tl) → WdOk t v1 v2 v3 v4 v5 v6 (bm && bb)) := by
      intro bm bb h1 h2
      unfold WdOk
      have hb : wdB t = (bm && bb) := by
        unfold wdB
        rw [h1, h2, decide_eq_true h56, Bool.true_and, ef]
        congr 1
        exact decide_eq_decide.mpr (by simp only [Nat.zero_add]; omega)
      refine ⟨hb.symm, fun _ => ⟨e1, e2, e3, e4, e5, e6⟩⟩
    have hbm : (mk.toList == (⟨#[80, 75, 6, 6]⟩ : ByteArray).toList) = decide (nAt t 0 4 = 101075792) := by
      rw [em]
      exact mark_beq (by omega) rfl (by omega)
    have hbb : (((fo : Nat) : Int) == (tl : Nat)) = decide (fo = tl) := beqN _ _
    obtain ⟨bm, hbm2⟩ : ∃ x, x = decide (nAt t 0 4 = 101075792) := ⟨_, rfl⟩
    obtain ⟨bb, hbb2⟩ : ∃ x, x = decide (fo = tl) := ⟨_, rfl⟩
    rw [← hbm2] at hbm
    rw [← hbb2] at hbb
    have hok := HOK.out bm bb hbm2 hbb2
    obtain ⟨htl, htlb⟩ := htl
    have hwi : IntKind.i64.wrap (tl : Int) = tl := by rw [IntKind.wrap_i64]; omega
    have hwu : IntKind.u64.wrap (tl : Int) = tl := by rw [IntKind.wrap_u64]; omega
    have hq3 : ((t.size : Int) - 12) = (tl : Int) := htl
    have hlit : (⟨#[80, 75, 6, 6]⟩ : ByteArray).toList = [80, 75, 6, 6] := Lib.toList_data _
    rw [hlit] at hbm
    clear hlit
    clear em ef e1 e2 e3 e4 e5 e6 hk6 hbm2 hbb2 HOK
    cases bm
    · have hmk : ¬ mk.toList = [80, 75, 6, 6] := fun h => by rw [h] at hbm; exact absurd hbm (by decide)
      clear hbm
      have hok2 : WdOk t v1 v2 v3 v4 v5 v6 false := hok
      have hS0 : (fun ww => ww.heap[gh]? = some (.cells #[.int .u32 (v1 : Nat), .int .u32 (v2 : Nat), .int .u64 (v3 : Nat), .int .u64 (v4 : Nat), .int .u64 (v5 : Nat), .int .u64 (v6 : Nat)] 41 (0, 0)) ∧ Below w.heap.size w ww) x3.drew := ⟨HH.out, HB.out.drew⟩
      have HR0 : Hid (x3.drew.heap[w.heap.size]? = some (.cells #[.int .u32 0, .int .u32 0, .int .u64 0, .int .u64 0, .int .u64 0, .int .u64 0] 41 (0, 0))) := HR
      have HER := Lib.hid (err_any _ t (4 + 8 + 4 + 4 + 4 + 8 + 8 + 8 + 8) 0 x3.drew (hc.cur.drewN 1))
      refine wp_region_held_drew (S := fun ww => ww.heap[gh]? = some (.cells #[.int .u32 (v1 : Nat), .int .u32 (v2 : Nat), .int .u64 (v3 : Nat), .int .u64 (v4 : Nat), .int .u64 (v5 : Nat), .int .u64 (v6 : Nat)] 41 (0, 0)) ∧ Below w.heap.size w ww) (by kernel_rfl) hS0 (fun hSA => ?_)
      clear hS0 hc HH HB HR HWK
      generalize x3.drew = x4 at *
      refine wpAnyH_take (i := 0) (v := .agg #[.int .u32 (v1 : Nat), .int .u32 (v2 : Nat), .int .u64 (v3 : Nat), .int .u64 (v4 : Nat), .int .u64 (v5 : Nat), .int .u64 (v6 : Nat)]) rfl (by kernel_rfl) (by kernel_rfl) (by kernel_rfl) (fun _ _ _ h => h) (Or.inl ⟨by kernel_rfl, ?_⟩) (by assumption) ?_
      · intro ww hSw
        have hc0 : ww.cell? ⟨gh, 0, none⟩ = some (.int .u32 (v1 : Nat)) := by rw [Lib.cell_of_heap hSw.1]; rfl
        have hc1 : ww.cell? ⟨gh, 1, none⟩ = some (.int .u32 (v2 : Nat)) := by rw [Lib.cell_of_heap hSw.1]; rfl
        have hc2 : ww.cell? ⟨gh, 2, none⟩ = some (.int .u64 (v3 : Nat)) := by rw [Lib.cell_of_heap hSw.1]; rfl
        have hc3 : ww.cell? ⟨gh, 3, none⟩ = some (.int .u64 (v4 : Nat)) := by rw [Lib.cell_of_heap hSw.1]; rfl
        have hc4 : ww.cell? ⟨gh, 4, none⟩ = some (.int .u64 (v5 : Nat)) := by rw [Lib.cell_of_heap hSw.1]; rfl
        have hc5 : ww.cell? ⟨gh, 5, none⟩ = some (.int .u64 (v6 : Nat)) := by rw [Lib.cell_of_heap hSw.1]; rfl
        clear hSw
        go_simp
        all_goals (try omega)
        all_goals (try assumption)
        all_goals (try rfl)
      try simp only [Act.put, List.setIfInBounds_toArray, List.set_cons_zero, List.set_cons_succ, List.getElem_toArray, List.getElem_cons_succ, List.getElem_cons_zero]
      refine wpAnyH_take (i := 1) (v := .pointer (some ⟨w0.heap.size, 0, none⟩)) rfl (by kernel_rfl) (by kernel_rfl) (by kernel_rfl) (fun _ _ _ h => h) (Or.inl ⟨by kernel_rfl, ?_⟩) (by assumption) ?_
      · intro ww hSw
        clear hSw
        go_simp
        all_goals (try omega)
        all_goals (try assumption)
        all_goals (try rfl)
      try simp only [Act.put, List.setIfInBounds_toArray, List.set_cons_zero, List.set_cons_succ, List.getElem_toArray, List.getElem_cons_succ, List.getElem_cons_zero]
      refine wpAnyH_ready (rs := [2]) (by kernel_rfl) (by simp) ?_
      refine AllReadyH.cons rfl (fun K hK => ?_) AllReadyH.nil
      go_simp
      refine (HER.out).mono ?_
      rintro r w8 ⟨rfl, rfl⟩
      refine hK.out _ _ hSA (fun hS9 => ?_)
      clear hK K
      try simp only [Act.put, List.setIfInBounds_toArray, List.set_cons_zero, List.set_cons_succ, List.getElem_toArray, List.getElem_cons_succ, List.getElem_cons_zero]
      refine wpAnyH_take (i := 3) (v := .bool true) rfl (by kernel_rfl) (by kernel_rfl) (by kernel_rfl) (fun _ _ _ h => h) (Or.inl ⟨by kernel_rfl, ?_⟩) (by assumption) ?_
      · intro ww hSw
        clear hSw
        go_simp
        all_goals (try omega)
        all_goals (try assumption)
        all_goals (try rfl)
      try simp only [Act.put, List.setIfInBounds_toArray, List.set_cons_zero, List.set_cons_succ, List.getElem_toArray, List.getElem_cons_succ, List.getElem_cons_zero]
      refine wpAnyH_take (i := 4) (v := .bool true) rfl (by kernel_rfl) (by kernel_rfl) (by kernel_rfl) (fun _ _ _ h => h) (Or.inl ⟨by kernel_rfl, ?_⟩) (by assumption) ?_
      · intro ww hSw
        clear hSw
        go_simp
        all_goals (try omega)
        all_goals (try assumption)
        all_goals (try rfl)
      try simp only [Act.put, List.setIfInBounds_toArray, List.set_cons_zero, List.set_cons_succ, List.getElem_toArray, List.getElem_cons_succ, List.getElem_cons_zero]
      refine wpAnyH_take (i := 5) (v := .string mk) rfl (by kernel_rfl) (by kernel_rfl) (by kernel_rfl) (fun _ _ _ h => h) (Or.inl ⟨by kernel_rfl, ?_⟩) (by assumption) ?_
      · intro ww hSw
        clear hSw
        go_simp
        all_goals (try omega)
        all_goals (try assumption)
        all_goals (try rfl)
      try simp only [Act.put, List.setIfInBounds_toArray, List.set_cons_zero, List.set_cons_succ, List.getElem_toArray, List.getElem_cons_succ, List.getElem_cons_zero]
      refine wpAnyH_take (i := 6) (v := .bool false) rfl (by kernel_rfl) (by kernel_rfl) (by kernel_rfl) (fun _ _ _ h => h) (Or.inl ⟨by kernel_rfl, ?_⟩) (by assumption) ?_
      · intro ww hSw
        clear hSw
        go_simp
        all_goals (try omega)
        all_goals (try assumption)
        all_goals (try rfl)
      try simp only [Act.put, List.setIfInBounds_toArray, List.set_cons_zero, List.set_cons_succ, List.getElem_toArray, List.getElem_cons_succ, List.getElem_cons_zero]
      refine wpAnyH_take (i := 7) (v := .bool false) rfl (by kernel_rfl) (by kernel_rfl) (by kernel_rfl) (fun _ _ _ h => h) (Or.inl ⟨by kernel_rfl, ?_⟩) (by assumption) ?_
      · intro ww hSw
        clear hSw
        go_simp
        all_goals (try omega)
        all_goals (try assumption)
        all_goals (try rfl)
      try simp only [Act.put, List.setIfInBounds_toArray, List.set_cons_zero, List.set_cons_succ, List.getElem_toArray, List.getElem_cons_succ, List.getElem_cons_zero]
      refine wpAnyH_take (i := 8) (v := .bool false) rfl (by kernel_rfl) (by kernel_rfl) (by kernel_rfl) (fun _ _ _ h => h) (Or.inl ⟨by kernel_rfl, ?_⟩) (by assumption) ?_
      · intro ww hSw
        clear hSw
        go_simp
        all_goals (try omega)
        all_goals (try assumption)
        all_goals (try rfl)
      try simp only [Act.put, List.setIfInBounds_toArray, List.set_cons_zero, List.set_cons_succ, List.getElem_toArray, List.getElem_cons_succ, List.getElem_cons_zero]
      refine wpAnyH_take (i := 9) (v := undef) rfl (by kernel_rfl) (by kernel_rfl) (by kernel_rfl) (fun _ _ _ h => h) (Or.inr ⟨by kernel_rfl, rfl⟩) (by assumption) ?_
      try simp only [Act.put, List.setIfInBounds_toArray, List.set_cons_zero, List.set_cons_succ, List.getElem_toArray, List.getElem_cons_succ, List.getElem_cons_zero]
      refine wpAnyH_take (i := 10) (v := undef) rfl (by kernel_rfl) (by kernel_rfl) (by kernel_rfl) (fun _ _ _ h => h) (Or.inr ⟨by kernel_rfl, rfl⟩) (by assumption) ?_
      try simp only [Act.put, List.setIfInBounds_toArray, List.set_cons_zero, List.set_cons_succ, List.getElem_toArray, List.getElem_cons_succ, List.getElem_cons_zero]
      refine wpAnyH_take (i := 11) (v := undef) rfl (by kernel_rfl) (by kernel_rfl) (by kernel_rfl) (fun _ _ _ h => h) (Or.inr ⟨by kernel_rfl, rfl⟩) (by assumption) ?_
      try simp only [Act.put, List.setIfInBounds_toArray, List.set_cons_zero, List.set_cons_succ, List.getElem_toArray, List.getElem_cons_succ, List.getElem_cons_zero]
      refine wpAnyH_take (i := 12) (v := undef) rfl (by kernel_rfl) (by kernel_rfl) (by kernel_rfl) (fun _ _ _ h => h) (Or.inr ⟨by kernel_rfl, rfl⟩) (by assumption) ?_
      try simp only [Act.put, List.setIfInBounds_toArray, List.set_cons_zero, List.set_cons_succ, List.getElem_toArray, List.getElem_cons_succ, List.getElem_cons_zero]
      refine wpAnyH_take (i := 13) (v := undef) rfl (by kernel_rfl) (by kernel_rfl) (by kernel_rfl) (fun _ _ _ h => h) (Or.inr ⟨by kernel_rfl, rfl⟩) (by assumption) ?_
      try simp only [Act.put, List.setIfInBounds_toArray, List.set_cons_zero, List.set_cons_succ, List.getElem_toArray, List.getElem_cons_succ, List.getElem_cons_zero]
      refine wpAnyH_take (i := 14) (v := undef) rfl (by kernel_rfl) (by kernel_rfl) (by kernel_rfl) (fun _ _ _ h => h) (Or.inr ⟨by kernel_rfl, rfl⟩) (by assumption) ?_
      try simp only [Act.put, List.setIfInBounds_toArray, List.set_cons_zero, List.set_cons_succ, List.getElem_toArray, List.getElem_cons_succ, List.getElem_cons_zero]
      refine wpAnyH_take (i := 15) (v := .bool false) rfl (by kernel_rfl) (by kernel_rfl) (by kernel_rfl) (fun _ _ _ h => h) (Or.inl ⟨by kernel_rfl, ?_⟩) (by assumption) ?_
      · intro ww hSw
        clear hSw
        go_simp
        all_goals (try omega)
        all_goals (try assumption)
        all_goals (try rfl)
      try simp only [Act.put, List.setIfInBounds_toArray, List.set_cons_zero, List.set_cons_succ, List.getElem_toArray, List.getElem_cons_succ, List.getElem_cons_zero]
      refine wpAnyH_ready (rs := [16]) (by kernel_rfl) (by simp) ?_
      refine AllReadyH.cons rfl (fun K hK => ?_) AllReadyH.nil
      rw [if_pos (by rfl)]
      refine wp_store_row 41 (.tmp 2) (.tmp 34) rfl w.heap.size #[.int .u32 (v1 : Nat), .int .u32 (v2 : Nat), .int .u64 (v3 : Nat), .int .u64 (v4 : Nat), .int .u64 (v5 : Nat), .int .u64 (v6 : Nat)] rfl rfl 41 #[.int .u32 0, .int .u32 0, .int .u64 0, .int .u64 0, .int .u64 0, .int .u64 0] HR0.out info_rec rfl (one_rec v1 v2 v3 v4 v5 v6) ?_
      have hST : (fun ww => ww.heap[gh]? = some (.cells #[.int .u32 (v1 : Nat), .int .u32 (v2 : Nat), .int .u64 (v3 : Nat), .int .u64 (v4 : Nat), .int .u64 (v5 : Nat), .int .u64 (v6 : Nat)] 41 (0, 0)) ∧ Below w.heap.size w ww) (x4.setRow w.heap.size #[.int .u32 (v1 : Nat), .int .u32 (v2 : Nat), .int .u64 (v3 : Nat), .int .u64 (v4 : Nat), .int .u64 (v5 : Nat), .int .u64 (v6 : Nat)]) := ⟨(setRow_other _ _ _ _ (fun h => N3.out h.symm)).trans hS9.1, below_setRow hS9.2 (Nat.le_refl _) _⟩
      refine hK.out _ _ hST (fun hS10 => ?_)
      clear hK K
      try simp only [Act.put, List.setIfInBounds_toArray, List.set_cons_zero, List.set_cons_succ, List.getElem_toArray, List.getElem_cons_succ, List.getElem_cons_zero]
      refine wpAnyH_take (i := 17) (v := .bool false) rfl (by kernel_rfl) (by kernel_rfl) (by kernel_rfl) (fun _ _ _ h => h) (Or.inl ⟨by kernel_rfl, ?_⟩) (by assumption) ?_
      · intro ww hSw
        clear hSw
        go_simp
        all_goals (try omega)
        all_goals (try assumption)
        all_goals (try rfl)
      try simp only [Act.put, List.setIfInBounds_toArray, List.set_cons_zero, List.set_cons_succ, List.getElem_toArray, List.getElem_cons_succ, List.getElem_cons_zero]
      have HFB := Lib.hid hS10.2
      refine wpAnyH_done (by kernel_rfl) ?_ _
      clear hSA hS9 hST hS10
      go_wp2_with fail
      exact bodyPost_ret (results_ct_row' rfl _ _ w.heap.size 41 #[.int .u32 (v1 : Nat), .int .u32 (v2 : Nat), .int .u64 (v3 : Nat), .int .u64 (v4 : Nat), .int .u64 (v5 : Nat), .int .u64 (v6 : Nat)] (0, 0) _ rfl (heap_setRow_same _ _ _ _ _ HR0.out) Try.underlying41 rfl info_rec) rfl ⟨v1, v2, v3, v4, v5, v6, false, rfl, hok2, HFB.out⟩
    · have hmk : mk.toList = [80, 75, 6, 6] := beq_iff_eq.1 hbm
      clear hbm
      have hok2 : WdOk t v1 v2 v3 v4 v5 v6 bb := by rw [Bool.true_and] at hok; exact hok
      have hS0 : (fun ww => ww.heap[gh]? = some (.cells #[.int .u32 (v1 : Nat), .int .u32 (v2 : Nat), .int .u64 (v3 : Nat), .int .u64 (v4 : Nat), .int .u64 (v5 : Nat), .int .u64 (v6 : Nat)] 41 (0, 0)) ∧ Below w.heap.size w ww) x3.drew := ⟨HH.out, HB.out.drew⟩
      have HR0 : Hid (x3.drew.heap[w.heap.size]? = some (.cells #[.int .u32 0, .int .u32 0, .int .u64 0, .int .u64 0, .int .u64 0, .int .u64 0] 41 (0, 0))) := HR
      have HER := Lib.hid (err_any _ t (4 + 8 + 4 + 4 + 4 + 8 + 8 + 8 + 8) 0 x3.drew (hc.cur.drewN 1))
      refine wp_region_held_drew (S := fun ww => ww.heap[gh]? = some (.cells #[.int .u32 (v1 : Nat), .int .u32 (v2 : Nat), .int .u64 (v3 : Nat), .int .u64 (v4 : Nat), .int .u64 (v5 : Nat), .int .u64 (v6 : Nat)] 41 (0, 0)) ∧ Below w.heap.size w ww) (by kernel_rfl) hS0 (fun hSA => ?_)
      clear hS0 hc HH HB HR HWK
      generalize x3.drew = x4 at *
      refine wpAnyH_take (i := 0) (v := .agg #[.int .u32 (v1 : Nat), .int .u32 (v2 : Nat), .int .u64 (v3 : Nat), .int .u64 (v4 : Nat), .int .u64 (v5 : Nat), .int .u64 (v6 : Nat)]) rfl (by kernel_rfl) (by kernel_rfl) (by kernel_rfl) (fun _ _ _ h => h) (Or.inl ⟨by kernel_rfl, ?_⟩) (by assumption) ?_
      · intro ww hSw
        have hc0 : ww.cell? ⟨gh, 0, none⟩ = some (.int .u32 (v1 : Nat)) := by rw [Lib.cell_of_heap hSw.1]; rfl
        have hc1 : ww.cell? ⟨gh, 1, none⟩ = some (.int .u32 (v2 : Nat)) := by rw [Lib.cell_of_heap hSw.1]; rfl
        have hc2 : ww.cell? ⟨gh, 2, none⟩ = some (.int .u64 (v3 : Nat)) := by rw [Lib.cell_of_heap hSw.1]; rfl
        have hc3 : ww.cell? ⟨gh, 3, none⟩ = some (.int .u64 (v4 : Nat)) := by rw [Lib.cell_of_heap hSw.1]; rfl
        have hc4 : ww.cell? ⟨gh, 4, none⟩ = some (.int .u64 (v5 : Nat)) := by rw [Lib.cell_of_heap hSw.1]; rfl
        have hc5 : ww.cell? ⟨gh, 5, none⟩ = some (.int .u64 (v6 : Nat)) := by rw [Lib.cell_of_heap hSw.1]; rfl
        clear hSw
        go_simp
        all_goals (try omega)
        all_goals (try assumption)
        all_goals (try rfl)
      try simp only [Act.put, List.setIfInBounds_toArray, List.set_cons_zero, List.set_cons_succ, List.getElem_toArray, List.getElem_cons_succ, List.getElem_cons_zero]
      refine wpAnyH_take (i := 1) (v := .pointer (some ⟨w0.heap.size, 0, none⟩)) rfl (by kernel_rfl) (by kernel_rfl) (by kernel_rfl) (fun _ _ _ h => h) (Or.inl ⟨by kernel_rfl, ?_⟩) (by assumption) ?_
      · intro ww hSw
        clear hSw
        go_simp
        all_goals (try omega)
        all_goals (try assumption)
        all_goals (try rfl)
      try simp only [Act.put, List.setIfInBounds_toArray, List.set_cons_zero, List.set_cons_succ, List.getElem_toArray, List.getElem_cons_succ, List.getElem_cons_zero]
      refine wpAnyH_ready (rs := [2]) (by kernel_rfl) (by simp) ?_
      refine AllReadyH.cons rfl (fun K hK => ?_) AllReadyH.nil
      go_simp
      refine (HER.out).mono ?_
      rintro r w8 ⟨rfl, rfl⟩
      refine hK.out _ _ hSA (fun hS9 => ?_)
      clear hK K
      try simp only [Act.put, List.setIfInBounds_toArray, List.set_cons_zero, List.set_cons_succ, List.getElem_toArray, List.getElem_cons_succ, List.getElem_cons_zero]
      refine wpAnyH_take (i := 3) (v := .bool true) rfl (by kernel_rfl) (by kernel_rfl) (by kernel_rfl) (fun _ _ _ h => h) (Or.inl ⟨by kernel_rfl, ?_⟩) (by assumption) ?_
      · intro ww hSw
        clear hSw
        go_simp
        all_goals (try omega)
        all_goals (try assumption)
        all_goals (try rfl)
      try simp only [Act.put, List.setIfInBounds_toArray, List.set_cons_zero, List.set_cons_succ, List.getElem_toArray, List.getElem_cons_succ, List.getElem_cons_zero]
      refine wpAnyH_take (i := 4) (v := .bool true) rfl (by kernel_rfl) (by kernel_rfl) (by kernel_rfl) (fun _ _ _ h => h) (Or.inl ⟨by kernel_rfl, ?_⟩) (by assumption) ?_
      · intro ww hSw
        clear hSw
        go_simp
        all_goals (try omega)
        all_goals (try assumption)
        all_goals (try rfl)
      try simp only [Act.put, List.setIfInBounds_toArray, List.set_cons_zero, List.set_cons_succ, List.getElem_toArray, List.getElem_cons_succ, List.getElem_cons_zero]
      refine wpAnyH_take (i := 5) (v := .string mk) rfl (by kernel_rfl) (by kernel_rfl) (by kernel_rfl) (fun _ _ _ h => h) (Or.inl ⟨by kernel_rfl, ?_⟩) (by assumption) ?_
      · intro ww hSw
        clear hSw
        go_simp
        all_goals (try omega)
        all_goals (try assumption)
        all_goals (try rfl)
      try simp only [Act.put, List.setIfInBounds_toArray, List.set_cons_zero, List.set_cons_succ, List.getElem_toArray, List.getElem_cons_succ, List.getElem_cons_zero]
      refine wpAnyH_take (i := 6) (v := .bool true) rfl (by kernel_rfl) (by kernel_rfl) (by kernel_rfl) (fun _ _ _ h => h) (Or.inl ⟨by kernel_rfl, ?_⟩) (by assumption) ?_
      · intro ww hSw
        clear hSw
        go_simp
        all_goals (try omega)
        all_goals (try assumption)
        all_goals (try rfl)
      try simp only [Act.put, List.setIfInBounds_toArray, List.set_cons_zero, List.set_cons_succ, List.getElem_toArray, List.getElem_cons_succ, List.getElem_cons_zero]
      refine wpAnyH_take (i := 7) (v := .bool true) rfl (by kernel_rfl) (by kernel_rfl) (by kernel_rfl) (fun _ _ _ h => h) (Or.inl ⟨by kernel_rfl, ?_⟩) (by assumption) ?_
      · intro ww hSw
        clear hSw
        go_simp
        all_goals (try omega)
        all_goals (try assumption)
        all_goals (try rfl)
      try simp only [Act.put, List.setIfInBounds_toArray, List.set_cons_zero, List.set_cons_succ, List.getElem_toArray, List.getElem_cons_succ, List.getElem_cons_zero]
      refine wpAnyH_take (i := 8) (v := .bool true) rfl (by kernel_rfl) (by kernel_rfl) (by kernel_rfl) (fun _ _ _ h => h) (Or.inl ⟨by kernel_rfl, ?_⟩) (by assumption) ?_
      · intro ww hSw
        clear hSw
        go_simp
        all_goals (try omega)
        all_goals (try assumption)
        all_goals (try rfl)
      try simp only [Act.put, List.setIfInBounds_toArray, List.set_cons_zero, List.set_cons_succ, List.getElem_toArray, List.getElem_cons_succ, List.getElem_cons_zero]
      refine wpAnyH_take (i := 9) (v := .int .u64 (fo : Nat)) rfl (by kernel_rfl) (by kernel_rfl) (by kernel_rfl) (fun _ _ _ h => h) (Or.inl ⟨by kernel_rfl, ?_⟩) (by assumption) ?_
      · intro ww hSw
        clear hSw
        go_simp
        all_goals (try omega)
        all_goals (try assumption)
        all_goals (try rfl)
      try simp only [Act.put, List.setIfInBounds_toArray, List.set_cons_zero, List.set_cons_succ, List.getElem_toArray, List.getElem_cons_succ, List.getElem_cons_zero]
      refine wpAnyH_take (i := 10) (v := .string t) rfl (by kernel_rfl) (by kernel_rfl) (by kernel_rfl) (fun _ _ _ h => h) (Or.inl ⟨by kernel_rfl, ?_⟩) (by assumption) ?_
      · intro ww hSw
        clear hSw
        go_simp
        all_goals (try omega)
        all_goals (try assumption)
        all_goals (try rfl)
      try simp only [Act.put, List.setIfInBounds_toArray, List.set_cons_zero, List.set_cons_succ, List.getElem_toArray, List.getElem_cons_succ, List.getElem_cons_zero]
      refine wpAnyH_take (i := 11) (v := .int .i64 (t.size : Nat)) rfl (by kernel_rfl) (by kernel_rfl) (by kernel_rfl) (fun _ _ _ h => h) (Or.inl ⟨by kernel_rfl, ?_⟩) (by assumption) ?_
      · intro ww hSw
        clear hSw
        go_simp
        all_goals (try omega)
        all_goals (try assumption)
        all_goals (try rfl)
      try simp only [Act.put, List.setIfInBounds_toArray, List.set_cons_zero, List.set_cons_succ, List.getElem_toArray, List.getElem_cons_succ, List.getElem_cons_zero]
      refine wpAnyH_take (i := 12) (v := .int .i64 (tl : Nat)) rfl (by kernel_rfl) (by kernel_rfl) (by kernel_rfl) (fun _ _ _ h => h) (Or.inl ⟨by kernel_rfl, ?_⟩) (by assumption) ?_
      · intro ww hSw
        clear hSw
        go_simp
        all_goals (try omega)
        all_goals (try assumption)
        all_goals (try rfl)
      try simp only [Act.put, List.setIfInBounds_toArray, List.set_cons_zero, List.set_cons_succ, List.getElem_toArray, List.getElem_cons_succ, List.getElem_cons_zero]
      refine wpAnyH_take (i := 13) (v := .int .u64 (tl : Nat)) rfl (by kernel_rfl) (by kernel_rfl) (by kernel_rfl) (fun _ _ _ h => h) (Or.inl ⟨by kernel_rfl, ?_⟩) (by assumption) ?_
      · intro ww hSw
        clear hSw
        go_simp
        all_goals (try omega)
        all_goals (try assumption)
        all_goals (try rfl)
      try simp only [Act.put, List.setIfInBounds_toArray, List.set_cons_zero, List.set_cons_succ, List.getElem_toArray, List.getElem_cons_succ, List.getElem_cons_zero]
      refine wpAnyH_take (i := 14) (v := .bool bb) rfl (by kernel_rfl) (by kernel_rfl) (by kernel_rfl) (fun _ _ _ h => h) (Or.inl ⟨by kernel_rfl, ?_⟩) (by assumption) ?_
      · intro ww hSw
        clear hSw
        go_simp
        all_goals (try omega)
        all_goals (try assumption)
        all_goals (try rfl)
      try simp only [Act.put, List.setIfInBounds_toArray, List.set_cons_zero, List.set_cons_succ, List.getElem_toArray, List.getElem_cons_succ, List.getElem_cons_zero]
      refine wpAnyH_take (i := 15) (v := .bool bb) rfl (by kernel_rfl) (by kernel_rfl) (by kernel_rfl) (fun _ _ _ h => h) (Or.inl ⟨by kernel_rfl, ?_⟩) (by assumption) ?_
      · intro ww hSw
        clear hSw
        go_simp
        all_goals (try omega)
        all_goals (try assumption)
        all_goals (try rfl)
      try simp only [Act.put, List.setIfInBounds_toArray, List.set_cons_zero, List.set_cons_succ, List.getElem_toArray, List.getElem_cons_succ, List.getElem_cons_zero]
      refine wpAnyH_ready (rs := [16]) (by kernel_rfl) (by simp) ?_
      refine AllReadyH.cons rfl (fun K hK => ?_) AllReadyH.nil
      rw [if_pos (by rfl)]
      refine wp_store_row 41 (.tmp 2) (.tmp 34) rfl w.heap.size #[.int .u32 (v1 : Nat), .int .u32 (v2 : Nat), .int .u64 (v3 : Nat), .int .u64 (v4 : Nat), .int .u64 (v5 : Nat), .int .u64 (v6 : Nat)] rfl rfl 41 #[.int .u32 0, .int .u32 0, .int .u64 0, .int .u64 0, .int .u64 0, .int .u64 0] HR0.out info_rec rfl (one_rec v1 v2 v3 v4 v5 v6) ?_
      have hST : (fun ww => ww.heap[gh]? = some (.cells #[.int .u32 (v1 : Nat), .int .u32 (v2 : Nat), .int .u64 (v3 : Nat), .int .u64 (v4 : Nat), .int .u64 (v5 : Nat), .int .u64 (v6 : Nat)] 41 (0, 0)) ∧ Below w.heap.size w ww) (x4.setRow w.heap.size #[.int .u32 (v1 : Nat), .int .u32 (v2 : Nat), .int .u64 (v3 : Nat), .int .u64 (v4 : Nat), .int .u64 (v5 : Nat), .int .u64 (v6 : Nat)]) := ⟨(setRow_other _ _ _ _ (fun h => N3.out h.symm)).trans hS9.1, below_setRow hS9.2 (Nat.le_refl _) _⟩
      refine hK.out _ _ hST (fun hS10 => ?_)
      clear hK K
      try simp only [Act.put, List.setIfInBounds_toArray, List.set_cons_zero, List.set_cons_succ, List.getElem_toArray, List.getElem_cons_succ, List.getElem_cons_zero]
      refine wpAnyH_take (i := 17) (v := .bool bb) rfl (by kernel_rfl) (by kernel_rfl) (by kernel_rfl) (fun _ _ _ h => h) (Or.inl ⟨by kernel_rfl, ?_⟩) (by assumption) ?_
      · intro ww hSw
        clear hSw
        go_simp
        all_goals (try omega)
        all_goals (try assumption)
        all_goals (try rfl)
      try simp only [Act.put, List.setIfInBounds_toArray, List.set_cons_zero, List.set_cons_succ, List.getElem_toArray, List.getElem_cons_succ, List.getElem_cons_zero]
      have HFB := Lib.hid hS10.2
      refine wpAnyH_done (by kernel_rfl) ?_ _
      clear hSA hS9 hST hS10
      go_wp2_with fail
      exact bodyPost_ret (results_ct_row' rfl _ _ w.heap.size 41 #[.int .u32 (v1 : Nat), .int .u32 (v2 : Nat), .int .u64 (v3 : Nat), .int .u64 (v4 : Nat), .int .u64 (v5 : Nat), .int .u64 (v6 : Nat)] (0, 0) _ rfl (heap_setRow_same _ _ _ _ _ HR0.out) Try.underlying41 rfl info_rec) rfl ⟨v1, v2, v3, v4, v5, v6, bb, rfl, hok2, HFB.out⟩
  · have hok2 : WdOk t v1 v2 v3 v4 v5 v6 false := wd_short hn
    have hS0 : (fun ww => ww.heap[gh]? = some (.cells #[.int .u32 (v1 : Nat), .int .u32 (v2 : Nat), .int .u64 (v3 : Nat), .int .u64 (v4 : Nat), .int .u64 (v5 : Nat), .int .u64 (v6 : Nat)] 41 (0, 0)) ∧ Below w.heap.size w ww) x3.drew := ⟨HH.out, HB.out.drew⟩
    have HR0 : Hid (x3.drew.heap[w.heap.size]? = some (.cells #[.int .u32 0, .int .u32 0, .int .u64 0, .int .u64 0, .int .u64 0, .int .u64 0] 41 (0, 0))) := HR
    have HER := Lib.hid (err_any _ t a 3 x3.drew (hc.cur.drewN 1))
    refine wp_region_held_drew (S := fun ww => ww.heap[gh]? = some (.cells #[.int .u32 (v1 : Nat), .int .u32 (v2 : Nat), .int .u64 (v3 : Nat), .int .u64 (v4 : Nat), .int .u64 (v5 : Nat), .int .u64 (v6 : Nat)] 41 (0, 0)) ∧ Below w.heap.size w ww) (by kernel_rfl) hS0 (fun hSA => ?_)
    clear hS0 hc HH HB HR HWK
    generalize x3.drew = x4 at *
    refine wpAnyH_take (i := 0) (v := .agg #[.int .u32 (v1 : Nat), .int .u32 (v2 : Nat), .int .u64 (v3 : Nat), .int .u64 (v4 : Nat), .int .u64 (v5 : Nat), .int .u64 (v6 : Nat)]) rfl (by kernel_rfl) (by kernel_rfl) (by kernel_rfl) (fun _ _ _ h => h) (Or.inl ⟨by kernel_rfl, ?_⟩) (by assumption) ?_
    · intro ww hSw
      have hc0 : ww.cell? ⟨gh, 0, none⟩ = some (.int .u32 (v1 : Nat)) := by rw [Lib.cell_of_heap hSw.1]; rfl
      have hc1 : ww.cell? ⟨gh, 1, none⟩ = some (.int .u32 (v2 : Nat)) := by rw [Lib.cell_of_heap hSw.1]; rfl
      have hc2 : ww.cell? ⟨gh, 2, none⟩ = some (.int .u64 (v3 : Nat)) := by rw [Lib.cell_of_heap hSw.1]; rfl
      have hc3 : ww.cell? ⟨gh, 3, none⟩ = some (.int .u64 (v4 : Nat)) := by rw [Lib.cell_of_heap hSw.1]; rfl
      have hc4 : ww.cell? ⟨gh, 4, none⟩ = some (.int .u64 (v5 : Nat)) := by rw [Lib.cell_of_heap hSw.1]; rfl
      have hc5 : ww.cell? ⟨gh, 5, none⟩ = some (.int .u64 (v6 : Nat)) := by rw [Lib.cell_of_heap hSw.1]; rfl
      clear hSw
      go_simp
      all_goals (try omega)
      all_goals (try assumption)
      all_goals (try rfl)
    try simp only [Act.put, List.setIfInBounds_toArray, List.set_cons_zero, List.set_cons_succ, List.getElem_toArray, List.getElem_cons_succ, List.getElem_cons_zero]
    refine wpAnyH_take (i := 1) (v := .pointer (some ⟨w0.heap.size, 0, none⟩)) rfl (by kernel_rfl) (by kernel_rfl) (by kernel_rfl) (fun _ _ _ h => h) (Or.inl ⟨by kernel_rfl, ?_⟩) (by assumption) ?_
    · intro ww hSw
      clear hSw
      go_simp
      all_goals (try omega)
      all_goals (try assumption)
      all_goals (try rfl)
    try simp only [Act.put, List.setIfInBounds_toArray, List.set_cons_zero, List.set_cons_succ, List.getElem_toArray, List.getElem_cons_succ, List.getElem_cons_zero]
    refine wpAnyH_ready (rs := [2]) (by kernel_rfl) (by simp) ?_
    refine AllReadyH.cons rfl (fun K hK => ?_) AllReadyH.nil
    go_simp
    refine (HER.out).mono ?_
    rintro r w8 ⟨rfl, rfl⟩
    refine hK.out _ _ hSA (fun hS9 => ?_)
    clear hK K
    try simp only [Act.put, List.setIfInBounds_toArray, List.set_cons_zero, List.set_cons_succ, List.getElem_toArray, List.getElem_cons_succ, List.getElem_cons_zero]
    refine wpAnyH_take (i := 3) (v := .bool false) rfl (by kernel_rfl) (by kernel_rfl) (by kernel_rfl) (fun _ _ _ h => h) (Or.inl ⟨by kernel_rfl, ?_⟩) (by assumption) ?_
    · intro ww hSw
      clear hSw
      go_simp
      all_goals (try omega)
      all_goals (try assumption)
      all_goals (try rfl)
    try simp only [Act.put, List.setIfInBounds_toArray, List.set_cons_zero, List.set_cons_succ, List.getElem_toArray, List.getElem_cons_succ, List.getElem_cons_zero]
    refine wpAnyH_take (i := 4) (v := .bool false) rfl (by kernel_rfl) (by kernel_rfl) (by kernel_rfl) (fun _ _ _ h => h) (Or.inl ⟨by kernel_rfl, ?_⟩) (by assumption) ?_
    · intro ww hSw
      clear hSw
      go_simp
      all_goals (try omega)
      all_goals (try assumption)
      all_goals (try rfl)
    try simp only [Act.put, List.setIfInBounds_toArray, List.set_cons_zero, List.set_cons_succ, List.getElem_toArray, List.getElem_cons_succ, List.getElem_cons_zero]
    refine wpAnyH_take (i := 5) (v := undef) rfl (by kernel_rfl) (by kernel_rfl) (by kernel_rfl) (fun _ _ _ h => h) (Or.inr ⟨by kernel_rfl, rfl⟩) (by assumption) ?_
    try simp only [Act.put, List.setIfInBounds_toArray, List.set_cons_zero, List.set_cons_succ, List.getElem_toArray, List.getElem_cons_succ, List.getElem_cons_zero]
    refine wpAnyH_take (i := 6) (v := undef) rfl (by kernel_rfl) (by kernel_rfl) (by kernel_rfl) (fun _ _ _ h => h) (Or.inr ⟨by kernel_rfl, rfl⟩) (by assumption) ?_
    try simp only [Act.put, List.setIfInBounds_toArray, List.set_cons_zero, List.set_cons_succ, List.getElem_toArray, List.getElem_cons_succ, List.getElem_cons_zero]
    refine wpAnyH_take (i := 7) (v := .bool false) rfl (by kernel_rfl) (by kernel_rfl) (by kernel_rfl) (fun _ _ _ h => h) (Or.inl ⟨by kernel_rfl, ?_⟩) (by assumption) ?_
    · intro ww hSw
      clear hSw
      go_simp
      all_goals (try omega)
      all_goals (try assumption)
      all_goals (try rfl)
    try simp only [Act.put, List.setIfInBounds_toArray, List.set_cons_zero, List.set_cons_succ, List.getElem_toArray, List.getElem_cons_succ, List.getElem_cons_zero]
    refine wpAnyH_take (i := 8) (v := .bool false) rfl (by kernel_rfl) (by kernel_rfl) (by kernel_rfl) (fun _ _ _ h => h) (Or.inl ⟨by kernel_rfl, ?_⟩) (by assumption) ?_
    · intro ww hSw
      clear hSw
      go_simp
      all_goals (try omega)
      all_goals (try assumption)
      all_goals (try rfl)
    try simp only [Act.put, List.setIfInBounds_toArray, List.set_cons_zero, List.set_cons_succ, List.getElem_toArray, List.getElem_cons_succ, List.getElem_cons_zero]
    refine wpAnyH_take (i := 9) (v := undef) rfl (by kernel_rfl) (by kernel_rfl) (by kernel_rfl) (fun _ _ _ h => h) (Or.inr ⟨by kernel_rfl, rfl⟩) (by assumption) ?_
    try simp only [Act.put, List.setIfInBounds_toArray, List.set_cons_zero, List.set_cons_succ, List.getElem_toArray, List.getElem_cons_succ, List.getElem_cons_zero]
    refine wpAnyH_take (i := 10) (v := undef) rfl (by kernel_rfl) (by kernel_rfl) (by kernel_rfl) (fun _ _ _ h => h) (Or.inr ⟨by kernel_rfl, rfl⟩) (by assumption) ?_
    try simp only [Act.put, List.setIfInBounds_toArray, List.set_cons_zero, List.set_cons_succ, List.getElem_toArray, List.getElem_cons_succ, List.getElem_cons_zero]
    refine wpAnyH_take (i := 11) (v := undef) rfl (by kernel_rfl) (by kernel_rfl) (by kernel_rfl) (fun _ _ _ h => h) (Or.inr ⟨by kernel_rfl, rfl⟩) (by assumption) ?_
    try simp only [Act.put, List.setIfInBounds_toArray, List.set_cons_zero, List.set_cons_succ, List.getElem_toArray, List.getElem_cons_succ, List.getElem_cons_zero]
    refine wpAnyH_take (i := 12) (v := undef) rfl (by kernel_rfl) (by kernel_rfl) (by kernel_rfl) (fun _ _ _ h => h) (Or.inr ⟨by kernel_rfl, rfl⟩) (by assumption) ?_
    try simp only [Act.put, List.setIfInBounds_toArray, List.set_cons_zero, List.set_cons_succ, List.getElem_toArray, List.getElem_cons_succ, List.getElem_cons_zero]
    refine wpAnyH_take (i := 13) (v := undef) rfl (by kernel_rfl) (by kernel_rfl) (by kernel_rfl) (fun _ _ _ h => h) (Or.inr ⟨by kernel_rfl, rfl⟩) (by assumption) ?_
    try simp only [Act.put, List.setIfInBounds_toArray, List.set_cons_zero, List.set_cons_succ, List.getElem_toArray, List.getElem_cons_succ, List.getElem_cons_zero]
    refine wpAnyH_take (i := 14) (v := undef) rfl (by kernel_rfl) (by kernel_rfl) (by kernel_rfl) (fun _ _ _ h => h) (Or.inr ⟨by kernel_rfl, rfl⟩) (by assumption) ?_
    try simp only [Act.put, List.setIfInBounds_toArray, List.set_cons_zero, List.set_cons_succ, List.getElem_toArray, List.getElem_cons_succ, List.getElem_cons_zero]
    refine wpAnyH_take (i := 15) (v := .bool false) rfl (by kernel_rfl) (by kernel_rfl) (by kernel_rfl) (fun _ _ _ h => h) (Or.inl ⟨by kernel_rfl, ?_⟩) (by assumption) ?_
    · intro ww hSw
      clear hSw
      go_simp
      all_goals (try omega)
      all_goals (try assumption)
      all_goals (try rfl)
    try simp only [Act.put, List.setIfInBounds_toArray, List.set_cons_zero, List.set_cons_succ, List.getElem_toArray, List.getElem_cons_succ, List.getElem_cons_zero]
    refine wpAnyH_ready (rs := [16]) (by kernel_rfl) (by simp) ?_
    refine AllReadyH.cons rfl (fun K hK => ?_) AllReadyH.nil
    rw [if_pos (by rfl)]
    refine wp_store_row 41 (.tmp 2) (.tmp 34) rfl w.heap.size #[.int .u32 (v1 : Nat), .int .u32 (v2 : Nat), .int .u64 (v3 : Nat), .int .u64 (v4 : Nat), .int .u64 (v5 : Nat), .int .u64 (v6 : Nat)] rfl rfl 41 #[.int .u32 0, .int .u32 0, .int .u64 0, .int .u64 0, .int .u64 0, .int .u64 0] HR0.out info_rec rfl (one_rec v1 v2 v3 v4 v5 v6) ?_
    have hST : (fun ww => ww.heap[gh]? = some (.cells #[.int .u32 (v1 : Nat), .int .u32 (v2 : Nat), .int .u64 (v3 : Nat), .int .u64 (v4 : Nat), .int .u64 (v5 : Nat), .int .u64 (v6 : Nat)] 41 (0, 0)) ∧ Below w.heap.size w ww) (x4.setRow w.heap.size #[.int .u32 (v1 : Nat), .int .u32 (v2 : Nat), .int .u64 (v3 : Nat), .int .u64 (v4 : Nat), .int .u64 (v5 : Nat), .int .u64 (v6 : Nat)]) := ⟨(setRow_other _ _ _ _ (fun h => N3.out h.symm)).trans hS9.1, below_setRow hS9.2 (Nat.le_refl _) _⟩
    refine hK.out _ _ hST (fun hS10 => ?_)
    clear hK K
    try simp only [Act.put, List.setIfInBounds_toArray, List.set_cons_zero, List.set_cons_succ, List.getElem_toArray, List.getElem_cons_succ, List.getElem_cons_zero]
    refine wpAnyH_take (i := 17) (v := .bool false) rfl (by kernel_rfl) (by kernel_rfl) (by kernel_rfl) (fun _ _ _ h => h) (Or.inl ⟨by kernel_rfl, ?_⟩) (by assumption) ?_
    · intro ww hSw
      clear hSw
      go_simp
      all_goals (try omega)
      all_goals (try assumption)
      all_goals (try rfl)
    try simp only [Act.put, List.setIfInBounds_toArray, List.set_cons_zero, List.set_cons_succ, List.getElem_toArray, List.getElem_cons_succ, List.getElem_cons_zero]
    have HFB := Lib.hid hS10.2
    refine wpAnyH_done (by kernel_rfl) ?_ _
    clear hSA hS9 hST hS10
    go_wp2_with fail
    exact bodyPost_ret (results_ct_row' rfl _ _ w.heap.size 41 #[.int .u32 (v1 : Nat), .int .u32 (v2 : Nat), .int .u64 (v3 : Nat), .int .u64 (v4 : Nat), .int .u64 (v5 : Nat), .int .u64 (v6 : Nat)] (0, 0) _ rfl (heap_setRow_same _ _ _ _ _ HR0.out) Try.underlying41 rfl info_rec) rfl ⟨v1, v2, v3, v4, v5, v6, false, rfl, hok2, HFB.out⟩
end Go.Proofs.Ytlojhklhhdgkcaa
