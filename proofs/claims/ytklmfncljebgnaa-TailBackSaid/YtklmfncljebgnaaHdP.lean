/-
  Contracts of package header: ParseLocal.
-/
import Derived.Test.YtklmfncljebgnaaHdO
namespace Go.Proofs.Ytklmfncljebgnaa
set_option maxRecDepth 100000
set_option linter.unusedSimpArgs false
open Go.RowKit Go.Joins Go.Deep Go.Op
theorem below_then' {w w0 y : World} (h : Below w.heap.size w w0) (hs : w0.heap.size = w.heap.size + 1) (k : Below w0.heap.size w0 y) : Below w.heap.size w y := h.trans (k.mono (by omega))
/-- Does the header fit? -/
def fitL (s : ByteArray) : Prop := 30 + nAt s 26 2 + nAt s 28 2 ≤ s.size
instance (s : ByteArray) : Decidable (fitL s) := by unfold fitL; infer_instance
/-- Its fields. -/
def hdL (s : ByteArray) : Array Value := #[.int .u16 (nAt s 4 2 : Nat), .int .u16 (nAt s 6 2 : Nat), .int .u16 (nAt s 8 2 : Nat), .int .u32 (nAt s 10 4 : Nat), .int .u32 (nAt s 14 4 : Nat), .int .u32 (nAt s 18 4 : Nat), .int .u32 (nAt s 22 4 : Nat), .string (tAt s (30) (nAt s 26 2)), .string (tAt s (30 + nAt s 26 2) (nAt s 28 2))]
def endL (s : ByteArray) : Nat := 30 + nAt s 26 2 + nAt s 28 2
/-- What ParseLocal answers. -/
def psL (s : ByteArray) : Value := if begB s 67324752 = true then (if fitL s then .tuple #[.agg (hdL s), .int .i64 (endL s : Nat), .int .i64 0] else .tuple #[.agg #[.int .u16 0, .int .u16 0, .int .u16 0, .int .u32 0, .int .u32 0, .int .u32 0, .int .u32 0, .string ⟨#[]⟩, .string ⟨#[]⟩], .int .i64 0, .int .i64 3]) else .tuple #[.agg #[.int .u16 0, .int .u16 0, .int .u16 0, .int .u32 0, .int .u32 0, .int .u32 0, .int .u32 0, .string ⟨#[]⟩, .string ⟨#[]⟩], .int .i64 0, .int .i64 4]
theorem take_fitL0 {s : ByteArray} {v1 v2 v3 v4 v5 v6 v7 v8 v9 : Nat} (f : fitL s) (q : ((((((((((4 ≤ s.size ∧ nAt s 0 4 = 67324752) ∧ 4 + 2 ≤ s.size ∧ v1 = nAt s (4) 2) ∧ 4 + 2 + 2 ≤ s.size ∧ v2 = nAt s (4 + 2) 2) ∧ 4 + 2 + 2 + 2 ≤ s.size ∧ v3 = nAt s (4 + 2 + 2) 2) ∧ 4 + 2 + 2 + 2 + 4 ≤ s.size ∧ v4 = nAt s (4 + 2 + 2 + 2) 4) ∧ 4 + 2 + 2 + 2 + 4 + 4 ≤ s.size ∧ v5 = nAt s (4 + 2 + 2 + 2 + 4) 4) ∧ 4 + 2 + 2 + 2 + 4 + 4 + 4 ≤ s.size ∧ v6 = nAt s (4 + 2 + 2 + 2 + 4 + 4) 4) ∧ 4 + 2 + 2 + 2 + 4 + 4 + 4 + 4 ≤ s.size ∧ v7 = nAt s (4 + 2 + 2 + 2 + 4 + 4 + 4) 4) ∧ 4 + 2 + 2 + 2 + 4 + 4 + 4 + 4 + 2 ≤ s.size ∧ v8 = nAt s (4 + 2 + 2 + 2 + 4 + 4 + 4 + 4) 2) ∧ 4 + 2 + 2 + 2 + 4 + 4 + 4 + 4 + 2 + 2 ≤ s.size ∧ v9 = nAt s (4 + 2 + 2 + 2 + 4 + 4 + 4 + 4 + 2) 2)) : 4 + 2 + 2 + 2 + 4 + 4 + 4 + 4 + 2 + 2 + v8 ≤ s.size := by
  unfold fitL at f
  obtain ⟨⟨⟨⟨⟨⟨⟨⟨⟨⟨k0, e0⟩, k1, e1⟩, k2, e2⟩, k3, e3⟩, k4, e4⟩, k5, e5⟩, k6, e6⟩, k7, e7⟩, k8, e8⟩, k9, e9⟩ := q
  simp only [Nat.reduceAdd] at *
  omega
theorem take_fitL1 {s : ByteArray} {v1 v2 v3 v4 v5 v6 v7 v8 v9 : Nat} {v10 : ByteArray} (f : fitL s) (q : (((((((((((4 ≤ s.size ∧ nAt s 0 4 = 67324752) ∧ 4 + 2 ≤ s.size ∧ v1 = nAt s (4) 2) ∧ 4 + 2 + 2 ≤ s.size ∧ v2 = nAt s (4 + 2) 2) ∧ 4 + 2 + 2 + 2 ≤ s.size ∧ v3 = nAt s (4 + 2 + 2) 2) ∧ 4 + 2 + 2 + 2 + 4 ≤ s.size ∧ v4 = nAt s (4 + 2 + 2 + 2) 4) ∧ 4 + 2 + 2 + 2 + 4 + 4 ≤ s.size ∧ v5 = nAt s (4 + 2 + 2 + 2 + 4) 4) ∧ 4 + 2 + 2 + 2 + 4 + 4 + 4 ≤ s.size ∧ v6 = nAt s (4 + 2 + 2 + 2 + 4 + 4) 4) ∧ 4 + 2 + 2 + 2 + 4 + 4 + 4 + 4 ≤ s.size ∧ v7 = nAt s (4 + 2 + 2 + 2 + 4 + 4 + 4) 4) ∧ 4 + 2 + 2 + 2 + 4 + 4 + 4 + 4 + 2 ≤ s.size ∧ v8 = nAt s (4 + 2 + 2 + 2 + 4 + 4 + 4 + 4) 2) ∧ 4 + 2 + 2 + 2 + 4 + 4 + 4 + 4 + 2 + 2 ≤ s.size ∧ v9 = nAt s (4 + 2 + 2 + 2 + 4 + 4 + 4 + 4 + 2) 2) ∧ 4 + 2 + 2 + 2 + 4 + 4 + 4 + 4 + 2 + 2 + v8 ≤ s.size ∧ v10 = tAt s (4 + 2 + 2 + 2 + 4 + 4 + 4 + 4 + 2 + 2) v8)) : 4 + 2 + 2 + 2 + 4 + 4 + 4 + 4 + 2 + 2 + v8 + v9 ≤ s.size := by
  unfold fitL at f
  obtain ⟨⟨⟨⟨⟨⟨⟨⟨⟨⟨⟨k0, e0⟩, k1, e1⟩, k2, e2⟩, k3, e3⟩, k4, e4⟩, k5, e5⟩, k6, e6⟩, k7, e7⟩, k8, e8⟩, k9, e9⟩, k10, e10⟩ := q
  simp only [Nat.reduceAdd] at *
  omega
theorem psL_yes {s : ByteArray} {v1 v2 v3 v4 v5 v6 v7 v8 v9 : Nat} {v10 v11 : ByteArray} (hb : begB s 67324752 = true) (q : ((((((((((((4 ≤ s.size ∧ nAt s 0 4 = 67324752) ∧ 4 + 2 ≤ s.size ∧ v1 = nAt s (4) 2) ∧ 4 + 2 + 2 ≤ s.size ∧ v2 = nAt s (4 + 2) 2) ∧ 4 + 2 + 2 + 2 ≤ s.size ∧ v3 = nAt s (4 + 2 + 2) 2) ∧ 4 + 2 + 2 + 2 + 4 ≤ s.size ∧ v4 = nAt s (4 + 2 + 2 + 2) 4) ∧ 4 + 2 + 2 + 2 + 4 + 4 ≤ s.size ∧ v5 = nAt s (4 + 2 + 2 + 2 + 4) 4) ∧ 4 + 2 + 2 + 2 + 4 + 4 + 4 ≤ s.size ∧ v6 = nAt s (4 + 2 + 2 + 2 + 4 + 4) 4) ∧ 4 + 2 + 2 + 2 + 4 + 4 + 4 + 4 ≤ s.size ∧ v7 = nAt s (4 + 2 + 2 + 2 + 4 + 4 + 4) 4) ∧ 4 + 2 + 2 + 2 + 4 + 4 + 4 + 4 + 2 ≤ s.size ∧ v8 = nAt s (4 + 2 + 2 + 2 + 4 + 4 + 4 + 4) 2) ∧ 4 + 2 + 2 + 2 + 4 + 4 + 4 + 4 + 2 + 2 ≤ s.size ∧ v9 = nAt s (4 + 2 + 2 + 2 + 4 + 4 + 4 + 4 + 2) 2) ∧ 4 + 2 + 2 + 2 + 4 + 4 + 4 + 4 + 2 + 2 + v8 ≤ s.size ∧ v10 = tAt s (4 + 2 + 2 + 2 + 4 + 4 + 4 + 4 + 2 + 2) v8) ∧ 4 + 2 + 2 + 2 + 4 + 4 + 4 + 4 + 2 + 2 + v8 + v9 ≤ s.size ∧ v11 = tAt s (4 + 2 + 2 + 2 + 4 + 4 + 4 + 4 + 2 + 2 + v8) v9)) : psL s = .tuple #[.agg #[.int .u16 (v1 : Nat), .int .u16 (v2 : Nat), .int .u16 (v3 : Nat), .int .u32 (v4 : Nat), .int .u32 (v5 : Nat), .int .u32 (v6 : Nat), .int .u32 (v7 : Nat), .string v10, .string v11], .int .i64 ((4 + 2 + 2 + 2 + 4 + 4 + 4 + 4 + 2 + 2 + v8 + v9 : Nat)), .int .i64 0] := by
  obtain ⟨⟨⟨⟨⟨⟨⟨⟨⟨⟨⟨⟨k0, e0⟩, k1, e1⟩, k2, e2⟩, k3, e3⟩, k4, e4⟩, k5, e5⟩, k6, e6⟩, k7, e7⟩, k8, e8⟩, k9, e9⟩, k10, e10⟩, k11, e11⟩ := q
  unfold psL
  rw [if_pos hb, if_pos]
  · unfold hdL endL
    subst e11 e10 e9 e8 e7 e6 e5 e4 e3 e2 e1
    rfl
  · unfold fitL
    simp only [Nat.reduceAdd] at *
    omega
set_option maxHeartbeats 8000000 in
theorem parseL_any (s : ByteArray) (hs : s.size ≤ 1000000) (w : World) :
    Calls Try.prog 11 #[.string s] w fun e w' => e = .returned (psL s) ∧ Below w.heap.size w w' := by
  have hsz : s.size ≤ maxLen := by unfold maxLen; omega
  have HL := Lib.hid hsz
  have HBG := Lib.hid (fun w => begin_any s ⟨#[80, 75, 3, 4]⟩ 67324752 (by omega) rfl hsz w)
  have hr0 := heap_alloc_new w (.cells #[.int .u16 0, .int .u16 0, .int .u16 0, .int .u32 0, .int .u32 0, .int .u32 0, .int .u32 0, .string ⟨#[]⟩, .string ⟨#[]⟩] 26)
  have HW0 : Hid (Below w.heap.size w (w.alloc (.cells #[.int .u16 0, .int .u16 0, .int .u16 0, .int .u32 0, .int .u32 0, .int .u32 0, .int .u32 0, .string ⟨#[]⟩, .string ⟨#[]⟩] 26))) := (Below.refl _ _).alloc (Nat.le_refl _) _
  have HSZ : Hid ((w.alloc (.cells #[.int .u16 0, .int .u16 0, .int .u16 0, .int .u32 0, .int .u32 0, .int .u32 0, .int .u32 0, .string ⟨#[]⟩, .string ⟨#[]⟩] 26)).heap.size = w.heap.size + 1) := alloc_size _ _
  have HR0 := Lib.hid hr0
  clear hsz hr0 hs
  go_enter Try.func11, Try.ntmps11
  go_wp2_with fail
  generalize w.alloc (.cells #[.int .u16 0, .int .u16 0, .int .u16 0, .int .u32 0, .int .u32 0, .int .u32 0, .int .u32 0, .string ⟨#[]⟩, .string ⟨#[]⟩] 26) = w0 at *
  refine (HBG.out _).mono ?_; rintro r y0 ⟨rfl, C0⟩
  have hB0 := below_then' HW0.out HSZ.out C0.bel
  have hR0 : y0.heap[w.heap.size]? = some (.cells #[.int .u16 0, .int .u16 0, .int .u16 0, .int .u32 0, .int .u32 0, .int .u32 0, .int .u32 0, .string ⟨#[]⟩, .string ⟨#[]⟩] 26 (0, 0)) := (C0.bel.block _ (by rw [HSZ.out]; omega)).trans HR0.out
  have HC0 := Lib.hid C0
  have HB := Lib.hid hB0
  have HR := Lib.hid hR0
  clear C0 hB0 hR0 HBG HR0
  generalize hbb : begB s 67324752 = b at *
  have HBB := Lib.hid hbb
  clear hbb
  cases b with
  | false =>
    have HA : Hid (psL s = .tuple #[.agg #[.int .u16 0, .int .u16 0, .int .u16 0, .int .u32 0, .int .u32 0, .int .u32 0, .int .u32 0, .string ⟨#[]⟩, .string ⟨#[]⟩], .int .i64 0, .int .i64 4]) := if_neg (by rw [HBB.out]; decide)
    go_wp2_with (refine wpList_store_row rfl 26 (.tmp 2) (.tmp 17) rfl w.heap.size #[.int .u16 0, .int .u16 0, .int .u16 0, .int .u32 0, .int .u32 0, .int .u32 0, .int .u32 0, .string ⟨#[]⟩, .string ⟨#[]⟩] rfl rfl 26 #[.int .u16 0, .int .u16 0, .int .u16 0, .int .u32 0, .int .u32 0, .int .u32 0, .int .u32 0, .string ⟨#[]⟩, .string ⟨#[]⟩] HR.out info_L rfl (by simp [Value.oneCell']) ?_)
    rw [HA.out]
    exact bodyPost_ret (results_ctt_row rfl _ _ w.heap.size 26 #[.int .u16 0, .int .u16 0, .int .u16 0, .int .u32 0, .int .u32 0, .int .u32 0, .int .u32 0, .string ⟨#[]⟩, .string ⟨#[]⟩] (0, 0) _ rfl (heap_setRow_same _ _ _ _ _ HR.out) Try.underlying26 rfl info_L) rfl ⟨rfl, below_setRow HB.out (Nat.le_refl _) _⟩
  | true =>
    have HNO := True.intro
    have W0 : Wk w0 s (fitL s) 4 (4 ≤ s.size ∧ nAt s 0 4 = 67324752) y0 := wk_fresh 67324752 (fun f => by unfold fitL at f; omega) HBB.out HC0.out
    have hlt := W0.lt
    have HH : Hid ((y0.alloc (.cells #[.int .u16 0, .int .u16 0, .int .u16 0, .int .u32 0, .int .u32 0, .int .u32 0, .int .u32 0, .string ⟨#[]⟩, .string ⟨#[]⟩] 26)).heap[y0.heap.size]? = some (.cells #[.int .u16 0, .int .u16 0, .int .u16 0, .int .u32 0, .int .u32 0, .int .u32 0, .int .u32 0, .string ⟨#[]⟩, .string ⟨#[]⟩] 26 (0, 0))) := heap_alloc_new _ _
    have HWK := Lib.hid (W0.below (w' := y0.alloc (.cells #[.int .u16 0, .int .u16 0, .int .u16 0, .int .u32 0, .int .u32 0, .int .u32 0, .int .u32 0, .string ⟨#[]⟩, .string ⟨#[]⟩] 26)) ((Below.refl _ _).alloc (by omega) _))
    replace HR : Hid ((y0.alloc (.cells #[.int .u16 0, .int .u16 0, .int .u16 0, .int .u32 0, .int .u32 0, .int .u32 0, .int .u32 0, .string ⟨#[]⟩, .string ⟨#[]⟩] 26)).heap[w.heap.size]? = some (.cells #[.int .u16 0, .int .u16 0, .int .u16 0, .int .u32 0, .int .u32 0, .int .u32 0, .int .u32 0, .string ⟨#[]⟩, .string ⟨#[]⟩] 26 (0, 0))) := (Below.heap_alloc y0 _ _ (lt_of_some HR.out)).trans HR.out
    replace HB : Hid (Below w.heap.size w (y0.alloc (.cells #[.int .u16 0, .int .u16 0, .int .u16 0, .int .u32 0, .int .u32 0, .int .u32 0, .int .u32 0, .string ⟨#[]⟩, .string ⟨#[]⟩] 26))) := HB.out.alloc HB.out.size _
    have hgl : w0.heap.size < y0.heap.size := hlt
    go_wp2_with fail
    generalize y0.alloc (.cells #[.int .u16 0, .int .u16 0, .int .u16 0, .int .u32 0, .int .u32 0, .int .u32 0, .int .u32 0, .string ⟨#[]⟩, .string ⟨#[]⟩] 26) = x0 at *
    generalize y0.heap.size = gh at *
    have N1 : Hid (w.heap.size ≠ w0.heap.size) := by show _ ≠ _; rw [HSZ.out]; omega
    have N2 : Hid (gh ≠ w0.heap.size) := by show _ ≠ _; omega
    have N3 : Hid (w.heap.size ≠ gh) := by show _ ≠ _; have := HSZ.out; omega
    have N4 : Hid (w0.heap.size + 1 ≤ gh) := hgl
    have N5 : Hid (w.heap.size ≤ w0.heap.size) := by show _ ≤ _; rw [HSZ.out]; omega
    have N6 : Hid (w.heap.size ≤ gh) := by show _ ≤ _; have := HSZ.out; omega
    clear hgl HSZ
    clear W0 hlt HC0 HW0
    refine (two_wk HL.out HWK.out (fun f q => by unfold fitL at f; omega)).mono ?_; rintro r y1 ⟨v1, l1, rfl, W, G⟩
    replace HWK := Lib.hid W
    replace HR := Lib.hid (stays G N1.out HR.out)
    replace HH := Lib.hid (stays G N2.out HH.out)
    replace HB := Lib.hid (HB.out.grown G HB.out.size (fun k hk => by injection hk with hk; subst hk; exact N5.out))
    clear W G
    go_wp2_with fail
    refine (two_wk HL.out HWK.out (fun f q => by unfold fitL at f; omega)).mono ?_; rintro r y2 ⟨v2, l2, rfl, W, G⟩
    replace HWK := Lib.hid W
    replace HR := Lib.hid (stays G N1.out HR.out)
    replace HH := Lib.hid (stays G N2.out HH.out)
    replace HB := Lib.hid (HB.out.grown G HB.out.size (fun k hk => by injection hk with hk; subst hk; exact N5.out))
    clear W G
    go_wp2_with fail
    refine (two_wk HL.out HWK.out (fun f q => by unfold fitL at f; omega)).mono ?_; rintro r y3 ⟨v3, l3, rfl, W, G⟩
    replace HWK := Lib.hid W
    replace HR := Lib.hid (stays G N1.out HR.out)
    replace HH := Lib.hid (stays G N2.out HH.out)
    replace HB := Lib.hid (HB.out.grown G HB.out.size (fun k hk => by injection hk with hk; subst hk; exact N5.out))
    clear W G
    have c0 : y3.cell? ⟨gh, 0, none⟩ = some (.int .u16 0) := by rw [Lib.cell_of_heap HH.out]; rfl
    have q0 := Lib.frozen_of_heap HH.out 0
    have c1 : y3.cell? ⟨gh, 1, none⟩ = some (.int .u16 0) := by rw [Lib.cell_of_heap HH.out]; rfl
    have q1 := Lib.frozen_of_heap HH.out 1
    have c2 : y3.cell? ⟨gh, 2, none⟩ = some (.int .u16 0) := by rw [Lib.cell_of_heap HH.out]; rfl
    have q2 := Lib.frozen_of_heap HH.out 2
    have h0 := HH.out
    have h1 : ((y3).setCell ⟨gh, 0, none⟩ (.int .u16 (v1 : Nat))).heap[gh]? = some (.cells #[.int .u16 (v1 : Nat), .int .u16 0, .int .u16 0, .int .u32 0, .int .u32 0, .int .u32 0, .int .u32 0, .string ⟨#[]⟩, .string ⟨#[]⟩] 26 (0, 0)) := Go.heap_setCell_same _ gh 0 _ _ _ h0
    have h2 : (((y3).setCell ⟨gh, 0, none⟩ (.int .u16 (v1 : Nat))).setCell ⟨gh, 1, none⟩ (.int .u16 (v2 : Nat))).heap[gh]? = some (.cells #[.int .u16 (v1 : Nat), .int .u16 (v2 : Nat), .int .u16 0, .int .u32 0, .int .u32 0, .int .u32 0, .int .u32 0, .string ⟨#[]⟩, .string ⟨#[]⟩] 26 (0, 0)) := Go.heap_setCell_same _ gh 1 _ _ _ h1
    have h3 : ((((y3).setCell ⟨gh, 0, none⟩ (.int .u16 (v1 : Nat))).setCell ⟨gh, 1, none⟩ (.int .u16 (v2 : Nat))).setCell ⟨gh, 2, none⟩ (.int .u16 (v3 : Nat))).heap[gh]? = some (.cells #[.int .u16 (v1 : Nat), .int .u16 (v2 : Nat), .int .u16 (v3 : Nat), .int .u32 0, .int .u32 0, .int .u32 0, .int .u32 0, .string ⟨#[]⟩, .string ⟨#[]⟩] 26 (0, 0)) := Go.heap_setCell_same _ gh 2 _ _ _ h2
    replace HH := Lib.hid h3
    replace HWK := Lib.hid (HWK.out.below (w' := (((y3).setCell ⟨gh, 0, none⟩ (.int .u16 (v1 : Nat))).setCell ⟨gh, 1, none⟩ (.int .u16 (v2 : Nat))).setCell ⟨gh, 2, none⟩ (.int .u16 (v3 : Nat))) (((((Below.refl _ _)).setCell (N4.out) _).setCell (N4.out) _).setCell (N4.out) _))
    replace HR : Hid (((((y3).setCell ⟨gh, 0, none⟩ (.int .u16 (v1 : Nat))).setCell ⟨gh, 1, none⟩ (.int .u16 (v2 : Nat))).setCell ⟨gh, 2, none⟩ (.int .u16 (v3 : Nat))).heap[w.heap.size]? = some (.cells #[.int .u16 0, .int .u16 0, .int .u16 0, .int .u32 0, .int .u32 0, .int .u32 0, .int .u32 0, .string ⟨#[]⟩, .string ⟨#[]⟩] 26 (0, 0))) := by
      show _ = _
      rw [Below.heap_setCell _ _ _ _ N3.out]
      rw [Below.heap_setCell _ _ _ _ N3.out]
      rw [Below.heap_setCell _ _ _ _ N3.out]
      exact HR.out
    replace HB : Hid (Below w.heap.size w ((((y3).setCell ⟨gh, 0, none⟩ (.int .u16 (v1 : Nat))).setCell ⟨gh, 1, none⟩ (.int .u16 (v2 : Nat))).setCell ⟨gh, 2, none⟩ (.int .u16 (v3 : Nat)))) := (((HB.out).setCell (N6.out) _).setCell (N6.out) _).setCell (N6.out) _
    clear h0 h1 h2 h3
    go_wp2_with fail
    generalize (((y3).setCell ⟨gh, 0, none⟩ (.int .u16 (v1 : Nat))).setCell ⟨gh, 1, none⟩ (.int .u16 (v2 : Nat))).setCell ⟨gh, 2, none⟩ (.int .u16 (v3 : Nat)) = x1 at *
    clear c0 q0 c1 q1 c2 q2
    refine (four_wk HL.out HWK.out (fun f q => by unfold fitL at f; omega)).mono ?_; rintro r y4 ⟨v4, l4, rfl, W, G⟩
    replace HWK := Lib.hid W
    replace HR := Lib.hid (stays G N1.out HR.out)
    replace HH := Lib.hid (stays G N2.out HH.out)
    replace HB := Lib.hid (HB.out.grown G HB.out.size (fun k hk => by injection hk with hk; subst hk; exact N5.out))
    clear W G
    go_wp2_with fail
    refine (four_wk HL.out HWK.out (fun f q => by unfold fitL at f; omega)).mono ?_; rintro r y5 ⟨v5, l5, rfl, W, G⟩
    replace HWK := Lib.hid W
    replace HR := Lib.hid (stays G N1.out HR.out)
    replace HH := Lib.hid (stays G N2.out HH.out)
    replace HB := Lib.hid (HB.out.grown G HB.out.size (fun k hk => by injection hk with hk; subst hk; exact N5.out))
    clear W G
    go_wp2_with fail
    refine (four_wk HL.out HWK.out (fun f q => by unfold fitL at f; omega)).mono ?_; rintro r y6 ⟨v6, l6, rfl, W, G⟩
    replace HWK := Lib.hid W
    replace HR := Lib.hid (stays G N1.out HR.out)
    replace HH := Lib.hid (stays G N2.out HH.out)
    replace HB := Lib.hid (HB.out.grown G HB.out.size (fun k hk => by injection hk with hk; subst hk; exact N5.out))
    clear W G
    go_wp2_with fail
    refine (four_wk HL.out HWK.out (fun f q => by unfold fitL at f; omega)).mono ?_; rintro r y7 ⟨v7, l7, rfl, W, G⟩
    replace HWK := Lib.hid W
    replace HR := Lib.hid (stays G N1.out HR.out)
    replace HH := Lib.hid (stays G N2.out HH.out)
    replace HB := Lib.hid (HB.out.grown G HB.out.size (fun k hk => by injection hk with hk; subst hk; exact N5.out))
    clear W G
    have c3 : y7.cell? ⟨gh, 3, none⟩ = some (.int .u32 0) := by rw [Lib.cell_of_heap HH.out]; rfl
    have q3 := Lib.frozen_of_heap HH.out 3
    have c4 : y7.cell? ⟨gh, 4, none⟩ = some (.int .u32 0) := by rw [Lib.cell_of_heap HH.out]; rfl
    have q4 := Lib.frozen_of_heap HH.out 4
    have c5 : y7.cell? ⟨gh, 5, none⟩ = some (.int .u32 0) := by rw [Lib.cell_of_heap HH.out]; rfl
    have q5 := Lib.frozen_of_heap HH.out 5
    have c6 : y7.cell? ⟨gh, 6, none⟩ = some (.int .u32 0) := by rw [Lib.cell_of_heap HH.out]; rfl
    have q6 := Lib.frozen_of_heap HH.out 6
    have h0 := HH.out
    have h1 : ((y7).setCell ⟨gh, 3, none⟩ (.int .u32 (v4 : Nat))).heap[gh]? = some (.cells #[.int .u16 (v1 : Nat), .int .u16 (v2 : Nat), .int .u16 (v3 : Nat), .int .u32 (v4 : Nat), .int .u32 0, .int .u32 0, .int .u32 0, .string ⟨#[]⟩, .string ⟨#[]⟩] 26 (0, 0)) := Go.heap_setCell_same _ gh 3 _ _ _ h0
    have h2 : (((y7).setCell ⟨gh, 3, none⟩ (.int .u32 (v4 : Nat))).setCell ⟨gh, 4, none⟩ (.int .u32 (v5 : Nat))).heap[gh]? = some (.cells #[.int .u16 (v1 : Nat), .int .u16 (v2 : Nat), .int .u16 (v3 : Nat), .int .u32 (v4 : Nat), .int .u32 (v5 : Nat), .int .u32 0, .int .u32 0, .string ⟨#[]⟩, .string ⟨#[]⟩] 26 (0, 0)) := Go.heap_setCell_same _ gh 4 _ _ _ h1
    have h3 : ((((y7).setCell ⟨gh, 3, none⟩ (.int .u32 (v4 : Nat))).setCell ⟨gh, 4, none⟩ (.int .u32 (v5 : Nat))).setCell ⟨gh, 5, none⟩ (.int .u32 (v6 : Nat))).heap[gh]? = some (.cells #[.int .u16 (v1 : Nat), .int .u16 (v2 : Nat), .int .u16 (v3 : Nat), .int .u32 (v4 : Nat), .int .u32 (v5 : Nat), .int .u32 (v6 : Nat), .int .u32 0, .string ⟨#[]⟩, .string ⟨#[]⟩] 26 (0, 0)) := Go.heap_setCell_same _ gh 5 _ _ _ h2
    have h4 : (((((y7).setCell ⟨gh, 3, none⟩ (.int .u32 (v4 : Nat))).setCell ⟨gh, 4, none⟩ (.int .u32 (v5 : Nat))).setCell ⟨gh, 5, none⟩ (.int .u32 (v6 : Nat))).setCell ⟨gh, 6, none⟩ (.int .u32 (v7 : Nat))).heap[gh]? = some (.cells #[.int .u16 (v1 : Nat), .int .u16 (v2 : Nat), .int .u16 (v3 : Nat), .int .u32 (v4 : Nat), .int .u32 (v5 : Nat), .int .u32 (v6 : Nat), .int .u32 (v7 : Nat), .string ⟨#[]⟩, .string ⟨#[]⟩] 26 (0, 0)) := Go.heap_setCell_same _ gh 6 _ _ _ h3
    replace HH := Lib.hid h4
    replace HWK := Lib.hid (HWK.out.below (w' := ((((y7).setCell ⟨gh, 3, none⟩ (.int .u32 (v4 : Nat))).setCell ⟨gh, 4, none⟩ (.int .u32 (v5 : Nat))).setCell ⟨gh, 5, none⟩ (.int .u32 (v6 : Nat))).setCell ⟨gh, 6, none⟩ (.int .u32 (v7 : Nat))) ((((((Below.refl _ _)).setCell (N4.out) _).setCell (N4.out) _).setCell (N4.out) _).setCell (N4.out) _))
    replace HR : Hid ((((((y7).setCell ⟨gh, 3, none⟩ (.int .u32 (v4 : Nat))).setCell ⟨gh, 4, none⟩ (.int .u32 (v5 : Nat))).setCell ⟨gh, 5, none⟩ (.int .u32 (v6 : Nat))).setCell ⟨gh, 6, none⟩ (.int .u32 (v7 : Nat))).heap[w.heap.size]? = some (.cells #[.int .u16 0, .int .u16 0, .int .u16 0, .int .u32 0, .int .u32 0, .int .u32 0, .int .u32 0, .string ⟨#[]⟩, .string ⟨#[]⟩] 26 (0, 0))) := by
      show _ = _
      rw [Below.heap_setCell _ _ _ _ N3.out]
      rw [Below.heap_setCell _ _ _ _ N3.out]
      rw [Below.heap_setCell _ _ _ _ N3.out]
      rw [Below.heap_setCell _ _ _ _ N3.out]
      exact HR.out
    replace HB : Hid (Below w.heap.size w (((((y7).setCell ⟨gh, 3, none⟩ (.int .u32 (v4 : Nat))).setCell ⟨gh, 4, none⟩ (.int .u32 (v5 : Nat))).setCell ⟨gh, 5, none⟩ (.int .u32 (v6 : Nat))).setCell ⟨gh, 6, none⟩ (.int .u32 (v7 : Nat)))) := ((((HB.out).setCell (N6.out) _).setCell (N6.out) _).setCell (N6.out) _).setCell (N6.out) _
    clear h0 h1 h2 h3 h4
    go_wp2_with fail
    generalize ((((y7).setCell ⟨gh, 3, none⟩ (.int .u32 (v4 : Nat))).setCell ⟨gh, 4, none⟩ (.int .u32 (v5 : Nat))).setCell ⟨gh, 5, none⟩ (.int .u32 (v6 : Nat))).setCell ⟨gh, 6, none⟩ (.int .u32 (v7 : Nat)) = x2 at *
    clear c3 q3 c4 q4 c5 q5 c6 q6
    refine (two_wk HL.out HWK.out (fun f q => by unfold fitL at f; omega)).mono ?_; rintro r y8 ⟨v8, l8, rfl, W, G⟩
    replace HWK := Lib.hid W
    replace HR := Lib.hid (stays G N1.out HR.out)
    replace HH := Lib.hid (stays G N2.out HH.out)
    replace HB := Lib.hid (HB.out.grown G HB.out.size (fun k hk => by injection hk with hk; subst hk; exact N5.out))
    clear W G
    go_wp2_with fail
    refine (two_wk HL.out HWK.out (fun f q => by unfold fitL at f; omega)).mono ?_; rintro r y9 ⟨v9, l9, rfl, W, G⟩
    replace HWK := Lib.hid W
    replace HR := Lib.hid (stays G N1.out HR.out)
    replace HH := Lib.hid (stays G N2.out HH.out)
    replace HB := Lib.hid (HB.out.grown G HB.out.size (fun k hk => by injection hk with hk; subst hk; exact N5.out))
    clear W G
    go_wp2_with fail
    have f10 := True.intro
    refine (take_wk v8 (by assumption) HL.out HWK.out (fun f q => take_fitL0 f q)).mono ?_; rintro r y10 ⟨v10, l10, rfl, W, G⟩
    replace HWK := Lib.hid W
    replace HR := Lib.hid (stays G N1.out HR.out)
    replace HH := Lib.hid (stays G N2.out HH.out)
    replace HB := Lib.hid (HB.out.grown G HB.out.size (fun k hk => by injection hk with hk; subst hk; exact N5.out))
    clear W G
    go_wp2_with fail
    refine (take_wk v9 (by assumption) HL.out HWK.out (fun f q => take_fitL1 f q)).mono ?_; rintro r y11 ⟨v11, l11, rfl, W, G⟩
    replace HWK := Lib.hid W
    replace HR := Lib.hid (stays G N1.out HR.out)
    replace HH := Lib.hid (stays G N2.out HH.out)
    replace HB := Lib.hid (HB.out.grown G HB.out.size (fun k hk => by injection hk with hk; subst hk; exact N5.out))
    clear W G
    have c7 : y11.cell? ⟨gh, 7, none⟩ = some (.string ⟨#[]⟩) := by rw [Lib.cell_of_heap HH.out]; rfl
    have q7 := Lib.frozen_of_heap HH.out 7
    have c8 : y11.cell? ⟨gh, 8, none⟩ = some (.string ⟨#[]⟩) := by rw [Lib.cell_of_heap HH.out]; rfl
    have q8 := Lib.frozen_of_heap HH.out 8
    have h0 := HH.out
    have h1 : ((y11).setCell ⟨gh, 7, none⟩ (.string v10)).heap[gh]? = some (.cells #[.int .u16 (v1 : Nat), .int .u16 (v2 : Nat), .int .u16 (v3 : Nat), .int .u32 (v4 : Nat), .int .u32 (v5 : Nat), .int .u32 (v6 : Nat), .int .u32 (v7 : Nat), .string v10, .string ⟨#[]⟩] 26 (0, 0)) := Go.heap_setCell_same _ gh 7 _ _ _ h0
    have h2 : (((y11).setCell ⟨gh, 7, none⟩ (.string v10)).setCell ⟨gh, 8, none⟩ (.string v11)).heap[gh]? = some (.cells #[.int .u16 (v1 : Nat), .int .u16 (v2 : Nat), .int .u16 (v3 : Nat), .int .u32 (v4 : Nat), .int .u32 (v5 : Nat), .int .u32 (v6 : Nat), .int .u32 (v7 : Nat), .string v10, .string v11] 26 (0, 0)) := Go.heap_setCell_same _ gh 8 _ _ _ h1
    replace HH := Lib.hid h2
    replace HWK := Lib.hid (HWK.out.below (w' := ((y11).setCell ⟨gh, 7, none⟩ (.string v10)).setCell ⟨gh, 8, none⟩ (.string v11)) ((((Below.refl _ _)).setCell (N4.out) _).setCell (N4.out) _))
    replace HR : Hid ((((y11).setCell ⟨gh, 7, none⟩ (.string v10)).setCell ⟨gh, 8, none⟩ (.string v11)).heap[w.heap.size]? = some (.cells #[.int .u16 0, .int .u16 0, .int .u16 0, .int .u32 0, .int .u32 0, .int .u32 0, .int .u32 0, .string ⟨#[]⟩, .string ⟨#[]⟩] 26 (0, 0))) := by
      show _ = _
      rw [Below.heap_setCell _ _ _ _ N3.out]
      rw [Below.heap_setCell _ _ _ _ N3.out]
      exact HR.out
    replace HB : Hid (Below w.heap.size w (((y11).setCell ⟨gh, 7, none⟩ (.string v10)).setCell ⟨gh, 8, none⟩ (.string v11))) := ((HB.out).setCell (N6.out) _).setCell (N6.out) _
    clear h0 h1 h2
    go_wp2_with (refine wpList_load_row rfl 26 (.tmp 7) rfl gh rfl 26 _ (0, 0) _ HH.out Try.underlying26 rfl info_L ?_)
    generalize ((y11).setCell ⟨gh, 7, none⟩ (.string v10)).setCell ⟨gh, 8, none⟩ (.string v11) = x4 at *
    clear c7 q7 c8 q8
    obtain ⟨a, e, hc, ha, hcase⟩ := HWK.out
    rcases hcase with ⟨rfl, rfl, hq⟩ | ⟨rfl, hn⟩
    · have HA : Hid (psL s = .tuple #[.agg #[.int .u16 (v1 : Nat), .int .u16 (v2 : Nat), .int .u16 (v3 : Nat), .int .u32 (v4 : Nat), .int .u32 (v5 : Nat), .int .u32 (v6 : Nat), .int .u32 (v7 : Nat), .string v10, .string v11], .int .i64 (4 + 2 + 2 + 2 + 4 + 4 + 4 + 4 + 2 + 2 + v8 + v9 : Nat), .int .i64 0]) := psL_yes HBB.out hq
      have HD := Lib.hid (doneL_ok v1 v2 v3 v4 v5 v6 v7 v10 v11 hc)
      clear hc ha hq
      refine (HD.out).mono ?_; rintro r z ⟨rfl, hz⟩
      replace HB := Lib.hid (below_then HB.out hz)
      replace HR := Lib.hid ((hz.block _ (lt_of_some HR.out)).trans HR.out)
      clear hz HD
      go_wp2_with (refine wpList_store_row rfl 26 (.tmp 2) (.tmp 56) rfl w.heap.size #[.int .u16 (v1 : Nat), .int .u16 (v2 : Nat), .int .u16 (v3 : Nat), .int .u32 (v4 : Nat), .int .u32 (v5 : Nat), .int .u32 (v6 : Nat), .int .u32 (v7 : Nat), .string v10, .string v11] rfl rfl 26 #[.int .u16 0, .int .u16 0, .int .u16 0, .int .u32 0, .int .u32 0, .int .u32 0, .int .u32 0, .string ⟨#[]⟩, .string ⟨#[]⟩] HR.out info_L rfl (one_L v1 v2 v3 v4 v5 v6 v7 v10 v11) ?_)
      rw [HA.out]
      exact bodyPost_ret (results_ctt_row rfl _ _ w.heap.size 26 #[.int .u16 (v1 : Nat), .int .u16 (v2 : Nat), .int .u16 (v3 : Nat), .int .u32 (v4 : Nat), .int .u32 (v5 : Nat), .int .u32 (v6 : Nat), .int .u32 (v7 : Nat), .string v10, .string v11] (0, 0) _ rfl (heap_setRow_same _ _ _ _ _ HR.out) Try.underlying26 rfl info_L) rfl ⟨rfl, below_setRow HB.out (Nat.le_refl _) _⟩
    · have HA : Hid (psL s = .tuple #[.agg #[.int .u16 0, .int .u16 0, .int .u16 0, .int .u32 0, .int .u32 0, .int .u32 0, .int .u32 0, .string ⟨#[]⟩, .string ⟨#[]⟩], .int .i64 0, .int .i64 3]) := by
        show _ = _
        unfold psL
        rw [if_pos HBB.out, if_neg hn]
      have HD := Lib.hid (doneL_no v1 v2 v3 v4 v5 v6 v7 v10 v11 hc)
      clear hc ha hn
      refine (HD.out).mono ?_; rintro r z ⟨rfl, hz⟩
      replace HB := Lib.hid (below_then HB.out hz)
      replace HR := Lib.hid ((hz.block _ (lt_of_some HR.out)).trans HR.out)
      clear hz HD
      go_wp2_with (refine wpList_store_row rfl 26 (.tmp 2) (.tmp 56) rfl w.heap.size #[.int .u16 0, .int .u16 0, .int .u16 0, .int .u32 0, .int .u32 0, .int .u32 0, .int .u32 0, .string ⟨#[]⟩, .string ⟨#[]⟩] rfl rfl 26 #[.int .u16 0, .int .u16 0, .int .u16 0, .int .u32 0, .int .u32 0, .int .u32 0, .int .u32 0, .string ⟨#[]⟩, .string ⟨#[]⟩] HR.out info_L rfl (by simp [Value.oneCell']) ?_)
      rw [HA.out]
      exact bodyPost_ret (results_ctt_row rfl _ _ w.heap.size 26 #[.int .u16 0, .int .u16 0, .int .u16 0, .int .u32 0, .int .u32 0, .int .u32 0, .int .u32 0, .string ⟨#[]⟩, .string ⟨#[]⟩] (0, 0) _ rfl (heap_setRow_same _ _ _ _ _ HR.out) Try.underlying26 rfl info_L) rfl ⟨rfl, below_setRow HB.out (Nat.le_refl _) _⟩
end Go.Proofs.Ytklmfncljebgnaa
