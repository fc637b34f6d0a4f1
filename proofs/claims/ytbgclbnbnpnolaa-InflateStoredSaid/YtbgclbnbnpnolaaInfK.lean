/-
  Contracts: codes made of lengths, two of them, the fixed ones.
-/
import Derived.Test.YtbgclbnbnpnolaaInfJ
namespace Go.Proofs.Ytbgclbnbnpnolaa
set_option maxRecDepth 100000
open Go.RowKit Go.Deep Go.Joins

theorem newC_ok (A : Option Addr) (cap : Nat) (op : Bool) (c : Cod) (hn : c.n ≤ 4096) (h15 : ∀ i, i < c.n → c.ls i ≤ 15) (hm : may c op) (w : World) (hL : Lens w A c.n c.ls) :
    Calls Try.prog 9 #[.slice A c.n cap, .bool op] w fun e w' => ∃ g, e = .returned (.tuple #[.pointer (some ⟨g, 0, none⟩), .int .i64 0]) ∧ CdC w' g c ∧ Below w.heap.size w w' :=
  (new_ok A c.n cap op c.ls hn w hL h15 hm.1 hm.2).mono fun _ _ ⟨g, h1, ⟨bm, h2⟩, h3⟩ => ⟨g, h1, ⟨⟨_, bm, h2⟩, max_le c.ls c.n h15, hn, fun i hi => ⟨by have := h15 i hi; omega, by have : c.W i ≤ 32768 := wordN_le c.ls c.n h15 hm.1 i hi; omega⟩⟩, h3⟩
theorem newC_no (A : Option Addr) (cap : Nat) (op : Bool) (c : Cod) (hn : c.n ≤ 4096) (h15 : ∀ i, i < c.n → c.ls i ≤ 15) (hm : ¬ may c op) (w : World) (hL : Lens w A c.n c.ls) :
    Calls Try.prog 9 #[.slice A c.n cap, .bool op] w fun e w' => e = .returned (.tuple #[.pointer none, .int .i64 10]) ∧ Below w.heap.size w w' := by
  by_cases h1 : 32768 < fillN c.ls c.n
  · refine (new_err A c.n cap op 10 (by decide) w (words_over A c.n cap c.ls hn w hL h15 h1)).mono ?_
    rintro e w' ⟨h, rfl⟩
    exact ⟨h, Below.refl _ _⟩
  · have h2 : fillN c.ls c.n < 32768 := by
      rcases Nat.lt_or_ge (fillN c.ls c.n) 32768 with h | h
      · exact h
      · exact absurd ⟨by omega, .inl (by omega)⟩ hm
    cases op with
    | false => exact new_part A c.n cap c.ls hn w hL h15 h2
    | true =>
      refine new_open_no A c.n cap c.ls hn w hL h15 h2 ?_
      rcases Nat.lt_or_ge 1 (sumN c.ls c.n) with h | h
      · exact h
      · exact absurd ⟨by omega, .inr ⟨rfl, h⟩⟩ hm
theorem two_cells {w : World} {g : Nat} {a b x y : Value} {T : TypeId} (h : w.heap[g]? = some (.cells #[a, b] T (0, 0))) : ((w.setCell ⟨g, 0, none⟩ x).setCell ⟨g, 1, none⟩ y).heap[g]? = some (.cells #[x, y] T (0, 0)) := by
  have h1 := heap_setCell_same w g 0 _ _ x h
  have h2 := heap_setCell_same _ g 1 _ _ y h1
  simpa using h2
/-- Blocks of codes and of words, and maps, stay. -/
def Near (w w' : World) : Prop := ∀ (i : Nat) (o : Obj), w.heap[i]? = some o → ((∃ cs f, o = .cells cs 74 f) ∨ (∃ cs f, o = .cells cs 76 f) ∨ (∀ cs T f, o ≠ .cells cs T f)) → w'.heap[i]? = some o
theorem Near.then {w w1 w2 : World} (h : Near w w1) (k : Near w1 w2) : Near w w2 := fun i o h0 h1 => k i o (h i o h0 h1) h1
theorem near_set {w : World} {g i : Nat} {v : Value} {cs : Array Value} {f : Nat × Nat} {T : TypeId} (hb : w.heap[g]? = some (.cells cs T f)) (h1 : T ≠ 74) (h2 : T ≠ 76) : Near w (w.setCell ⟨g, i, none⟩ v) := fun j o h0 h => by
  by_cases e : j = g
  · subst e
    rw [hb] at h0
    injection h0 with h0
    subst h0
    rcases h with ⟨cs', f', h⟩ | ⟨cs', f', h⟩ | h
    · simp at h
      exact absurd h.2.1 h1
    · simp at h
      exact absurd h.2.1 h2
    · exact absurd rfl (h _ _ _)
  · exact (Below.heap_setCell _ _ _ _ e).trans h0
theorem CdC.near {w w' : World} {g : Nat} {c : Cod} (h : CdC w g c) (hf : Near w w') : CdC w' g c := by
  obtain ⟨⟨B, bm, A, cp, hb0, ho, hm, h1, h2⟩, h3⟩ := h
  refine ⟨⟨B, bm, A, cp, hf _ _ hb0 (.inl ⟨_, _, rfl⟩), row_kept' ho (fun b e => ?_), map_stay hm ?_, h1, h2⟩, h3⟩
  · rcases ho.2 with ⟨h0, _⟩ | ⟨g2, cap2, cur, h0, _, hb2, _⟩
    · rw [h0] at e
      cases e
    · rw [h0] at e
      injection e with e
      subst e
      rw [hb2, hf _ _ hb2 (.inr (.inl ⟨_, _, rfl⟩))]
  · obtain ⟨es, clock, hm0, r⟩ := hm
    rw [hm0, hf _ _ hm0 (.inr (.inr (fun cs T f e => by cases e)))]
/-- What pair answers with. -/
def prOk (c d : Cod) (e : Ending) (w' : World) : Prop := ∃ gs gd, e = .returned (.tuple #[CsV gs gd, .int .i64 0]) ∧ CdC w' gs c ∧ CdC w' gd d
def prBad (e : Ending) : Prop := ∃ p q, e = .returned (.tuple #[.agg #[.pointer p, .pointer q], .int .i64 10])
set_option maxHeartbeats 2000000 in
theorem pair_ok (A1 A2 : Option Addr) (cap1 cap2 : Nat) (c d : Cod) (hnc : c.n ≤ 4096) (hnd : d.n ≤ 4096) (h15c : ∀ i, i < c.n → c.ls i ≤ 15) (h15d : ∀ i, i < d.n → d.ls i ≤ 15) (hmc : may c true) (hmd : may d true) (w : World) (hLc : Lens w A1 c.n c.ls) (hLd : Lens w A2 d.n d.ls) :
    Calls Try.prog 66 #[.slice A1 c.n cap1, .slice A2 d.n cap2] w fun e w' => prOk c d e w' ∧ Below w.heap.size w w' := by
  have hb0 : Below w.heap.size w (w.alloc (.cells #[.pointer none, .pointer none] 112)) := (Below.refl _ _).alloc (Nat.le_refl _) _
  have HRB : Hid ((w.alloc (.cells #[.pointer none, .pointer none] 112)).heap[w.heap.size]? = some (.cells #[.pointer none, .pointer none] 112 (0, 0))) := heap_alloc_new w _
  have HN1 := Lib.hid (newC_ok A1 cap1 true c hnc h15c hmc _ (hLc.below (Nat.le_refl _) hb0))
  have HN2 := Lib.hid (fun w1 (h : Below w.heap.size w w1) => newC_ok A2 cap2 true d hnd h15d hmd w1 (hLd.below (Nat.le_refl _) h))
  have HB0 := Lib.hid hb0
  clear hb0 hLc hLd hmc hmd h15c h15d
  go_enter Try.func66, Try.ntmps66
  go_wp2_with fail
  refine (HN1.out).mono ?_; rintro e w1 ⟨gs, rfl, hc1, hb1⟩
  have HB1 := Lib.hid (HB0.out.trans (hb1.mono (by simp)))
  have HR1 : Hid (w1.heap[w.heap.size]? = some (.cells #[.pointer none, .pointer none] 112 (0, 0))) := (hb1.block _ (by simp)).trans HRB.out
  have HC1 := Lib.hid hc1
  clear hc1 hb1 HRB
  go_wp2_with fail
  refine (HN2.out w1 HB1.out).mono ?_; rintro e w2 ⟨gd, rfl, hd2, hb2⟩
  have HB2 := Lib.hid (HB1.out.trans (hb2.mono HB1.out.size))
  have hr2 : w2.heap[w.heap.size]? = some (.cells #[.pointer none, .pointer none] 112 (0, 0)) := (hb2.block _ (lt_of_heap HR1.out)).trans HR1.out
  have HC2 := Lib.hid (HC1.out.far (far_below hb2))
  have HD2 := Lib.hid hd2
  have f0 := frozen_of_row w2 _ 0 _ _ hr2
  have f1 := frozen_of_row w2 _ 1 _ _ hr2
  have e0 : w2.cell? ⟨w.heap.size, 0, none⟩ = some (.pointer none) := by rw [cell_of_row w2 _ 0 _ _ _ hr2]; rfl
  have e1 : w2.cell? ⟨w.heap.size, 1, none⟩ = some (.pointer none) := by rw [cell_of_row w2 _ 1 _ _ _ hr2]; rfl
  have HR2 := Lib.hid hr2
  clear hd2 hb2 hr2
  go_wp2
  have hr3 := two_cells (x := .pointer (some ⟨gs, 0, none⟩)) (y := .pointer (some ⟨gd, 0, none⟩)) HR2.out
  have hb3 : Below w.heap.size w ((w2.setCell ⟨w.heap.size, 0, none⟩ (.pointer (some ⟨gs, 0, none⟩))).setCell ⟨w.heap.size, 1, none⟩ (.pointer (some ⟨gd, 0, none⟩))) := (HB2.out.setCell (Nat.le_refl _) _).setCell (Nat.le_refl _) _
  have hn3 := (near_set (i := 0) (v := .pointer (some ⟨gs, 0, none⟩)) HR2.out (by decide) (by decide)).then (near_set (i := 1) (v := .pointer (some ⟨gd, 0, none⟩)) (heap_setCell_same w2 w.heap.size 0 _ _ (.pointer (some ⟨gs, 0, none⟩)) HR2.out) (by decide) (by decide))
  generalize hw3 : (w2.setCell ⟨w.heap.size, 0, none⟩ (.pointer (some ⟨gs, 0, none⟩))).setCell ⟨w.heap.size, 1, none⟩ (.pointer (some ⟨gd, 0, none⟩)) = w3 at *
  have e0' : w3.cell? ⟨w.heap.size, 0, none⟩ = some (.pointer (some ⟨gs, 0, none⟩)) := by rw [cell_of_row w3 _ 0 _ _ _ hr3]; rfl
  have e1' : w3.cell? ⟨w.heap.size, 1, none⟩ = some (.pointer (some ⟨gd, 0, none⟩)) := by rw [cell_of_row w3 _ 1 _ _ _ hr3]; rfl
  refine bodyPost_ret (v := .tuple #[.agg #[.pointer (some ⟨gs, 0, none⟩), .pointer (some ⟨gd, 0, none⟩)], .int .i64 0]) (by simp [results, Try.results66, go_sem, e0', e1']) rfl ⟨⟨gs, gd, rfl, HC2.out.near hn3, HD2.out.near hn3⟩, hb3⟩

set_option maxHeartbeats 2000000 in
theorem pair_no1 (A1 A2 : Option Addr) (cap1 cap2 n2 : Nat) (c : Cod) (hnc : c.n ≤ 4096) (h15c : ∀ i, i < c.n → c.ls i ≤ 15) (hmc : ¬ may c true) (w : World) (hLc : Lens w A1 c.n c.ls) :
    Calls Try.prog 66 #[.slice A1 c.n cap1, .slice A2 n2 cap2] w fun e w' => prBad e ∧ Below w.heap.size w w' := by
  have hb0 : Below w.heap.size w (w.alloc (.cells #[.pointer none, .pointer none] 112)) := (Below.refl _ _).alloc (Nat.le_refl _) _
  have HRB : Hid ((w.alloc (.cells #[.pointer none, .pointer none] 112)).heap[w.heap.size]? = some (.cells #[.pointer none, .pointer none] 112 (0, 0))) := heap_alloc_new w _
  have HN1 := Lib.hid (newC_no A1 cap1 true c hnc h15c hmc _ (hLc.below (Nat.le_refl _) hb0))
  have HB0 := Lib.hid hb0
  clear hb0 hLc hmc h15c
  go_enter Try.func66, Try.ntmps66
  go_wp2_with fail
  refine (HN1.out).mono ?_; rintro e w2 ⟨rfl, hb1⟩
  have HB2 := Lib.hid (HB0.out.trans (hb1.mono (by simp)))
  have hr2 : w2.heap[w.heap.size]? = some (.cells #[.pointer none, .pointer none] 112 (0, 0)) := (hb1.block _ (by simp)).trans HRB.out
  have f0 := frozen_of_row w2 _ 0 _ _ hr2
  have f1 := frozen_of_row w2 _ 1 _ _ hr2
  have e0 : w2.cell? ⟨w.heap.size, 0, none⟩ = some (.pointer none) := by rw [cell_of_row w2 _ 0 _ _ _ hr2]; rfl
  have e1 : w2.cell? ⟨w.heap.size, 1, none⟩ = some (.pointer none) := by rw [cell_of_row w2 _ 1 _ _ _ hr2]; rfl
  have HR2 := Lib.hid hr2
  clear hb1 hr2 HRB
  go_wp2
  have hr3 := two_cells (x := .pointer none) (y := .pointer none) HR2.out
  have hb3 : Below w.heap.size w ((w2.setCell ⟨w.heap.size, 0, none⟩ (.pointer none)).setCell ⟨w.heap.size, 1, none⟩ (.pointer none)) := (HB2.out.setCell (Nat.le_refl _) _).setCell (Nat.le_refl _) _
  generalize hw3 : (w2.setCell ⟨w.heap.size, 0, none⟩ (.pointer none)).setCell ⟨w.heap.size, 1, none⟩ (.pointer none) = w3 at *
  have e0' : w3.cell? ⟨w.heap.size, 0, none⟩ = some (.pointer none) := by rw [cell_of_row w3 _ 0 _ _ _ hr3]; rfl
  have e1' : w3.cell? ⟨w.heap.size, 1, none⟩ = some (.pointer none) := by rw [cell_of_row w3 _ 1 _ _ _ hr3]; rfl
  exact bodyPost_ret (v := .tuple #[.agg #[.pointer none, .pointer none], .int .i64 10]) (by simp [results, Try.results66, go_sem, e0', e1']) rfl ⟨⟨none, none, rfl⟩, hb3⟩
set_option maxHeartbeats 2000000 in
theorem pair_no2 (A1 A2 : Option Addr) (cap1 cap2 : Nat) (c d : Cod) (hnc : c.n ≤ 4096) (hnd : d.n ≤ 4096) (h15c : ∀ i, i < c.n → c.ls i ≤ 15) (h15d : ∀ i, i < d.n → d.ls i ≤ 15) (hmc : may c true) (hmd : ¬ may d true) (w : World) (hLc : Lens w A1 c.n c.ls) (hLd : Lens w A2 d.n d.ls) :
    Calls Try.prog 66 #[.slice A1 c.n cap1, .slice A2 d.n cap2] w fun e w' => prBad e ∧ Below w.heap.size w w' := by
  have hb0 : Below w.heap.size w (w.alloc (.cells #[.pointer none, .pointer none] 112)) := (Below.refl _ _).alloc (Nat.le_refl _) _
  have HRB : Hid ((w.alloc (.cells #[.pointer none, .pointer none] 112)).heap[w.heap.size]? = some (.cells #[.pointer none, .pointer none] 112 (0, 0))) := heap_alloc_new w _
  have HN1 := Lib.hid (newC_ok A1 cap1 true c hnc h15c hmc _ (hLc.below (Nat.le_refl _) hb0))
  have HN2 := Lib.hid (fun w1 (h : Below w.heap.size w w1) => newC_no A2 cap2 true d hnd h15d hmd w1 (hLd.below (Nat.le_refl _) h))
  have HB0 := Lib.hid hb0
  clear hb0 hLc hLd hmc hmd h15c h15d
  go_enter Try.func66, Try.ntmps66
  go_wp2_with fail
  refine (HN1.out).mono ?_; rintro e w1 ⟨gs, rfl, hc1, hb1⟩
  have HB1 := Lib.hid (HB0.out.trans (hb1.mono (by simp)))
  have HR1 : Hid (w1.heap[w.heap.size]? = some (.cells #[.pointer none, .pointer none] 112 (0, 0))) := (hb1.block _ (by simp)).trans HRB.out
  clear hc1 hb1 HRB
  go_wp2_with fail
  refine (HN2.out w1 HB1.out).mono ?_; rintro e w2 ⟨rfl, hb2⟩
  have HB2 := Lib.hid (HB1.out.trans (hb2.mono HB1.out.size))
  have hr2 : w2.heap[w.heap.size]? = some (.cells #[.pointer none, .pointer none] 112 (0, 0)) := (hb2.block _ (lt_of_heap HR1.out)).trans HR1.out
  have f0 := frozen_of_row w2 _ 0 _ _ hr2
  have f1 := frozen_of_row w2 _ 1 _ _ hr2
  have e0 : w2.cell? ⟨w.heap.size, 0, none⟩ = some (.pointer none) := by rw [cell_of_row w2 _ 0 _ _ _ hr2]; rfl
  have e1 : w2.cell? ⟨w.heap.size, 1, none⟩ = some (.pointer none) := by rw [cell_of_row w2 _ 1 _ _ _ hr2]; rfl
  have HR2 := Lib.hid hr2
  clear hb2 hr2
  go_wp2
  have hr3 := two_cells (x := .pointer (some ⟨gs, 0, none⟩)) (y := .pointer none) HR2.out
  have hb3 : Below w.heap.size w ((w2.setCell ⟨w.heap.size, 0, none⟩ (.pointer (some ⟨gs, 0, none⟩))).setCell ⟨w.heap.size, 1, none⟩ (.pointer none)) := (HB2.out.setCell (Nat.le_refl _) _).setCell (Nat.le_refl _) _
  generalize hw3 : (w2.setCell ⟨w.heap.size, 0, none⟩ (.pointer (some ⟨gs, 0, none⟩))).setCell ⟨w.heap.size, 1, none⟩ (.pointer none) = w3 at *
  have e0' : w3.cell? ⟨w.heap.size, 0, none⟩ = some (.pointer (some ⟨gs, 0, none⟩)) := by rw [cell_of_row w3 _ 0 _ _ _ hr3]; rfl
  have e1' : w3.cell? ⟨w.heap.size, 1, none⟩ = some (.pointer none) := by rw [cell_of_row w3 _ 1 _ _ _ hr3]; rfl
  exact bodyPost_ret (v := .tuple #[.agg #[.pointer (some ⟨gs, 0, none⟩), .pointer none], .int .i64 10]) (by simp [results, Try.results66, go_sem, e0', e1']) rfl ⟨⟨_, none, rfl⟩, hb3⟩
end Go.Proofs.Ytbgclbnbnpnolaa
