/-
  A slice of items as it comes in.
  The walk of DenoteOver as the frame wants it.
-/
import Derived.Test.YtpkhpaklhfomkaaGreatDoorItA
import Derived.Deep.Slices
import Derived.Deep.Strs
import Derived.ArgAppend
import Derived.Deep.SlicePairs
import Derived.Test.YtpkhpaklhfomkaaGreatDoorPkF

namespace Go.Proofs.YtpkhpaklhfomkaaGreatDoor
set_option maxRecDepth 100000
set_option linter.unusedVariables false
open Go.Joins Go.RowKit Go.Deep Go.ChangeShapes Go.WideShapes
theorem cells_item : Tryz.prog.cellsOf 33 = 8 := by kernel_rfl
theorem cells_node : Tryz.prog.cellsOf 31 = 7 := by kernel_rfl
theorem cells_istr : Tryz.prog.cellsOf 9 = 1 := by kernel_rfl
theorem cells_iint : Tryz.prog.cellsOf 3 = 1 := by kernel_rfl
theorem cells_iu32 : Tryz.prog.cellsOf 29 = 1 := by kernel_rfl
theorem cells_ii64 : Tryz.prog.cellsOf 2 = 1 := by kernel_rfl
/-- What an item's parts are within. -/
def ItmOk (x : Itm) : Prop := x.s.size ≤ maxLen ∧ (Lit.int .i64 x.k).wf = true ∧ (Lit.int .u32 x.m).wf = true ∧ (Lit.int .u32 x.u).wf = true ∧ (Lit.int .u32 x.g).wf = true ∧ (Lit.int .i64 x.t).wf = true ∧ (Lit.int .i64 x.a).wf = true ∧ x.d.size ≤ maxLen
/-- A slice of items is one. -/
theorem itms_row {H : Type} {enc : TypeId × Value → H} {W : World} {fuel : Nat} {a : Option Addr} {len cap : Nat} {x : DataW H × List MemPlace} (h : DataW.trod enc Tryz.prog W 0 (fun _ => true) true fuel 22 [.slice a len cap] = some x) : ∃ l : List Itm, len = l.length ∧ Itms W a l ∧ (∀ f ∈ l, ItmOk f) ∧ (a = none → len = 0 ∧ cap = 0) ∧ len ≤ cap := by
  rcases open_slice Tryz.underlying22 h with ⟨hcs, _⟩ | ⟨ad, len', cap', m, n, D, Pl, hcs, _, hl, hm, hmm, _, hel⟩
  · simp at hcs
    obtain ⟨rfl, rfl, rfl⟩ := hcs
    exact ⟨[], rfl, Itms.nil _ _, fun f hf => (by cases hf), fun _ => ⟨rfl, rfl⟩, Nat.le_refl _⟩
  · simp at hcs
    obtain ⟨rfl, rfl, rfl⟩ := hcs
    have hm2 : len ≤ m := by rw [hmm]; simp; exact hl
    have each : ∀ i, i < len → ∃ t : Itm, ItmOk t ∧ W.cell? (ad.add (i * 8)) = some (.string t.s) ∧ W.cell? (ad.add (i * 8 + 1)) = some (.int .i64 t.k) ∧ W.cell? (ad.add (i * 8 + 2)) = some (.int .u32 t.m) ∧ W.cell? (ad.add (i * 8 + 3)) = some (.int .u32 t.u) ∧ W.cell? (ad.add (i * 8 + 4)) = some (.int .u32 t.g) ∧ W.cell? (ad.add (i * 8 + 5)) = some (.int .i64 t.t) ∧ W.cell? (ad.add (i * 8 + 6)) = some (.int .i64 t.a) ∧ W.cell? (ad.add (i * 8 + 7)) = some (.string t.d) := by
      intro i hi
      obtain ⟨cs', h1, h2⟩ := hel i (by omega)
      rw [cells_item] at h1
      obtain ⟨_, hlen, hcell⟩ := World.cells?_some h1
      obtain ⟨xs, k, hk, hxy, _, hxl, hf⟩ := DataW.trod_struct Tryz.underlying33 h2
      match xs, hxl, cs', hlen with
      | [y0, y1], _, [v0, v1, v2, v3, v4, v5, v6, v7], _ =>
        have g0 := hf 0 _ rfl
        have g1 := hf 1 _ rfl
        simp [cells_istr, cells_node] at g0 g1
        have e0 := hcell 0 (by omega)
        have e1 := hcell 1 (by omega)
        have e2 := hcell 2 (by omega)
        have e3 := hcell 3 (by omega)
        have e4 := hcell 4 (by omega)
        have e5 := hcell 5 (by omega)
        have e6 := hcell 6 (by omega)
        have e7 := hcell 7 (by omega)
        rw [add_add] at e0 e1 e2 e3 e4 e5 e6 e7
        obtain ⟨ys, k2, hk2, hxy2, _, hyl, hf2⟩ := DataW.trod_struct Tryz.underlying31 g1
        match ys, hyl with
        | [z1, z2, z3, z4, z5, z6, z7], _ =>
          have k1 := hf2 0 _ rfl
          have k2 := hf2 1 _ rfl
          have k3 := hf2 2 _ rfl
          have k4 := hf2 3 _ rfl
          have k5 := hf2 4 _ rfl
          have k6 := hf2 5 _ rfl
          have k7 := hf2 6 _ rfl
          simp [cells_istr, cells_iint, cells_iu32, cells_ii64] at k1 k2 k3 k4 k5 k6 k7
          obtain ⟨x0, q0, _, w0⟩ := DataW.trod_string Tryz.underlying9 g0
          obtain ⟨x1, q1, _, w1⟩ := DataW.trod_int Tryz.underlying3 k1
          obtain ⟨x2, q2, _, w2⟩ := DataW.trod_int Tryz.underlying29 k2
          obtain ⟨x3, q3, _, w3⟩ := DataW.trod_int Tryz.underlying29 k3
          obtain ⟨x4, q4, _, w4⟩ := DataW.trod_int Tryz.underlying29 k4
          obtain ⟨x5, q5, _, w5⟩ := DataW.trod_int Tryz.underlying2 k5
          obtain ⟨x6, q6, _, w6⟩ := DataW.trod_int Tryz.underlying2 k6
          obtain ⟨x7, q7, _, w7⟩ := DataW.trod_string Tryz.underlying9 k7
          simp at q0 q1 q2 q3 q4 q5 q6 q7
          subst q0 q1 q2 q3 q4 q5 q6 q7
          exact ⟨⟨x0, x1, x2, x3, x4, x5, x6, x7⟩, ⟨w0, w1, w2, w3, w4, w5, w6, w7⟩, by simpa using e0, by simpa using e1, by simpa using e2, by simpa using e3, by simpa using e4, by simpa using e5, by simpa using e6, by simpa using e7⟩
    obtain ⟨f, hf⟩ := choose_lt each
    refine ⟨(List.range len).map f, by simp, fun hpos => ?_, fun t ht => ?_, fun h => (by cases h), hl⟩
    · rw [List.length_map, List.length_range] at hpos
      obtain ⟨b, off, spot⟩ := ad
      have hz := (hf 0 hpos).2.1
      have hspot : spot = none := by simpa [Addr.add] using World.cell?_spot hz
      subst hspot
      refine ⟨b, off, rfl, block_lt_of_cell hz, fun i x hx => ?_⟩
      have hi : i < len := by have := (List.getElem?_eq_some_iff.1 hx).1; simpa using this
      obtain ⟨h0, c0, c1, c2, c3, c4, c5, c6, c7⟩ := hf i hi
      rw [Addr.add_lit] at c0 c1 c2 c3 c4 c5 c6 c7
      rw [List.getElem?_map, List.getElem?_range hi] at hx
      injection hx with hx
      subst hx
      rw [← Nat.add_assoc] at c1 c2 c3 c4 c5 c6 c7
      exact ⟨c0, c1, c2, c3, c4, c5, c6, c7⟩
    · obtain ⟨i, hi, rfl⟩ := List.mem_map.1 ht
      exact (hf i (by simpa using hi)).1
theorem itms_len {H : Type} {enc : TypeId × Value → H} {W : World} {fuel : Nat} {a : Option Addr} {len cap : Nat} {x : DataW H × List MemPlace} (h : DataW.trod enc Tryz.prog W 0 (fun _ => true) true fuel 22 [.slice a len cap] = some x) : len ≤ maxLen := by
  rcases open_slice Tryz.underlying22 h with ⟨hcs, _⟩ | ⟨ad, len', cap', m, n, D, Pl, hcs, _, hl, hm, hmm, _, hel⟩
  · simp at hcs
    obtain ⟨rfl, rfl, rfl⟩ := hcs
    exact Nat.zero_le _
  · simp at hcs
    obtain ⟨rfl, rfl, rfl⟩ := hcs
    omega
end Go.Proofs.YtpkhpaklhfomkaaGreatDoor

namespace Go.Proofs.YtpkhpaklhfomkaaGreatDoor
set_option maxRecDepth 100000
set_option linter.unusedVariables false
open Go.RowKit Go.Joins Go.Deep
theorem itms_row' {H : Type} {enc : TypeId × Value → H} {W : World} {fuel : Nat} {a : Option Addr} {len cap : Nat} {x : DataW H × List MemPlace} (h : DataW.trod enc Tryz.prog W 0 (fun _ => true) true fuel 22 [.slice a len cap] = some x) : ∃ l : List Itm, len = l.length ∧ Itms W a l ∧ ((∀ f ∈ l, ItmOk f) ∧ l.length ≤ maxLen) ∧ (a = none → len = 0 ∧ cap = 0) ∧ len ≤ cap := by
  obtain ⟨l, h1, h2, h3, h4, h5⟩ := itms_row h
  refine ⟨l, h1, h2, ⟨h3, ?_⟩, h4, h5⟩
  rw [← h1]
  exact itms_len h
theorem denoteOver_walk (a0 : Option Addr) (cap0 : Nat) (l0 : List Itm) (a1 : Option Addr) (cap1 : Nat) (l1 : List Itm) (w : World) (hp0 : Itms w a0 l0) (ho0 : (∀ f ∈ l0, ItmOk f) ∧ l0.length ≤ maxLen) (hn0 : a0 = none → l0.length = 0 ∧ cap0 = 0) (hc0 : l0.length ≤ cap0) (hp1 : Itms w a1 l1) (ho1 : (∀ f ∈ l1, ItmOk f) ∧ l1.length ≤ maxLen) (hn1 : a1 = none → l1.length = 0 ∧ cap1 = 0) (hc1 : l1.length ≤ cap1) :
    Calls Tryz.prog 4 #[.slice a0 l0.length cap0, .slice a1 l1.length cap1] w fun e w' => e = .returned (.bool true) ∧ Below w.heap.size w w' :=
  denoteOver_core a0 a1 cap0 cap1 l0 l1 w hp0 hp1 (by have := ho0.2; unfold maxLen at this; omega) (by have := ho1.2; unfold maxLen at this; omega)
end Go.Proofs.YtpkhpaklhfomkaaGreatDoor
