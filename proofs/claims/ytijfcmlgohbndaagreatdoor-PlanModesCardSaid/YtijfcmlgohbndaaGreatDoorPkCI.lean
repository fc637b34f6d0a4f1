/-
  A slice of texts that came in.
  A slice of actions as it comes in.
  The walk of PlanModes as the frame wants it.
-/
import Derived.Test.YtijfcmlgohbndaaGreatDoorPkBI
import Derived.SliceStrings
import Derived.ChangeOld
import Derived.OpenShut
import Derived.Laws.Rows
import Derived.Test.YtijfcmlgohbndaaGreatDoorPkBC
import Derived.Test.YtijfcmlgohbndaaGreatDoorPkCH
import Derived.Test.YtijfcmlgohbndaaGreatDoorPlanModesWalk

namespace Go.Proofs.YtijfcmlgohbndaaGreatDoor
set_option maxRecDepth 100000
set_option linter.unusedVariables false
open Go.RowKit Go.Joins Go.Deep Go.ChangeShapes Go.WideShapes Go.ChangeAt
theorem cells_str1 : Tryz.prog.cellsOf 9 = 1 := by kernel_rfl
theorem txs_row {H : Type} {enc : TypeId × Value → H} {W : World} {fuel : Nat} {a : Option Addr} {len cap : Nat} {x : DataW H × List MemPlace} (h : DataW.trod enc Tryz.prog W 0 (fun _ => true) true fuel 24 [.slice a len cap] = some x) :
    ∃ l : List ByteArray, len = l.length ∧ TxS W a l ∧ (a = none → l = []) ∧ l.length ≤ maxLen ∧ len ≤ cap := by
  rcases open_strings Tryz.underlying24 Tryz.underlying9 cells_str1 h with ⟨hcs, hx⟩ | ⟨ad, len', cap', ss, hcs, _, hl, hm, hz, hx, hcell, hws⟩
  · simp at hcs
    obtain ⟨rfl, rfl, rfl⟩ := hcs
    exact ⟨[], rfl, fun h => absurd h (by decide), fun _ => rfl, Nat.zero_le _, Nat.le_refl _⟩
  · simp at hcs
    obtain ⟨rfl, rfl, rfl⟩ := hcs
    simp only [if_true] at hz
    have hlt : (ss.take len).length = len := by rw [List.length_take]; omega
    refine ⟨ss.take len, hlt.symm, fun h0 => ?_, (fun e => by cases e), by omega, hl⟩
    rw [hlt] at h0
    obtain ⟨b, off, spot⟩ := ad
    have hspot : spot = none := by simpa [Addr.add] using World.cell?_spot (hcell 0 (by omega))
    subst hspot
    have hj : ∀ j y, (ss.take len)[j]? = some y → W.cell? ⟨b, off + j, none⟩ = some (.string y) := fun j y hy => by
      have hj : j < len := by
        have := (List.getElem?_eq_some_iff.1 hy).1
        omega
      rw [List.getElem?_take_of_lt hj] at hy
      have h := hcell j (by omega)
      rw [List.getD_eq_getElem?_getD, hy] at h
      exact (show (⟨b, off, none⟩ : Addr).add j = ⟨b, off + j, none⟩ by simp [Addr.add]) ▸ h
    exact ⟨b, off, rfl, block_lt_of_cell (hj 0 _ (List.getElem?_eq_getElem (by omega))), hj⟩
end Go.Proofs.YtijfcmlgohbndaaGreatDoor

namespace Go.Proofs.YtijfcmlgohbndaaGreatDoor
set_option maxRecDepth 100000
set_option linter.unusedVariables false
open Go.Joins Go.RowKit Go.Deep Go.ChangeShapes Go.WideShapes
theorem cells_act : Tryz.prog.cellsOf 41 = 3 := by kernel_rfl
/-- What an action's parts are within. -/
def ActOk (x : Act3) : Prop := (Lit.int .i64 x.k).wf = true ∧ (Lit.int .i64 x.e).wf = true ∧ (Lit.int .i64 x.i).wf = true
/-- A slice of actions is one. -/
theorem acts_row {H : Type} {enc : TypeId × Value → H} {W : World} {fuel : Nat} {a : Option Addr} {len cap : Nat} {x : DataW H × List MemPlace} (h : DataW.trod enc Tryz.prog W 0 (fun _ => true) true fuel 35 [.slice a len cap] = some x) : ∃ l : List Act3, len = l.length ∧ Acts3 W a l ∧ ((∀ f ∈ l, ActOk f) ∧ l.length ≤ maxLen) ∧ (a = none → len = 0 ∧ cap = 0) ∧ len ≤ cap := by
  rcases open_slice Tryz.underlying35 h with ⟨hcs, _⟩ | ⟨ad, len', cap', m, n, D, Pl, hcs, _, hl, hm, hmm, _, hel⟩
  · simp at hcs
    obtain ⟨rfl, rfl, rfl⟩ := hcs
    exact ⟨[], rfl, Acts3.nil _ _, ⟨fun f hf => (by cases hf), Nat.zero_le _⟩, fun _ => ⟨rfl, rfl⟩, Nat.le_refl _⟩
  · simp at hcs
    obtain ⟨rfl, rfl, rfl⟩ := hcs
    have hm2 : len ≤ m := by rw [hmm]; simp; exact hl
    have hmx : len ≤ maxLen := by omega
    have each : ∀ i, i < len → ∃ t : Act3, ActOk t ∧ W.cell? (ad.add (i * 3)) = some (.int .i64 t.k) ∧ W.cell? (ad.add (i * 3 + 1)) = some (.int .i64 t.e) ∧ W.cell? (ad.add (i * 3 + 2)) = some (.int .i64 t.i) := by
      intro i hi
      obtain ⟨cs', h1, h2⟩ := hel i (by omega)
      rw [cells_act] at h1
      obtain ⟨_, hlen, hcell⟩ := World.cells?_some h1
      obtain ⟨xs, k, hk, hxy, _, hxl, hf⟩ := DataW.trod_struct Tryz.underlying41 h2
      match xs, hxl, cs', hlen with
      | [y0, y1, y2], _, [v0, v1, v2], _ =>
        have g0 := hf 0 _ rfl
        have g1 := hf 1 _ rfl
        have g2 := hf 2 _ rfl
        simp [cells_iint] at g0 g1 g2
        have e0 := hcell 0 (by omega)
        have e1 := hcell 1 (by omega)
        have e2 := hcell 2 (by omega)
        rw [add_add] at e0 e1 e2
        obtain ⟨z0, q0, _, w0⟩ := DataW.trod_int Tryz.underlying3 g0
        obtain ⟨z1, q1, _, w1⟩ := DataW.trod_int Tryz.underlying3 g1
        obtain ⟨z2, q2, _, w2⟩ := DataW.trod_int Tryz.underlying3 g2
        simp at q0 q1 q2
        subst q0 q1 q2
        exact ⟨⟨z0, z1, z2⟩, ⟨w0, w1, w2⟩, by simpa using e0, by simpa using e1, by simpa using e2⟩
    obtain ⟨f, hf⟩ := choose_lt each
    refine ⟨(List.range len).map f, by simp, fun hpos => ?_, ⟨fun t ht => ?_, by simpa using hmx⟩, fun h => (by cases h), hl⟩
    · rw [List.length_map, List.length_range] at hpos
      obtain ⟨b, off, spot⟩ := ad
      have hz := (hf 0 hpos).2.1
      have hspot : spot = none := by simpa [Addr.add] using World.cell?_spot hz
      subst hspot
      refine ⟨b, off, rfl, block_lt_of_cell hz, fun i x hx => ?_⟩
      have hi : i < len := by have := (List.getElem?_eq_some_iff.1 hx).1; simpa using this
      obtain ⟨h0, c0, c1, c2⟩ := hf i hi
      rw [Addr.add_lit] at c0 c1 c2
      rw [List.getElem?_map, List.getElem?_range hi] at hx
      injection hx with hx
      subst hx
      rw [← Nat.add_assoc] at c1 c2
      exact ⟨c0, c1, c2⟩
    · obtain ⟨i, hi, rfl⟩ := List.mem_map.1 ht
      exact (hf i (by simpa using hi)).1
theorem itms_row' {H : Type} {enc : TypeId × Value → H} {W : World} {fuel : Nat} {a : Option Addr} {len cap : Nat} {x : DataW H × List MemPlace} (h : DataW.trod enc Tryz.prog W 0 (fun _ => true) true fuel 23 [.slice a len cap] = some x) : ∃ l : List Itm, len = l.length ∧ Itms W a l ∧ ((∀ f ∈ l, ItmOk f) ∧ l.length ≤ maxLen) ∧ (a = none → len = 0 ∧ cap = 0) ∧ len ≤ cap := by
  obtain ⟨l, h1, h2, h3, h4, h5⟩ := itms_row h
  refine ⟨l, h1, h2, ⟨h3, ?_⟩, h4, h5⟩
  rw [← h1]
  exact itms_len h
end Go.Proofs.YtijfcmlgohbndaaGreatDoor

namespace Go.Proofs.YtijfcmlgohbndaaGreatDoor
set_option maxRecDepth 100000
set_option linter.unusedVariables false
open Go.RowKit Go.Joins Go.Deep Go.ChangeShapes Go.WideShapes Go.ChangeAt
theorem planModes_walk (a0 : Int) (a1 : Option Addr) (cap1 : Nat) (l1 : List Ent) (a2 : Option Addr) (cap2 : Nat) (l2 : List Itm) (a3 : Option Addr) (cap3 : Nat) (l3 : List ByteArray) (a4 : Option Addr) (cap4 : Nat) (l4 : List ByteArray) (w0 : (Lit.int .u8 a0).wf = true) (w : World)
    (hp1 : Ents w a1 l1) (ho1 : (∀ f ∈ l1, EntW f) ∧ l1.length ≤ maxLen) (hn1 : a1 = none → l1.length = 0 ∧ cap1 = 0) (hc1 : l1.length ≤ cap1)
    (hp2 : Itms w a2 l2) (ho2 : (∀ f ∈ l2, ItmOk f) ∧ l2.length ≤ maxLen) (hn2 : a2 = none → l2.length = 0 ∧ cap2 = 0) (hc2 : l2.length ≤ cap2)
    (hp3 : TxS w a3 l3) (ho3 : a3 = none → l3 = []) (hn3 : l3.length ≤ maxLen) (hc3 : l3.length ≤ cap3)
    (hp4 : TxS w a4 l4) (ho4 : a4 = none → l4 = []) (hn4 : l4.length ≤ maxLen) (hc4 : l4.length ≤ cap4) (hE : Env w) (hU : Upper w) :
    Calls Tryz.prog 3 #[.int .u8 a0, .slice a1 l1.length cap1, .slice a2 l2.length cap2, .slice a3 l3.length cap3, .slice a4 l4.length cap4] w fun e w' => e = .returned (.bool true) ∧ Below w.heap.size w w' :=
  planModes_core a0 w0 a1 a2 a3 a4 cap1 cap2 cap3 cap4 l1 l2 l3 l4 ho1.1 ho1.2 ho2.2 hn3 hn4 w hp1 hp2 hp3 hp4 hE hU
end Go.Proofs.YtijfcmlgohbndaaGreatDoor
