/-
  A slice of texts that came in.
  A slice of items as it comes in.
  A slice of entries as it comes in.
  The walk of FilterTakes as the frame wants it.
-/
import Derived.Test.YtjnoapbddifcpaaGreatDoorPkBA
import Derived.SliceStrings
import Derived.ChangeOld
import Derived.OpenShut
import Derived.Laws.Rows
import Derived.Test.YtjnoapbddifcpaaGreatDoorPkBF
import Derived.Deep.Slices
import Derived.Deep.Strs
import Derived.ArgAppend
import Derived.Deep.SlicePairs
import Derived.Test.YtjnoapbddifcpaaGreatDoorFilterTakesWalk

namespace Go.Proofs.YtjnoapbddifcpaaGreatDoor
set_option maxRecDepth 100000
set_option linter.unusedVariables false
open Go.RowKit Go.Joins Go.Deep Go.ChangeShapes Go.WideShapes Go.ChangeAt
theorem cells_str1 : Tryz.prog.cellsOf 9 = 1 := by kernel_rfl
theorem txs_row {H : Type} {enc : TypeId × Value → H} {W : World} {fuel : Nat} {a : Option Addr} {len cap : Nat} {x : DataW H × List MemPlace} (h : DataW.trod enc Tryz.prog W 0 (fun _ => true) true fuel 22 [.slice a len cap] = some x) :
    ∃ l : List ByteArray, len = l.length ∧ TxS W a l ∧ (a = none → l = []) ∧ l.length ≤ maxLen ∧ len ≤ cap := by
  rcases open_strings Tryz.underlying22 Tryz.underlying9 cells_str1 h with ⟨hcs, hx⟩ | ⟨ad, len', cap', ss, hcs, _, hl, hm, hz, hx, hcell, hws⟩
  · simp at hcs
    obtain ⟨rfl, rfl, rfl⟩ := hcs
    exact ⟨[], rfl, fun h => absurd h (by decide), fun _ => rfl, Nat.zero_le _, Nat.le_refl _⟩
  · simp at hcs
    obtain ⟨rfl, rfl, rfl⟩ := hcs
    simp only [if_true] at hz
    have hlt : (ss.take len).length = len := by rw [List.length_take]; omega
    refine ⟨ss.take len, hlt.symm, fun h0 => ?_, (fun e => by cases e), by omega, hl⟩
    rw [hlt] at h0
    obtain ⟨b, off, spot⟩ := ad
    have hspot : spot = none := by simpa [Addr.add] using World.cell?_spot (hcell 0 (by omega))
    subst hspot
    have hj : ∀ j y, (ss.take len)[j]? = some y → W.cell? ⟨b, off + j, none⟩ = some (.string y) := fun j y hy => by
      have hj : j < len := by
        have := (List.getElem?_eq_some_iff.1 hy).1
        omega
      rw [List.getElem?_take_of_lt hj] at hy
      have h := hcell j (by omega)
      rw [List.getD_eq_getElem?_getD, hy] at h
      exact (show (⟨b, off, none⟩ : Addr).add j = ⟨b, off + j, none⟩ by simp [Addr.add]) ▸ h
    exact ⟨b, off, rfl, block_lt_of_cell (hj 0 _ (List.getElem?_eq_getElem (by omega))), hj⟩
end Go.Proofs.YtjnoapbddifcpaaGreatDoor

namespace Go.Proofs.YtjnoapbddifcpaaGreatDoor
set_option maxRecDepth 100000
set_option linter.unusedVariables false
open Go.Joins Go.RowKit Go.Deep Go.ChangeShapes Go.WideShapes
theorem cells_item : Tryz.prog.cellsOf 73 = 8 := by kernel_rfl
theorem cells_node : Tryz.prog.cellsOf 71 = 7 := by kernel_rfl
theorem cells_istr : Tryz.prog.cellsOf 9 = 1 := by kernel_rfl
theorem cells_iint : Tryz.prog.cellsOf 3 = 1 := by kernel_rfl
theorem cells_iu32 : Tryz.prog.cellsOf 29 = 1 := by kernel_rfl
theorem cells_ii64 : Tryz.prog.cellsOf 2 = 1 := by kernel_rfl
/-- What an item's parts are within. -/
def ItmOk (x : Itm) : Prop := x.s.size ≤ maxLen ∧ (Lit.int .i64 x.k).wf = true ∧ (Lit.int .u32 x.m).wf = true ∧ (Lit.int .u32 x.u).wf = true ∧ (Lit.int .u32 x.g).wf = true ∧ (Lit.int .i64 x.t).wf = true ∧ (Lit.int .i64 x.a).wf = true ∧ x.d.size ≤ maxLen
/-- A slice of items is one. -/
theorem itms_row {H : Type} {enc : TypeId × Value → H} {W : World} {fuel : Nat} {a : Option Addr} {len cap : Nat} {x : DataW H × List MemPlace} (h : DataW.trod enc Tryz.prog W 0 (fun _ => true) true fuel 23 [.slice a len cap] = some x) : ∃ l : List Itm, len = l.length ∧ Itms W a l ∧ (∀ f ∈ l, ItmOk f) ∧ (a = none → len = 0 ∧ cap = 0) ∧ len ≤ cap := by
  rcases open_slice Tryz.underlying23 h with ⟨hcs, _⟩ | ⟨ad, len', cap', m, n, D, Pl, hcs, _, hl, hm, hmm, _, hel⟩
  · simp at hcs
    obtain ⟨rfl, rfl, rfl⟩ := hcs
    exact ⟨[], rfl, Itms.nil _ _, fun f hf => (by cases hf), fun _ => ⟨rfl, rfl⟩, Nat.le_refl _⟩
  · simp at hcs
    obtain ⟨rfl, rfl, rfl⟩ := hcs
    have hm2 : len ≤ m := by rw [hmm]; simp; exact hl
    have each : ∀ i, i < len → ∃ t : Itm, ItmOk t ∧ W.cell? (ad.add (i * 8)) = some (.string t.s) ∧ W.cell? (ad.add (i * 8 + 1)) = some (.int .i64 t.k) ∧ W.cell? (ad.add (i * 8 + 2)) = some (.int .u32 t.m) ∧ W.cell? (ad.add (i * 8 + 3)) = some (.int .u32 t.u) ∧ W.cell? (ad.add (i * 8 + 4)) = some (.int .u32 t.g) ∧ W.cell? (ad.add (i * 8 + 5)) = some (.int .i64 t.t) ∧ W.cell? (ad.add (i * 8 + 6)) = some (.int .i64 t.a) ∧ W.cell? (ad.add (i * 8 + 7)) = some (.string t.d) := by
      intro i hi
      obtain ⟨cs', h1, h2⟩ := hel i (by omega)
      rw [cells_item] at h1
      obtain ⟨_, hlen, hcell⟩ := World.cells?_some h1
      obtain ⟨xs, k, hk, hxy, _, hxl, hf⟩ := DataW.trod_struct Tryz.underlying73 h2
      match xs, hxl, cs', hlen with
      | [y0, y1], _, [v0, v1, v2, v3, v4, v5, v6, v7], _ =>
        have g0 := hf 0 _ rfl
        have g1 := hf 1 _ rfl
        simp [cells_istr, cells_node] at g0 g1
        have e0 := hcell 0 (by omega)
        have e1 := hcell 1 (by omega)
        have e2 := hcell 2 (by omega)
        have e3 := hcell 3 (by omega)
        have e4 := hcell 4 (by omega)
        have e5 := hcell 5 (by omega)
        have e6 := hcell 6 (by omega)
        have e7 := hcell 7 (by omega)
        rw [add_add] at e0 e1 e2 e3 e4 e5 e6 e7
        obtain ⟨ys, k2, hk2, hxy2, _, hyl, hf2⟩ := DataW.trod_struct Tryz.underlying71 g1
        match ys, hyl with
        | [z1, z2, z3, z4, z5, z6, z7], _ =>
          have k1 := hf2 0 _ rfl
          have k2 := hf2 1 _ rfl
          have k3 := hf2 2 _ rfl
          have k4 := hf2 3 _ rfl
          have k5 := hf2 4 _ rfl
          have k6 := hf2 5 _ rfl
          have k7 := hf2 6 _ rfl
          simp [cells_istr, cells_iint, cells_iu32, cells_ii64] at k1 k2 k3 k4 k5 k6 k7
          obtain ⟨x0, q0, _, w0⟩ := DataW.trod_string Tryz.underlying9 g0
          obtain ⟨x1, q1, _, w1⟩ := DataW.trod_int Tryz.underlying3 k1
          obtain ⟨x2, q2, _, w2⟩ := DataW.trod_int Tryz.underlying29 k2
          obtain ⟨x3, q3, _, w3⟩ := DataW.trod_int Tryz.underlying29 k3
          obtain ⟨x4, q4, _, w4⟩ := DataW.trod_int Tryz.underlying29 k4
          obtain ⟨x5, q5, _, w5⟩ := DataW.trod_int Tryz.underlying2 k5
          obtain ⟨x6, q6, _, w6⟩ := DataW.trod_int Tryz.underlying2 k6
          obtain ⟨x7, q7, _, w7⟩ := DataW.trod_string Tryz.underlying9 k7
          simp at q0 q1 q2 q3 q4 q5 q6 q7
          subst q0 q1 q2 q3 q4 q5 q6 q7
          exact ⟨⟨x0, x1, x2, x3, x4, x5, x6, x7⟩, ⟨w0, w1, w2, w3, w4, w5, w6, w7⟩, by simpa using e0, by simpa using e1, by simpa using e2, by simpa using e3, by simpa using e4, by simpa using e5, by simpa using e6, by simpa using e7⟩
    obtain ⟨f, hf⟩ := choose_lt each
    refine ⟨(List.range len).map f, by simp, fun hpos => ?_, fun t ht => ?_, fun h => (by cases h), hl⟩
    · rw [List.length_map, List.length_range] at hpos
      obtain ⟨b, off, spot⟩ := ad
      have hz := (hf 0 hpos).2.1
      have hspot : spot = none := by simpa [Addr.add] using World.cell?_spot hz
      subst hspot
      refine ⟨b, off, rfl, block_lt_of_cell hz, fun i x hx => ?_⟩
      have hi : i < len := by have := (List.getElem?_eq_some_iff.1 hx).1; simpa using this
      obtain ⟨h0, c0, c1, c2, c3, c4, c5, c6, c7⟩ := hf i hi
      rw [Addr.add_lit] at c0 c1 c2 c3 c4 c5 c6 c7
      rw [List.getElem?_map, List.getElem?_range hi] at hx
      injection hx with hx
      subst hx
      rw [← Nat.add_assoc] at c1 c2 c3 c4 c5 c6 c7
      exact ⟨c0, c1, c2, c3, c4, c5, c6, c7⟩
    · obtain ⟨i, hi, rfl⟩ := List.mem_map.1 ht
      exact (hf i (by simpa using hi)).1
theorem itms_len {H : Type} {enc : TypeId × Value → H} {W : World} {fuel : Nat} {a : Option Addr} {len cap : Nat} {x : DataW H × List MemPlace} (h : DataW.trod enc Tryz.prog W 0 (fun _ => true) true fuel 23 [.slice a len cap] = some x) : len ≤ maxLen := by
  rcases open_slice Tryz.underlying23 h with ⟨hcs, _⟩ | ⟨ad, len', cap', m, n, D, Pl, hcs, _, hl, hm, hmm, _, hel⟩
  · simp at hcs
    obtain ⟨rfl, rfl, rfl⟩ := hcs
    exact Nat.zero_le _
  · simp at hcs
    obtain ⟨rfl, rfl, rfl⟩ := hcs
    omega
end Go.Proofs.YtjnoapbddifcpaaGreatDoor

namespace Go.Proofs.YtjnoapbddifcpaaGreatDoor
set_option maxRecDepth 100000
set_option linter.unusedVariables false
open Go.Joins Go.RowKit Go.Deep Go.ChangeShapes Go.WideShapes
theorem cells_ent : Tryz.prog.cellsOf 32 = 17 := by kernel_rfl
theorem cells_eu16 : Tryz.prog.cellsOf 28 = 1 := by kernel_rfl
theorem cells_eu32 : Tryz.prog.cellsOf 29 = 1 := by kernel_rfl
theorem cells_eu64 : Tryz.prog.cellsOf 30 = 1 := by kernel_rfl
theorem cells_estr : Tryz.prog.cellsOf 9 = 1 := by kernel_rfl
theorem natE_u16 {z : Int} (w0 : (Lit.int .u16 z).wf = true) : ∃ m : Nat, z = (m : Nat) ∧ m < 65536 := by
  have b0 : IntKind.u16.min ≤ z ∧ z ≤ IntKind.u16.max := by simpa [Lit.wf] using w0
  rw [show IntKind.u16.min = 0 by decide, show IntKind.u16.max = 65535 by decide] at b0
  exact ⟨z.toNat, (Int.toNat_of_nonneg b0.1).symm, by omega⟩
theorem natE_u32 {z : Int} (w0 : (Lit.int .u32 z).wf = true) : ∃ m : Nat, z = (m : Nat) ∧ m < 4294967296 := by
  have b0 : IntKind.u32.min ≤ z ∧ z ≤ IntKind.u32.max := by simpa [Lit.wf] using w0
  rw [show IntKind.u32.min = 0 by decide, show IntKind.u32.max = 4294967295 by decide] at b0
  exact ⟨z.toNat, (Int.toNat_of_nonneg b0.1).symm, by omega⟩
theorem natE_u64 {z : Int} (w0 : (Lit.int .u64 z).wf = true) : ∃ m : Nat, z = (m : Nat) ∧ m < 18446744073709551616 := by
  have b0 : IntKind.u64.min ≤ z ∧ z ≤ IntKind.u64.max := by simpa [Lit.wf] using w0
  rw [show IntKind.u64.min = 0 by decide, show IntKind.u64.max = 18446744073709551615 by decide] at b0
  exact ⟨z.toNat, (Int.toNat_of_nonneg b0.1).symm, by omega⟩
/-- A slice of entries is one. -/
theorem ents_row {H : Type} {enc : TypeId × Value → H} {W : World} {fuel : Nat} {a : Option Addr} {len cap : Nat} {x : DataW H × List MemPlace} (h : DataW.trod enc Tryz.prog W 0 (fun _ => true) true fuel 24 [.slice a len cap] = some x) : ∃ l : List Ent, len = l.length ∧ Ents W a l ∧ ((∀ f ∈ l, EntW f) ∧ l.length ≤ maxLen) ∧ (a = none → len = 0 ∧ cap = 0) ∧ len ≤ cap := by
  rcases open_slice Tryz.underlying24 h with ⟨hcs, _⟩ | ⟨ad, len', cap', m, n, D, Pl, hcs, _, hl, hm, hmm, _, hel⟩
  · simp at hcs
    obtain ⟨rfl, rfl, rfl⟩ := hcs
    exact ⟨[], rfl, Ents.nil _ _, ⟨fun f hf => (by cases hf), Nat.zero_le _⟩, fun _ => ⟨rfl, rfl⟩, Nat.le_refl _⟩
  · simp at hcs
    obtain ⟨rfl, rfl, rfl⟩ := hcs
    have hm2 : len ≤ m := by rw [hmm]; simp; exact hl
    have hmx : len ≤ maxLen := by omega
    have each : ∀ i, i < len → ∃ t : Ent, EntW t ∧ (∀ j v, t.cellsL[j]? = some v → W.cell? (ad.add (i * 17 + j)) = some v) := by
      intro i hi
      obtain ⟨cs', h1, h2⟩ := hel i (by omega)
      rw [cells_ent] at h1
      obtain ⟨_, hlen, hcell⟩ := World.cells?_some h1
      obtain ⟨xs, k, hk, hxy, _, hxl, hf⟩ := DataW.trod_struct Tryz.underlying32 h2
      match xs, hxl, cs', hlen with
      | [y0, y1, y2, y3, y4, y5, y6, y7, y8, y9, y10, y11, y12, y13, y14, y15, y16], _, [v0, v1, v2, v3, v4, v5, v6, v7, v8, v9, v10, v11, v12, v13, v14, v15, v16], _ =>
        have g0 := hf 0 _ rfl
        have g1 := hf 1 _ rfl
        have g2 := hf 2 _ rfl
        have g3 := hf 3 _ rfl
        have g4 := hf 4 _ rfl
        have g5 := hf 5 _ rfl
        have g6 := hf 6 _ rfl
        have g7 := hf 7 _ rfl
        have g8 := hf 8 _ rfl
        have g9 := hf 9 _ rfl
        have g10 := hf 10 _ rfl
        have g11 := hf 11 _ rfl
        have g12 := hf 12 _ rfl
        have g13 := hf 13 _ rfl
        have g14 := hf 14 _ rfl
        have g15 := hf 15 _ rfl
        have g16 := hf 16 _ rfl
        simp [cells_estr, cells_eu16, cells_eu32, cells_eu64] at g0 g1 g2 g3 g4 g5 g6 g7 g8 g9 g10 g11 g12 g13 g14 g15 g16
        have e0 := hcell 0 (by omega)
        have e1 := hcell 1 (by omega)
        have e2 := hcell 2 (by omega)
        have e3 := hcell 3 (by omega)
        have e4 := hcell 4 (by omega)
        have e5 := hcell 5 (by omega)
        have e6 := hcell 6 (by omega)
        have e7 := hcell 7 (by omega)
        have e8 := hcell 8 (by omega)
        have e9 := hcell 9 (by omega)
        have e10 := hcell 10 (by omega)
        have e11 := hcell 11 (by omega)
        have e12 := hcell 12 (by omega)
        have e13 := hcell 13 (by omega)
        have e14 := hcell 14 (by omega)
        have e15 := hcell 15 (by omega)
        have e16 := hcell 16 (by omega)
        rw [add_add] at e0 e1 e2 e3 e4 e5 e6 e7 e8 e9 e10 e11 e12 e13 e14 e15 e16
        obtain ⟨x0, q0, _, w0⟩ := DataW.trod_string Tryz.underlying9 g0
        obtain ⟨x1, q1, _, w1⟩ := DataW.trod_int Tryz.underlying28 g1
        obtain ⟨x2, q2, _, w2⟩ := DataW.trod_int Tryz.underlying28 g2
        obtain ⟨x3, q3, _, w3⟩ := DataW.trod_int Tryz.underlying28 g3
        obtain ⟨x4, q4, _, w4⟩ := DataW.trod_int Tryz.underlying28 g4
        obtain ⟨x5, q5, _, w5⟩ := DataW.trod_int Tryz.underlying29 g5
        obtain ⟨x6, q6, _, w6⟩ := DataW.trod_int Tryz.underlying29 g6
        obtain ⟨x7, q7, _, w7⟩ := DataW.trod_int Tryz.underlying30 g7
        obtain ⟨x8, q8, _, w8⟩ := DataW.trod_int Tryz.underlying30 g8
        obtain ⟨x9, q9, _, w9⟩ := DataW.trod_int Tryz.underlying28 g9
        obtain ⟨x10, q10, _, w10⟩ := DataW.trod_int Tryz.underlying29 g10
        obtain ⟨x11, q11, _, w11⟩ := DataW.trod_int Tryz.underlying30 g11
        obtain ⟨x12, q12, _, w12⟩ := DataW.trod_string Tryz.underlying9 g12
        obtain ⟨x13, q13, _, w13⟩ := DataW.trod_string Tryz.underlying9 g13
        obtain ⟨x14, q14, _, w14⟩ := DataW.trod_string Tryz.underlying9 g14
        obtain ⟨x15, q15, _, w15⟩ := DataW.trod_int Tryz.underlying30 g15
        obtain ⟨x16, q16, _, w16⟩ := DataW.trod_int Tryz.underlying30 g16
        simp at q0 q1 q2 q3 q4 q5 q6 q7 q8 q9 q10 q11 q12 q13 q14 q15 q16
        subst q0 q1 q2 q3 q4 q5 q6 q7 q8 q9 q10 q11 q12 q13 q14 q15 q16
        obtain ⟨m1, rfl, b1⟩ := natE_u16 w1
        obtain ⟨m2, rfl, b2⟩ := natE_u16 w2
        obtain ⟨m3, rfl, b3⟩ := natE_u16 w3
        obtain ⟨m4, rfl, b4⟩ := natE_u16 w4
        obtain ⟨m5, rfl, b5⟩ := natE_u32 w5
        obtain ⟨m6, rfl, b6⟩ := natE_u32 w6
        obtain ⟨m7, rfl, b7⟩ := natE_u64 w7
        obtain ⟨m8, rfl, b8⟩ := natE_u64 w8
        obtain ⟨m9, rfl, b9⟩ := natE_u16 w9
        obtain ⟨m10, rfl, b10⟩ := natE_u32 w10
        obtain ⟨m11, rfl, b11⟩ := natE_u64 w11
        obtain ⟨m15, rfl, b15⟩ := natE_u64 w15
        obtain ⟨m16, rfl, b16⟩ := natE_u64 w16
        refine ⟨⟨x0, m1, m2, m3, m4, m5, m6, m7, m8, m9, m10, m11, x12, x13, x14, m15, m16⟩, ⟨w0, b1, b2, b3, b4, b5, b6, b7, b8, b9, b10, b11, w12, w13, w14, b15, b16⟩, fun j v hv => ?_⟩
        have hj : j < 17 := (List.getElem?_eq_some_iff.1 hv).1
        have h17 : j = 0 ∨ j = 1 ∨ j = 2 ∨ j = 3 ∨ j = 4 ∨ j = 5 ∨ j = 6 ∨ j = 7 ∨ j = 8 ∨ j = 9 ∨ j = 10 ∨ j = 11 ∨ j = 12 ∨ j = 13 ∨ j = 14 ∨ j = 15 ∨ j = 16 := by omega
        rcases h17 with rfl | rfl | rfl | rfl | rfl | rfl | rfl | rfl | rfl | rfl | rfl | rfl | rfl | rfl | rfl | rfl | rfl
        · injection hv with hv; subst hv; simpa using e0
        · injection hv with hv; subst hv; simpa using e1
        · injection hv with hv; subst hv; simpa using e2
        · injection hv with hv; subst hv; simpa using e3
        · injection hv with hv; subst hv; simpa using e4
        · injection hv with hv; subst hv; simpa using e5
        · injection hv with hv; subst hv; simpa using e6
        · injection hv with hv; subst hv; simpa using e7
        · injection hv with hv; subst hv; simpa using e8
        · injection hv with hv; subst hv; simpa using e9
        · injection hv with hv; subst hv; simpa using e10
        · injection hv with hv; subst hv; simpa using e11
        · injection hv with hv; subst hv; simpa using e12
        · injection hv with hv; subst hv; simpa using e13
        · injection hv with hv; subst hv; simpa using e14
        · injection hv with hv; subst hv; simpa using e15
        · injection hv with hv; subst hv; simpa using e16
    obtain ⟨f, hf⟩ := choose_lt each
    refine ⟨(List.range len).map f, by simp, fun hpos => ?_, ⟨fun t ht => ?_, by simpa using hmx⟩, fun h => (by cases h), hl⟩
    · rw [List.length_map, List.length_range] at hpos
      obtain ⟨b, off, spot⟩ := ad
      have hz := (hf 0 hpos).2 0 _ rfl
      have hspot : spot = none := by simpa [Addr.add] using World.cell?_spot hz
      subst hspot
      refine ⟨b, off, rfl, block_lt_of_cell hz, fun i x hx j v hv => ?_⟩
      have hi : i < len := by have := (List.getElem?_eq_some_iff.1 hx).1; simpa using this
      rw [List.getElem?_map, List.getElem?_range hi] at hx
      injection hx with hx
      subst hx
      have hc := (hf i hi).2 j v hv
      rw [Addr.add_lit, ← Nat.add_assoc] at hc
      exact hc
    · obtain ⟨i, hi, rfl⟩ := List.mem_map.1 ht
      exact (hf i (by simpa using hi)).1
end Go.Proofs.YtjnoapbddifcpaaGreatDoor

namespace Go.Proofs.YtjnoapbddifcpaaGreatDoor
set_option maxRecDepth 100000
set_option linter.unusedVariables false
open Go.RowKit Go.Joins Go.Deep Go.ChangeShapes Go.WideShapes Go.ChangeAt
theorem itms_row' {H : Type} {enc : TypeId × Value → H} {W : World} {fuel : Nat} {a : Option Addr} {len cap : Nat} {x : DataW H × List MemPlace} (h : DataW.trod enc Tryz.prog W 0 (fun _ => true) true fuel 23 [.slice a len cap] = some x) : ∃ l : List Itm, len = l.length ∧ Itms W a l ∧ ((∀ f ∈ l, ItmOk f) ∧ l.length ≤ maxLen) ∧ (a = none → len = 0 ∧ cap = 0) ∧ len ≤ cap := by
  obtain ⟨l, h1, h2, h3, h4, h5⟩ := itms_row h
  refine ⟨l, h1, h2, ⟨h3, ?_⟩, h4, h5⟩
  rw [← h1]
  exact itms_len h
theorem filterTakes_walk (a0 : Option Addr) (cap0 : Nat) (l0 : List ByteArray) (a1 : Option Addr) (cap1 : Nat) (l1 : List ByteArray) (a2 : ByteArray) (a3 : Bool) (a4 : Option Addr) (cap4 : Nat) (l4 : List Itm) (a5 : Option Addr) (cap5 : Nat) (l5 : List Ent) (w2 : a2.size ≤ maxLen) (w : World)
    (hp0 : TxS w a0 l0) (ho0 : a0 = none → l0 = []) (hn0 : l0.length ≤ maxLen) (hc0 : l0.length ≤ cap0)
    (hp1 : TxS w a1 l1) (ho1 : a1 = none → l1 = []) (hn1 : l1.length ≤ maxLen) (hc1 : l1.length ≤ cap1)
    (hp4 : Itms w a4 l4) (ho4 : (∀ f ∈ l4, ItmOk f) ∧ l4.length ≤ maxLen) (hn4 : a4 = none → l4.length = 0 ∧ cap4 = 0) (hc4 : l4.length ≤ cap4)
    (hp5 : Ents w a5 l5) (ho5 : (∀ f ∈ l5, EntW f) ∧ l5.length ≤ maxLen) (hn5 : a5 = none → l5.length = 0 ∧ cap5 = 0) (hc5 : l5.length ≤ cap5) (hE : Env w) (hU : Upper w) :
    Calls Tryz.prog 3 #[.slice a0 l0.length cap0, .slice a1 l1.length cap1, .string a2, .bool a3, .slice a4 l4.length cap4, .slice a5 l5.length cap5] w fun e w' => e = .returned (.bool true) ∧ Below w.heap.size w w' :=
  filterTakes_core a0 a1 a4 a5 cap0 cap1 cap4 cap5 l0 l1 a2 a3 l4 l5 ho5.1 ho5.2 ho4.2 hn0 hn1 w2 w hp5 hp4 hp0 hp1 hE hU
end Go.Proofs.YtjnoapbddifcpaaGreatDoor
