/-
  Contract: tokens as the document's.
  A slice of tokens as it comes in; its cells.
-/
import Derived.Test.YtopjmagbcnglhaaPkBH
import Derived.Deep.Slices
import Derived.Deep.Strs
import Derived.ArgAppend

namespace Go.Proofs.Ytopjmagbcnglhaa
set_option maxRecDepth 100000
open Go.Joins Go.RowKit Go.Deep

theorem info_rtok3 : (Try.prog.info? 46).map (fun i => (i.zero, i.size, i.bytes)) = some (some (.agg #[.int .u8 0, .int .i64 0, .int .i64 0]), 3, 24) := by kernel_rfl
end Go.Proofs.Ytopjmagbcnglhaa

namespace Go.Proofs.Ytopjmagbcnglhaa
set_option maxRecDepth 100000
open Go.Joins Go.RowKit Go.Deep Go.ChangeShapes Go.WideShapes

instance : Inhabited Tok := ⟨⟨0, 0, 0⟩⟩
theorem cells_tok : Try.prog.cellsOf 48 = 3 := by kernel_rfl
theorem cells_u8' : Try.prog.cellsOf 5 = 1 := by kernel_rfl
theorem cells_int' : Try.prog.cellsOf 3 = 1 := by kernel_rfl
/-- A slice of tokens is one. -/
theorem toks_row {H : Type} {enc : TypeId × Value → H} {W : World} {fuel : Nat} {a : Option Addr} {len cap : Nat} {x : DataW H × List MemPlace} (h : DataW.trod enc Try.prog W 0 (fun _ => true) true fuel 22 [.slice a len cap] = some x) : ∃ f : Nat → Tok, Toks W a len f ∧ (a = none → len = 0 ∧ cap = 0) ∧ len ≤ cap := by
  rcases open_slice Try.underlying22 h with ⟨hcs, _⟩ | ⟨ad, len', cap', m, n, D, Pl, hcs, _, hl, hm, hmm, _, hel⟩
  · simp at hcs
    obtain ⟨rfl, rfl, rfl⟩ := hcs
    exact ⟨fun _ => ⟨0, 0, 0⟩, fun h => (by omega), fun _ => ⟨rfl, rfl⟩, Nat.le_refl _⟩
  · simp at hcs
    obtain ⟨rfl, rfl, rfl⟩ := hcs
    have hm2 : len ≤ m := by rw [hmm]; simp; exact hl
    have each : ∀ i, i < len → ∃ t : Tok, TokOk t ∧ W.cell? (ad.add (i * 3)) = some (.int .u8 (t.b : Nat)) ∧ W.cell? (ad.add (i * 3 + 1)) = some (.int .i64 t.l) ∧ W.cell? (ad.add (i * 3 + 2)) = some (.int .i64 t.d) := by
      intro i hi
      obtain ⟨cs', h1, h2⟩ := hel i (by omega)
      rw [cells_tok] at h1
      obtain ⟨_, hlen, hcell⟩ := World.cells?_some h1
      obtain ⟨xs, k, hk, hxy, _, hxl, hf⟩ := DataW.trod_struct Try.underlying48 h2
      match xs, hxl, cs', hlen with
      | [y0, y1, y2], _, [v0, v1, v2], _ =>
        have g0 := hf 0 _ rfl
        have g1 := hf 1 _ rfl
        have g2 := hf 2 _ rfl
        simp [cells_u8', cells_int'] at g0 g1 g2
        have e0 := hcell 0 (by omega)
        have e1 := hcell 1 (by omega)
        have e2 := hcell 2 (by omega)
        rw [add_add] at e0 e1 e2
        obtain ⟨z0, q0, _, w0⟩ := DataW.trod_int Try.underlying5 g0
        obtain ⟨z1, q1, _, w1⟩ := DataW.trod_int Try.underlying3 g1
        obtain ⟨z2, q2, _, w2⟩ := DataW.trod_int Try.underlying3 g2
        simp at q0 q1 q2
        subst q0 q1 q2
        have b0 : IntKind.u8.min ≤ z0 ∧ z0 ≤ IntKind.u8.max := by simpa [Lit.wf] using w0
        have b1 : IntKind.i64.min ≤ z1 ∧ z1 ≤ IntKind.i64.max := by simpa [Lit.wf] using w1
        have b2 : IntKind.i64.min ≤ z2 ∧ z2 ≤ IntKind.i64.max := by simpa [Lit.wf] using w2
        rw [show IntKind.u8.min = 0 by decide, show IntKind.u8.max = 255 by decide] at b0
        rw [show IntKind.i64.min = -9223372036854775808 by decide, show IntKind.i64.max = 9223372036854775807 by decide] at b1 b2
        refine ⟨⟨z0.toNat, z1, z2⟩, ⟨by show z0.toNat < 256; omega, b1.1, b1.2, b2.1, b2.2⟩, ?_, ?_, ?_⟩
        · show _ = some (Value.int .u8 ((z0.toNat : Nat) : Int))
          rw [Int.toNat_of_nonneg b0.1]; simpa using e0
        · simpa using e1
        · simpa using e2
    obtain ⟨f, hf⟩ := choose_lt each
    refine ⟨f, fun hpos => ?_, fun h => (by cases h), hl⟩
    obtain ⟨b, off, spot⟩ := ad
    have hz := (hf 0 hpos).2.1
    have hspot : spot = none := by simpa [Addr.add] using World.cell?_spot hz
    subst hspot
    refine ⟨b, off, rfl, block_lt_of_cell hz, fun i hi => ?_⟩
    obtain ⟨h0, c0, c1, c2⟩ := hf i hi
    rw [Addr.add_lit] at c0 c1 c2
    exact ⟨h0, c0, by rw [← Nat.add_assoc] at c1; exact c1, by rw [← Nat.add_assoc] at c2; exact c2⟩
/-- What a slice of tokens' cells hold. -/
theorem toks_cells {w : World} {b off n : Nat} {f : Nat → Tok} (h : Toks w (some ⟨b, off, none⟩) n f) : ∀ j u, (tokCells f n)[j]? = some u → w.cell? ((⟨b, off, none⟩ : Addr).add j) = some u := by
  intro j u hj
  have hjl := (List.getElem?_eq_some_iff.1 hj).1
  rw [tokCells_len] at hjl
  obtain ⟨b', off', he, _, hc⟩ := h (by omega)
  injection he with he
  injection he with hb ho _
  subst hb ho
  obtain ⟨_, c0, c1, c2⟩ := hc (j / 3) (by omega)
  have hjj : j = j / 3 * 3 + j % 3 := by omega
  rw [hjj, tokCells_get f n (j / 3) (j % 3) (by omega) (by omega)] at hj
  rw [Addr.add_lit]
  rcases (by omega : j % 3 = 0 ∨ j % 3 = 1 ∨ j % 3 = 2) with e | e | e
  · rw [e] at hj
    rw [show off + j = off + j / 3 * 3 by omega, c0]
    simpa [cellT] using hj
  · rw [e] at hj
    rw [show off + j = off + j / 3 * 3 + 1 by omega, c1]
    simpa [cellT] using hj
  · rw [e] at hj
    rw [show off + j = off + j / 3 * 3 + 2 by omega, c2]
    simpa [cellT] using hj
theorem tokCells_congr (f g : Nat → Tok) (n : Nat) (h : ∀ i, i < n → f i = g i) : tokCells f n = tokCells g n := by
  induction n with
  | zero => rfl
  | succ n ih => rw [tokCells, tokCells, ih fun i hi => h i (by omega), h n (by omega)]
end Go.Proofs.Ytopjmagbcnglhaa
