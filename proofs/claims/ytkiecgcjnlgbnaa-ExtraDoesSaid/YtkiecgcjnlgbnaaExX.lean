/-
  Slices of fields and of IDs as they come in.
-/
import Derived.Test.YtkiecgcjnlgbnaaExA
import Derived.Deep.Slices
import Derived.Deep.Strs
import Derived.ArgAppend
import Derived.Deep.SlicePairs
namespace Go.Proofs.Ytkiecgcjnlgbnaa
set_option maxRecDepth 100000
open Go.Joins Go.RowKit Go.Deep Go.ChangeShapes Go.WideShapes

theorem cells_fd : Try.prog.cellsOf 38 = 2 := by kernel_rfl
theorem cells_u16 : Try.prog.cellsOf 36 = 1 := by kernel_rfl
theorem cells_str : Try.prog.cellsOf 9 = 1 := by kernel_rfl
/-- A slice of fields is one. -/
theorem fds_row {H : Type} {enc : TypeId × Value → H} {W : World} {fuel : Nat} {a : Option Addr} {len cap : Nat} {x : DataW H × List MemPlace} (h : DataW.trod enc Try.prog W 0 (fun _ => true) true fuel 22 [.slice a len cap] = some x) : ∃ l : List Fd, len = l.length ∧ Fds W a l ∧ (∀ f ∈ l, FdOk f) ∧ (a = none → len = 0 ∧ cap = 0) ∧ len ≤ cap := by
  rcases open_slice Try.underlying22 h with ⟨hcs, _⟩ | ⟨ad, len', cap', m, n, D, Pl, hcs, _, hl, hm, hmm, _, hel⟩
  · simp at hcs
    obtain ⟨rfl, rfl, rfl⟩ := hcs
    exact ⟨[], rfl, Fds.nil _ _, fun f hf => (by cases hf), fun _ => ⟨rfl, rfl⟩, Nat.le_refl _⟩
  · simp at hcs
    obtain ⟨rfl, rfl, rfl⟩ := hcs
    have hm2 : len ≤ m := by rw [hmm]; simp; exact hl
    have each : ∀ i, i < len → ∃ t : Fd, FdOk t ∧ W.cell? (ad.add (i * 2)) = some (.int .u16 (t.id : Nat)) ∧ W.cell? (ad.add (i * 2 + 1)) = some (.string t.d) := by
      intro i hi
      obtain ⟨cs', h1, h2⟩ := hel i (by omega)
      rw [cells_fd] at h1
      obtain ⟨_, hlen, hcell⟩ := World.cells?_some h1
      obtain ⟨xs, k, hk, hxy, _, hxl, hf⟩ := DataW.trod_struct Try.underlying38 h2
      match xs, hxl, cs', hlen with
      | [y0, y1], _, [v0, v1], _ =>
        have g0 := hf 0 _ rfl
        have g1 := hf 1 _ rfl
        simp [cells_u16, cells_str] at g0 g1
        have e0 := hcell 0 (by omega)
        have e1 := hcell 1 (by omega)
        rw [add_add] at e0 e1
        obtain ⟨z0, q0, _, w0⟩ := DataW.trod_int Try.underlying36 g0
        obtain ⟨z1, q1, _, w1⟩ := DataW.trod_string Try.underlying9 g1
        simp at q0 q1
        subst q0 q1
        have b0 : IntKind.u16.min ≤ z0 ∧ z0 ≤ IntKind.u16.max := by simpa [Lit.wf] using w0
        rw [show IntKind.u16.min = 0 by decide, show IntKind.u16.max = 65535 by decide] at b0
        refine ⟨⟨z0.toNat, z1⟩, ⟨by show z0.toNat < 65536; omega, w1⟩, ?_, ?_⟩
        · show _ = some (Value.int .u16 ((z0.toNat : Nat) : Int))
          rw [Int.toNat_of_nonneg b0.1]; simpa using e0
        · simpa using e1
    obtain ⟨f, hf⟩ := choose_lt each
    refine ⟨(List.range len).map f, by simp, fun hpos => ?_, fun t ht => ?_, fun h => (by cases h), hl⟩
    · rw [List.length_map, List.length_range] at hpos
      obtain ⟨b, off, spot⟩ := ad
      have hz := (hf 0 hpos).2.1
      have hspot : spot = none := by simpa [Addr.add] using World.cell?_spot hz
      subst hspot
      refine ⟨b, off, rfl, block_lt_of_cell hz, fun i hi => ?_⟩
      rw [List.length_map, List.length_range] at hi
      obtain ⟨h0, c0, c1⟩ := hf i hi
      rw [Addr.add_lit] at c0 c1
      simp only [List.getElem_map, List.getElem_range]
      exact ⟨c0, by rw [← Nat.add_assoc] at c1; exact c1⟩
    · obtain ⟨i, hi, rfl⟩ := List.mem_map.1 ht
      exact (hf i (by simpa using hi)).1
/-- A slice of IDs. -/
def Ids (w : World) (A : Option Addr) (l : List Nat) : Prop := 0 < l.length → ∃ b off, A = some ⟨b, off, none⟩ ∧ b < w.heap.size ∧ ∀ i (h : i < l.length), w.cell? ⟨b, off + i, none⟩ = some (.int .u16 (l[i] : Nat))
theorem Ids.below {w w' : World} {B : Nat} {A : Option Addr} {l : List Nat} (h : Ids w A l) (hB : w.heap.size ≤ B) (hb : Below B w w') : Ids w' A l := fun hn => by
  obtain ⟨b, off, e, hlt, hc⟩ := h hn
  have hl := Nat.lt_of_lt_of_le hlt hB
  exact ⟨b, off, e, Nat.lt_of_lt_of_le hlt hb.size, fun i hi => (hb.cell (p := ⟨b, off + i, none⟩) hl).trans (hc i hi)⟩
theorem u16_row {H : Type} {enc : TypeId × Value → H} {W : World} {fuel : Nat} {a : Option Addr} {len cap : Nat} {x : DataW H × List MemPlace} (h : DataW.trod enc Try.prog W 0 (fun _ => true) true fuel 39 [.slice a len cap] = some x) : ∃ l : List Nat, len = l.length ∧ Ids W a l ∧ (∀ f ∈ l, f < 65536) ∧ (a = none → len = 0 ∧ cap = 0) ∧ len ≤ cap := by
  rcases open_slice Try.underlying39 h with ⟨hcs, _⟩ | ⟨ad, len', cap', m, n, D, Pl, hcs, _, hl, hm, hmm, _, hel⟩
  · simp at hcs
    obtain ⟨rfl, rfl, rfl⟩ := hcs
    exact ⟨[], rfl, fun h => absurd h (by decide), fun f hf => (by cases hf), fun _ => ⟨rfl, rfl⟩, Nat.le_refl _⟩
  · simp at hcs
    obtain ⟨rfl, rfl, rfl⟩ := hcs
    have hm2 : len ≤ m := by rw [hmm]; simp; exact hl
    have each : ∀ i, i < len → ∃ t : Nat, t < 65536 ∧ W.cell? (ad.add i) = some (.int .u16 (t : Nat)) := by
      intro i hi
      obtain ⟨cs', h1, h2⟩ := hel i (by omega)
      rw [cells_u16] at h1
      obtain ⟨_, hlen, hcell⟩ := World.cells?_some h1
      match cs', hlen with
      | [v0], _ =>
        have e0 := hcell 0 (by omega)
        rw [add_add, Nat.mul_one, Nat.add_zero] at e0
        obtain ⟨z0, q0, _, w0⟩ := DataW.trod_int Try.underlying36 h2
        simp at q0
        subst q0
        have b0 : IntKind.u16.min ≤ z0 ∧ z0 ≤ IntKind.u16.max := by simpa [Lit.wf] using w0
        rw [show IntKind.u16.min = 0 by decide, show IntKind.u16.max = 65535 by decide] at b0
        refine ⟨z0.toNat, by omega, ?_⟩
        rw [Int.toNat_of_nonneg b0.1]; simpa using e0
    obtain ⟨f, hf⟩ := choose_lt each
    refine ⟨(List.range len).map f, by simp, fun hpos => ?_, fun t ht => ?_, fun h => (by cases h), hl⟩
    · rw [List.length_map, List.length_range] at hpos
      obtain ⟨b, off, spot⟩ := ad
      have hz := (hf 0 hpos).2
      have hspot : spot = none := by simpa [Addr.add] using World.cell?_spot hz
      subst hspot
      refine ⟨b, off, rfl, block_lt_of_cell hz, fun i hi => ?_⟩
      rw [List.length_map, List.length_range] at hi
      obtain ⟨h0, c0⟩ := hf i hi
      rw [Addr.add_lit] at c0
      simp only [List.getElem_map, List.getElem_range]
      exact c0
    · obtain ⟨i, hi, rfl⟩ := List.mem_map.1 ht
      exact (hf i (by simpa using hi)).1
end Go.Proofs.Ytkiecgcjnlgbnaa
