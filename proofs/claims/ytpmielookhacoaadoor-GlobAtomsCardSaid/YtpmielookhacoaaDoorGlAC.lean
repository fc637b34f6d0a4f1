/-
  Patterns as arguments: what their cells hold.
-/
import Derived.Test.YtpmielookhacoaaDoorGlS
import Derived.Test.YtpmielookhacoaaDoorAgg1
import Derived.Deep.Slices
namespace Go.Proofs.YtpmielookhacoaaDoor
set_option maxRecDepth 100000
set_option linter.unusedSimpArgs false
set_option linter.unusedVariables false
open Go.RowKit Go.Joins Go.Deep Go.WideShapes Go.ChangeShapes
theorem cells_i32' : Tryd.prog.cellsOf 21 = 1 := by kernel_rfl
theorem cells_int' : Tryd.prog.cellsOf 3 = 1 := by kernel_rfl
theorem cells_bool' : Tryd.prog.cellsOf 4 = 1 := by kernel_rfl
theorem cells_rgs' : Tryd.prog.cellsOf 26 = 1 := by kernel_rfl
theorem cells_rg' : Tryd.prog.cellsOf 47 = 2 := by kernel_rfl
theorem cells_atom' : Tryd.prog.cellsOf 28 = 4 := by kernel_rfl
theorem add_add' (ad : Addr) (i j : Nat) : (ad.add i).add j = ad.add (i + j) := by
  unfold Addr.add
  by_cases hi : i = 0 <;> by_cases hj : j = 0 <;> simp [hi, hj, Nat.add_assoc]
theorem i32_in {z : Int} (h : (Lit.int .i32 z).wf = true) : I32 z := by
  have b : IntKind.i32.min ≤ z ∧ z ≤ IntKind.i32.max := by simpa [Lit.wf] using h
  rw [show IntKind.i32.min = -2147483648 by decide, show IntKind.i32.max = 2147483647 by decide] at b
  exact b
instance : Inhabited Atm := ⟨⟨0, 0, false, []⟩⟩
theorem rgs_row {H : Type} {enc : TypeId × Value → H} {W : World} {fuel : Nat} {v : Value} {x : DataW H × List MemPlace} (h : DataW.trod enc Tryd.prog W 0 (fun _ => true) true fuel 26 [v] = some x) :
    ∃ (rs : List (Int × Int)) (A : Option Addr) (c : Nat), v = .slice A rs.length c ∧ Rgs W .i32 A rs ∧ (∀ p ∈ rs, I32 p.1 ∧ I32 p.2) ∧ rs.length ≤ maxLen := by
  rcases open_slice Tryd.underlying26 h with ⟨hcs, _⟩ | ⟨ad, len, cap, m, n, D, Pl, hcs, _, hl, hm, hmm, _, hel⟩
  · simp at hcs
    subst hcs
    exact ⟨[], none, 0, rfl, fun h => absurd h (Nat.lt_irrefl 0), (fun p hp => by cases hp), Nat.zero_le _⟩
  · simp at hcs
    subst hcs
    have hm2 : len ≤ m := by rw [hmm]; simp; exact hl
    have each : ∀ i, i < len → ∃ t : Int × Int, (I32 t.1 ∧ I32 t.2) ∧ W.cell? (ad.add (i * 2)) = some (.int .i32 t.1) ∧ W.cell? (ad.add (i * 2 + 1)) = some (.int .i32 t.2) := by
      intro i hi
      obtain ⟨cs', h1, h2⟩ := hel i (by omega)
      rw [cells_rg'] at h1
      obtain ⟨_, hlen, hcell⟩ := World.cells?_some h1
      obtain ⟨xs, k, hk, hxy, _, hxl, hf⟩ := DataW.trod_struct Tryd.underlying47 h2
      match xs, hxl, cs', hlen with
      | [y0, y1], _, [v0, v1], _ =>
        have g0 := hf 0 _ rfl
        have g1 := hf 1 _ rfl
        simp [cells_i32'] at g0 g1
        have e0 := hcell 0 (by omega)
        have e1 := hcell 1 (by omega)
        rw [add_add'] at e0 e1
        obtain ⟨z0, q0, _, w0⟩ := DataW.trod_int Tryd.underlying21 g0
        obtain ⟨z1, q1, _, w1⟩ := DataW.trod_int Tryd.underlying21 g1
        simp at q0 q1
        subst q0 q1
        exact ⟨(z0, z1), ⟨i32_in w0, i32_in w1⟩, by simpa using e0, by simpa using e1⟩
    obtain ⟨f, hf⟩ := choose_lt each
    have hll : ((List.range len).map f).length = len := by simp
    refine ⟨(List.range len).map f, some ad, cap, by rw [hll], fun hpos => ?_, fun p hp => ?_, by rw [hll]; omega⟩
    · rw [hll] at hpos
      obtain ⟨b, off, spot⟩ := ad
      have hz := (hf 0 hpos).2.1
      have hspot : spot = none := by simpa [Addr.add] using World.cell?_spot hz
      subst hspot
      refine ⟨b, off, rfl, block_lt_of_cell hz, fun i hi => ?_⟩
      rw [hll] at hi
      obtain ⟨_, c0, c1⟩ := hf i hi
      rw [Addr.add_lit] at c0 c1
      have hg : ((List.range len).map f).getD i (0, 0) = f i := by
        rw [List.getD_eq_getElem?_getD, List.getElem?_map, List.getElem?_range hi]
        rfl
      rw [hg]
      exact ⟨c0, by rw [← Nat.add_assoc] at c1; exact c1⟩
    · obtain ⟨i, hi, rfl⟩ := List.mem_map.1 hp
      exact (hf i (List.mem_range.1 hi)).1
/-- What one atom's cells hold. -/
def AtmC (W : World) (ad : Addr) (x : Atm) : Prop := W.cell? ad = some (.int .i64 x.k) ∧ W.cell? (ad.add 1) = some (.int .i32 x.r) ∧ W.cell? (ad.add 2) = some (.bool x.n) ∧ ∃ Ai ci, W.cell? (ad.add 3) = some (.slice Ai x.rs.length ci) ∧ Rgs W .i32 Ai x.rs
theorem ats_row {H : Type} {enc : TypeId × Value → H} {W : World} {fuel : Nat} {v : Value} {x : DataW H × List MemPlace} (h : DataW.trod enc Tryd.prog W 0 (fun _ => true) true fuel 22 [v] = some x) :
    ∃ (ats : List Atm) (A : Option Addr) (c : Nat), v = .slice A ats.length c ∧ Ats W A ats ∧ (∀ x ∈ ats, Rng x ∧ x.rs.length ≤ maxLen) ∧ ats.length ≤ c ∧ ats.length ≤ maxLen := by
  rcases open_slice Tryd.underlying22 h with ⟨hcs, _⟩ | ⟨ad, len, cap, m, n, D, Pl, hcs, _, hl, hm, hmm, _, hel⟩
  · simp at hcs
    subst hcs
    exact ⟨[], none, 0, rfl, fun h => absurd h (Nat.lt_irrefl 0), (fun p hp => by cases hp), Nat.zero_le _, Nat.zero_le _⟩
  · simp at hcs
    subst hcs
    have hm2 : len ≤ m := by rw [hmm]; simp; exact hl
    have each : ∀ i, i < len → ∃ t : Atm, (Rng t ∧ t.rs.length ≤ maxLen) ∧ AtmC W (ad.add (i * 4)) t := by
      intro i hi
      obtain ⟨cs', h1, h2⟩ := hel i (by omega)
      rw [cells_atom'] at h1
      obtain ⟨_, hlen, hcell⟩ := World.cells?_some h1
      obtain ⟨xs, k, hk, hxy, _, hxl, hf⟩ := DataW.trod_struct Tryd.underlying28 h2
      match xs, hxl, cs', hlen with
      | [y0, y1, y2, y3], _, [v0, v1, v2, v3], _ =>
        have g0 := hf 0 _ rfl
        have g1 := hf 1 _ rfl
        have g2 := hf 2 _ rfl
        have g3 := hf 3 _ rfl
        simp [cells_i32', cells_int', cells_bool', cells_rgs'] at g0 g1 g2 g3
        have e0 := hcell 0 (by omega)
        have e1 := hcell 1 (by omega)
        have e2 := hcell 2 (by omega)
        have e3 := hcell 3 (by omega)
        obtain ⟨z0, q0, _, w0⟩ := DataW.trod_int Tryd.underlying3 g0
        obtain ⟨z1, q1, _, w1⟩ := DataW.trod_int Tryd.underlying21 g1
        obtain ⟨z2, q2, _⟩ := DataW.trod_bool Tryd.underlying4 g2
        obtain ⟨rs, Ai, ci, q3, hR, hI, hL⟩ := rgs_row g3
        simp at q0 q1 q2
        subst q0 q1 q2 q3
        exact ⟨⟨z0, z1, z2, rs⟩, ⟨⟨i32_in w1, hI⟩, hL⟩, by simpa [Addr.add] using e0, by simpa using e1, by simpa using e2, Ai, ci, by simpa using e3, hR⟩
    obtain ⟨f, hf⟩ := choose_lt each
    have hll : ((List.range len).map f).length = len := by simp
    refine ⟨(List.range len).map f, some ad, cap, by rw [hll], fun hpos => ?_, fun p hp => ?_, by rw [hll]; omega, by rw [hll]; omega⟩
    · rw [hll] at hpos
      obtain ⟨b, off, spot⟩ := ad
      have hz := (hf 0 hpos).2.1
      have hspot : spot = none := by simpa [Addr.add] using World.cell?_spot hz
      subst hspot
      have hz' : W.cell? ⟨b, off, none⟩ = some (.int .i64 (f 0).k) := by simpa [Addr.add] using hz
      refine ⟨b, off, rfl, block_lt_of_cell hz', fun i x hx => ?_⟩
      rw [List.getElem?_map] at hx
      obtain ⟨j, hj, rfl⟩ := Option.map_eq_some_iff.1 hx
      have hi := (List.getElem?_eq_some_iff.1 hj).1
      rw [List.length_range] at hi
      rw [List.getElem?_range hi] at hj
      injection hj with hj
      subst hj
      obtain ⟨_, c0, c1, c2, Ai, ci, c3, hR⟩ := hf i hi
      rw [Addr.add_lit] at c0
      rw [add_add', Addr.add_lit, ← Nat.add_assoc] at c1 c2 c3
      exact ⟨c0, c1, c2, Ai, ci, c3, hR⟩
    · obtain ⟨i, hi, rfl⟩ := List.mem_map.1 hp
      exact (hf i (List.mem_range.1 hi)).1
/-- A pattern by value. -/
theorem pat_row {H : Type} {enc : TypeId × Value → H} {W : World} {r : Reach} {b0 : Nat} {v : Value} {d : DataW H} {p : List MemPlace} (hv : Value.okWide Tryd.prog W r b0 24 v) (h : DataW.Trod enc Tryd.prog W 0 (fun _ => true) true 24 v d p) :
    ∃ (ats : List Atm) (A : Option Addr) (c : Nat), v = .agg #[.slice A ats.length c] ∧ Ats W A ats ∧ (∀ x ∈ ats, Rng x ∧ x.rs.length ≤ maxLen) ∧ ats.length ≤ c ∧ ats.length ≤ maxLen := by
  obtain ⟨c0, y0, n, rfl, _, _, k0⟩ := open_agg1 Tryd.underlying24 (by kernel_rfl) (by kernel_rfl) hv h
  obtain ⟨ats, A, c, rfl, h1, h2, h3, h4⟩ := ats_row k0
  exact ⟨ats, A, c, rfl, h1, h2, h3, h4⟩
end Go.Proofs.YtpmielookhacoaaDoor
