/-
  weigh: what came in, as slices.
-/
import Derived.Test.YtljekdnjdcfliaaWeA
namespace Go.Proofs.Ytljekdnjdcfliaa
open Go.RowKit

/-- A slice of counts of 16 bits. -/
def Cts16 (w : World) (A : Option Addr) (n : Nat) (f : Nat → Nat) : Prop := 0 < n → ∃ b off, A = some ⟨b, off, none⟩ ∧ b < w.heap.size ∧ ∀ i, i < n → w.cell? ⟨b, off + i, none⟩ = some (.int .u16 (f i : Nat)) ∧ f i < 65536
theorem Cts16.below {w w' : World} {B n : Nat} {A : Option Addr} {f : Nat → Nat} (h : Cts16 w A n f) (hB : w.heap.size ≤ B) (hb : Below B w w') : Cts16 w' A n f := fun hn => by
  obtain ⟨b, off, e, hlt, hc⟩ := h hn
  exact ⟨b, off, e, Nat.lt_of_lt_of_le hlt hb.size, fun i hi => ⟨(hb.cell (p := ⟨b, off + i, none⟩) (Nat.lt_of_lt_of_le hlt hB)).trans (hc i hi).1, (hc i hi).2⟩⟩
theorem cts_row {w : World} {a : Option Addr} {len cap : Nat} {zs : List Int} (h : (a = none ∧ len = 0 ∧ cap = 0 ∧ zs = []) ∨ ∃ x, a = some x ∧ len ≤ cap ∧ cap ≤ maxLen ∧ zs.length = cap ∧ (∀ i, i < zs.length → w.cell? (x.add i) = some (.int .u32 (zs.getD i 0))) ∧ ∀ n ∈ zs, (Lit.int .u32 n).wf = true) :
    Cts w a len (fun i => (zs.getD i 0).toNat) := by
  intro hn
  rcases h with ⟨_, h0, _⟩ | ⟨x, rfl, h1, h2, h3, h4, h5⟩
  · omega
  · have hc := h4 0 (by omega)
    obtain ⟨b, off, spot⟩ := x
    have hs : spot = none := by
      cases spot with
      | none => rfl
      | some _ =>
        exfalso
        rw [show (⟨b, off, some _⟩ : Addr).add 0 = ⟨b, off, some _⟩ from rfl, World.cell?] at hc
        split at hc <;> simp at hc
    subst hs
    refine ⟨b, off, rfl, ?_, fun i hi => ?_⟩
    · rw [Addr.add_lit] at hc
      exact World.block_lt_of_cell? w ⟨b, off + 0, none⟩ hc
    · have hc := h4 i (by omega)
      rw [Addr.add_lit] at hc
      have hm : zs.getD i 0 ∈ zs := by
        rw [List.getD_eq_getElem?_getD, List.getElem?_eq_getElem (by omega)]
        exact List.getElem_mem _
      obtain ⟨k, hk, hk2⟩ := nat_u32 (h5 _ hm)
      refine ⟨by rw [hc]; simp only [hk]; rfl, ?_⟩
      show (zs.getD i 0).toNat < 4294967296
      omega
theorem len_row {w : World} {a : Option Addr} {len cap : Nat} {zs : List Int} (h : (a = none ∧ len = 0 ∧ cap = 0 ∧ zs = []) ∨ ∃ x, a = some x ∧ len ≤ cap ∧ cap ≤ maxLen ∧ zs.length = cap ∧ (∀ i, i < zs.length → w.cell? (x.add i) = some (.int .u8 (zs.getD i 0))) ∧ ∀ n ∈ zs, (Lit.int .u8 n).wf = true) :
    Lens w a len (fun i => (zs.getD i 0).toNat) := by
  intro hn
  rcases h with ⟨_, h0, _⟩ | ⟨x, rfl, h1, h2, h3, h4, h5⟩
  · omega
  · have hc := h4 0 (by omega)
    obtain ⟨b, off, spot⟩ := x
    have hs : spot = none := by
      cases spot with
      | none => rfl
      | some _ =>
        exfalso
        rw [show (⟨b, off, some _⟩ : Addr).add 0 = ⟨b, off, some _⟩ from rfl, World.cell?] at hc
        split at hc <;> simp at hc
    subst hs
    refine ⟨b, off, rfl, ?_, fun i hi => ?_⟩
    · rw [Addr.add_lit] at hc
      exact World.block_lt_of_cell? w ⟨b, off + 0, none⟩ hc
    · have hc := h4 i (by omega)
      rw [Addr.add_lit] at hc
      have hm : zs.getD i 0 ∈ zs := by
        rw [List.getD_eq_getElem?_getD, List.getElem?_eq_getElem (by omega)]
        exact List.getElem_mem _
      obtain ⟨k, hk, hk2⟩ := nat_u8 (h5 _ hm)
      refine ⟨by rw [hc]; simp only [hk]; rfl, ?_⟩
      show (zs.getD i 0).toNat < 256
      omega
theorem cts16_row {w : World} {a : Option Addr} {len cap : Nat} {zs : List Int} (h : (a = none ∧ len = 0 ∧ cap = 0 ∧ zs = []) ∨ ∃ x, a = some x ∧ len ≤ cap ∧ cap ≤ maxLen ∧ zs.length = cap ∧ (∀ i, i < zs.length → w.cell? (x.add i) = some (.int .u16 (zs.getD i 0))) ∧ ∀ n ∈ zs, (Lit.int .u16 n).wf = true) :
    Cts16 w a len (fun i => (zs.getD i 0).toNat) := by
  intro hn
  rcases h with ⟨_, h0, _⟩ | ⟨x, rfl, h1, h2, h3, h4, h5⟩
  · omega
  · have hc := h4 0 (by omega)
    obtain ⟨b, off, spot⟩ := x
    have hs : spot = none := by
      cases spot with
      | none => rfl
      | some _ =>
        exfalso
        rw [show (⟨b, off, some _⟩ : Addr).add 0 = ⟨b, off, some _⟩ from rfl, World.cell?] at hc
        split at hc <;> simp at hc
    subst hs
    refine ⟨b, off, rfl, ?_, fun i hi => ?_⟩
    · rw [Addr.add_lit] at hc
      exact World.block_lt_of_cell? w ⟨b, off + 0, none⟩ hc
    · have hc := h4 i (by omega)
      rw [Addr.add_lit] at hc
      have hm : zs.getD i 0 ∈ zs := by
        rw [List.getD_eq_getElem?_getD, List.getElem?_eq_getElem (by omega)]
        exact List.getElem_mem _
      obtain ⟨k, hk, hk2⟩ := nat_u16 (h5 _ hm)
      refine ⟨by rw [hc]; simp only [hk]; rfl, ?_⟩
      show (zs.getD i 0).toNat < 65536
      omega
end Go.Proofs.Ytljekdnjdcfliaa
