/-
  weigh: the chapter's example.
-/
import Derived.Test.YtljekdnjdcfliaaWeV
import Derived.Test.YtljekdnjdcfliaaWeW
namespace Go.Proofs.Ytljekdnjdcfliaa
open Go.RowKit

def f112 (i : Nat) : Nat := if i = 2 then 2 else 1
theorem sorted_perm {a b : List Nat} (hp : a.Perm b) (ha : a.Pairwise (· ≤ ·)) (hb : b.Pairwise (· ≤ ·)) : a = b := by
  exact hp.eq_of_pairwise (fun x y _ _ h1 h2 => Nat.le_antisymm h1 h2) ha hb
theorem spec112 (L : Nat → Nat) (h : LenSpec f112 3 15 L) : L 0 = 2 ∧ L 1 = 2 ∧ L 2 = 1 := by
  obtain ⟨S, hp, hs, _, _, h2⟩ := h
  have hc : comeL f112 3 = [0, 1, 2] := by decide
  rw [hc] at hp
  have hl : S.length = 3 := hp.length_eq
  have hW : S.map f112 = [1, 1, 2] := sorted_perm (hp.map f112) (srt_map f112 S hs) (by decide)
  rw [hl, hW] at h2
  have e0 : lensOf [1, 1, 2] 15 0 = 2 := by kernel_rfl
  have e1 : lensOf [1, 1, 2] 15 1 = 2 := by kernel_rfl
  have e2 : lensOf [1, 1, 2] 15 2 = 1 := by kernel_rfl
  have h2 := h2 (by omega)
  have v : ∀ i, i < 3 → f112 (at0 S i) = ([1, 1, 2] : List Nat)[i]?.getD 0 := fun i hi => by
    rw [← hW, List.getElem?_map, at0, List.getElem?_eq_getElem (by omega)]; rfl
  have fin : ∀ s, s < 3 → ∃ i, i < 3 ∧ at0 S i = s := fun s hs => by
    have hm : s ∈ S := hp.mem_iff.2 (by simp; omega)
    obtain ⟨i, hi, e⟩ := List.getElem_of_mem hm
    exact ⟨i, by omega, by rw [at0, List.getElem?_eq_getElem hi, e]; rfl⟩
  have two : ∀ s, s < 3 → L s = if s = 2 then 1 else 2 := fun s hs => by
    obtain ⟨i, hi, e⟩ := fin s hs
    have hv := v i hi
    have hL := h2 i hi
    rw [e] at hv hL
    rw [hL]
    match i, hi with
    | 0, _ => rw [e0, if_neg]; intro h; subst h; simp [f112] at hv
    | 1, _ => rw [e1, if_neg]; intro h; subst h; simp [f112] at hv
    | 2, _ => rw [e2, if_pos]; simp [f112] at hv; omega
  exact ⟨by rw [two 0 (by omega)]; rfl, by rw [two 1 (by omega)]; rfl, by rw [two 2 (by omega)]; rfl⟩

set_option maxRecDepth 100000 in
set_option maxHeartbeats 8000000 in
theorem awake_any (w : World) : Calls Try.prog 29 #[] w fun e w' => e = .returned (.bool true) ∧ Below w.heap.size w w' := by
  go_enter Try.func29, Try.ntmps29
  have hb1 := below_alloc (Below.refl w.heap.size w) (.cells #[.int .u32 1, .int .u32 1, .int .u32 2] 29)
  have hh := heap_alloc_new w (.cells #[.int .u32 1, .int .u32 1, .int .u32 2] 29)
  go_wp2_with fail
  generalize w.alloc (.cells #[.int .u32 1, .int .u32 1, .int .u32 2] 29) = w1 at *
  have hlt : w.heap.size < w1.heap.size := lt_of_cells hh
  have hC : Cts w1 (some ⟨w.heap.size, 0, none⟩) 3 f112 := fun _ => ⟨w.heap.size, 0, rfl, hlt, fun i hi => by
    rw [cell_of_row _ _ (0 + i) _ _ _ hh]
    match i, hi with
    | 0, _ => exact ⟨rfl, by decide⟩
    | 1, _ => exact ⟨rfl, by decide⟩
    | 2, _ => exact ⟨rfl, by decide⟩⟩
  have hc : (comeL f112 3).length = 3 := by decide
  refine (lengths_any (some ⟨w.heap.size, 0, none⟩) 3 3 15 f112 w1 hC (by omega) (by omega) (by omega) (by rw [hc]; decide) (fun _ _ _ _ _ h1 h2 => by omega)).mono ?_
  rintro e w2 ⟨gl, L, rfl, hl, hsp, hgl, hb2⟩
  obtain ⟨l0, l1, l2⟩ := spec112 L hsp
  have x0 := hl.cell 0 (by omega)
  have x1 := hl.cell 1 (by omega)
  have x2 := hl.cell 2 (by omega)
  rw [l0] at x0
  rw [l1] at x1
  rw [l2] at x2
  have hb3 : Below w.heap.size w w2 := hb1.trans (hb2.mono hb1.size)
  have HB3 := Lib.hid hb3
  have hb4 := below_alloc hb3 (.cells #[.int .u32 3] 29)
  have hh4 := heap_alloc_new w2 (.cells #[.int .u32 3] 29)
  have hs4 : (w2.alloc (.cells #[.int .u32 3] 29)).heap.size = w2.heap.size + 1 := by simp
  have hk4 := Below.heap_alloc (w2.alloc (.cells #[.int .u32 3] 29)) (.cells #[.int .u8 2] 5) w2.heap.size (by simp)
  have hb5 := below_alloc hb4 (.cells #[.int .u8 2] 5)
  have hh5 := heap_alloc_new (w2.alloc (.cells #[.int .u32 3] 29)) (.cells #[.int .u8 2] 5)
  have hs5 : ((w2.alloc (.cells #[.int .u32 3] 29)).alloc (.cells #[.int .u8 2] 5)).heap.size = w2.heap.size + 2 := by simp
  have HH : Hid (Below w.heap.size w ((w2.alloc (.cells #[.int .u32 3] 29)).alloc (.cells #[.int .u8 2] 5)) ∧ Cts ((w2.alloc (.cells #[.int .u32 3] 29)).alloc (.cells #[.int .u8 2] 5)) (some ⟨w2.heap.size, 0, none⟩) 1 (fun _ => 3) ∧ Lens ((w2.alloc (.cells #[.int .u32 3] 29)).alloc (.cells #[.int .u8 2] 5)) (some ⟨w2.heap.size + 1, 0, none⟩) 1 (fun _ => 2)) := by
    refine ⟨hb5, fun _ => ⟨w2.heap.size, 0, rfl, by omega, fun i hi => ?_⟩, fun _ => ⟨w2.heap.size + 1, 0, rfl, by omega, fun i hi => ?_⟩⟩
    · obtain rfl : i = 0 := by omega
      rw [cell_of_row _ _ (0 + 0) _ _ _ (hk4.trans hh4)]
      exact ⟨rfl, by decide⟩
    · obtain rfl : i = 0 := by omega
      rw [hs4] at hh5
      rw [cell_of_row _ _ (0 + 0) _ _ _ hh5]
      exact ⟨rfl, by decide⟩
  clear hb1 hb2 hb3 hb4 hb5 hh4 hh5 hs4 hs5 hk4 hl hh hlt hC hc
  go_wp2_with fail
  have HCT := Lib.hid (cost_any _ _ 1 1 1 1 _ _ _ HH.out.2.1 HH.out.2.2 (by omega) (by omega))
  refine (HCT.out).mono ?_
  rintro e w3 ⟨rfl, hb6⟩
  have HB6 := Lib.hid (below_then' HH.out.1 hb6)
  clear hb6
  have hcost : costN (fun _ => 3) (fun _ => 2) (min 1 1) = 6 := by decide
  rw [hcost]
  go_wp2_with fail
  go_ret
  exact ⟨rfl, HB6.out⟩
end Go.Proofs.Ytljekdnjdcfliaa
