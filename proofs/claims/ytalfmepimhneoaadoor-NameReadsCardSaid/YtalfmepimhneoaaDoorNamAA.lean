/-
  Contracts: the document's table, Bytes, Decode.
-/
import Derived.Test.YtalfmepimhneoaaDoorNamZ
import Derived.Test.YtalfmepimhneoaaDoorNamP
import Derived.Great.BuildSlice
namespace Go.Proofs.YtalfmepimhneoaaDoor
set_option maxRecDepth 100000
open Go.RowKit Go.Deep Go.Joins Go.Lib

def cpV : Array Value := (cpL.map fun (n : Nat) => Value.int .i64 (n : Nat)).toArray
theorem cpV_at (k : Nat) (hk : k < 128) : cpV[k]? = some (.int .i64 ((cpL.getD k 0 : Nat) : Int)) := by
  unfold cpV
  rw [List.getElem?_toArray, List.getElem?_map, List.getElem?_eq_getElem (by rw [cpL_len]; exact hk), List.getD_eq_getElem?_getD, List.getElem?_eq_getElem (by rw [cpL_len]; exact hk)]
  rfl
set_option maxHeartbeats 4000000 in
theorem table_any (w : World) :
    Calls Tryd.prog 47 #[] w fun e w' => e = .returned (.slice (some ⟨w.heap.size, 0, none⟩) 128 128) ∧ w' = w.alloc (.cells cpV 3) := by
  go_enter Tryd.func47, Tryd.ntmps47
  go_wp2_with (refine wpList_buildFlat rfl 71 3 128 _ rfl .i64 (cpL.map fun (n : Nat) => (n : Int)) Tryd.underlying71 (by kernel_rfl) (by kernel_rfl) (by kernel_rfl) (by decide) (by decide) (by kernel_rfl) ?_)
  go_ret
  refine ⟨rfl, ?_⟩
  rfl
set_option maxHeartbeats 4000000 in
theorem bytes_cp (r : Nat) (hr : r < 55296) (w : World) :
    Calls Tryd.prog 48 #[.int .i64 (r : Nat)] w fun e w' => e = .returned (.slice (some ⟨w.heap.size, 0, none⟩) (encN r).length (encN r).length) ∧ w' = w.alloc (.cells (cells8 (encN r)).toArray 5) := by
  have wr8 : ∀ z : Nat, z < 256 → IntKind.u8.wrap (z : Int) = (z : Int) := fun z hz => by unfold IntKind.wrap; simp [IntKind.bits, IntKind.signed]; omega
  rcases (by omega : r < 128 ∨ (128 ≤ r ∧ r < 2048) ∨ (2048 ≤ r)) with h | ⟨h, h2⟩ | h
  · have e := Lib.hid (enc_one h)
    have h1 := wr8 r (by omega)
    clear wr8
    go_enter Tryd.func48, Tryd.ntmps48
    go_wp2_with fail
    go_ret
    rw [e.out]
    exact ⟨rfl, rfl⟩
  · have e := Lib.hid (enc_two h h2)
    obtain ⟨x, hx, hxi⟩ : ∃ x : Nat, 192 + r / 64 = x ∧ ((192 : Int) + (r : Int) / 64) = (x : Int) := ⟨192 + r / 64, rfl, by omega⟩
    obtain ⟨y, hy, hyi⟩ : ∃ y : Nat, 128 + r % 64 = y ∧ ((128 : Int) + (r : Int) % 64) = (y : Int) := ⟨128 + r % 64, rfl, by omega⟩
    rw [hx, hy] at e
    have h3 := wr8 x (by omega)
    have h4 := wr8 y (by omega)
    clear wr8 hx hy
    go_enter Tryd.func48, Tryd.ntmps48
    go_wp2_with fail
    go_ret
    rw [e.out]
    exact ⟨rfl, rfl⟩
  · have e := Lib.hid (enc_three (r := r) (.inl ⟨h, hr⟩))
    obtain ⟨x, hx, hxi⟩ : ∃ x : Nat, 224 + r / 4096 = x ∧ ((224 : Int) + (r : Int) / 4096) = (x : Int) := ⟨224 + r / 4096, rfl, by omega⟩
    obtain ⟨y, hy, hyi⟩ : ∃ y : Nat, 128 + r / 64 % 64 = y ∧ ((128 : Int) + (r : Int) / 64 % 64) = (y : Int) := ⟨128 + r / 64 % 64, rfl, by omega⟩
    obtain ⟨z, hz, hzi⟩ : ∃ z : Nat, 128 + r % 64 = z ∧ ((128 : Int) + (r : Int) % 64) = (z : Int) := ⟨128 + r % 64, rfl, by omega⟩
    rw [hx, hy, hz] at e
    have h3 := wr8 x (by omega)
    have h4 := wr8 y (by omega)
    have h5 := wr8 z (by omega)
    clear wr8 hx hy hz
    go_enter Tryd.func48, Tryd.ntmps48
    go_wp2_with fail
    go_ret
    rw [e.out]
    exact ⟨rfl, rfl⟩
end Go.Proofs.YtalfmepimhneoaaDoor
