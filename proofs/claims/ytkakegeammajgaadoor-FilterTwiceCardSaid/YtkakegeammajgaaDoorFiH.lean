/-
  Filter: Make of more than a hundred patterns.
-/
import Derived.Test.YtkakegeammajgaaDoorFiD
namespace Go.Proofs.YtkakegeammajgaaDoor
set_option maxRecDepth 100000
set_option linter.unusedSimpArgs false
set_option linter.unusedVariables false
open Go.RowKit Go.Joins Go.Deep
open Go.Lib hiding intOf
set_option maxHeartbeats 8000000 in
theorem make_many (A1 A2 : Option Addr) (c1 c2 m n : Nat) (h : 100 < m ∨ 100 < n) (w : World) :
    Calls Tryd.prog 7 #[.slice A1 m c1, .slice A2 n c2] w (fun e w' => e = .returned (.tuple #[.agg #[.slice none 0 0, .slice none 0 0], .int .i64 6]) ∧ Below w.heap.size w w') := by
  have hif := info_fil
  have hzf := zero_fil
  have hmx : decide ((100 : Int) < (if (m : Int) < (n : Int) then (n : Int) else (m : Int))) = true := decide_eq_true (by split <;> omega)
  have hb0 := below_al w (.cells #[.slice none 0 0, .slice none 0 0] 29)
  have hx0 := heap_alloc_new w (.cells #[.slice none 0 0, .slice none 0 0] 29)
  have HB0 := Lib.hid hb0
  have HX0 := Lib.hid hx0
  clear hb0 hx0
  go_enter Tryd.func7, Tryd.ntmps7
  go_upto_region 1 with fail
  generalize w.alloc (.cells #[.slice none 0 0, .slice none 0 0] 29) = w1 at *
  have z0 := (cell_of_row _ _ 0 _ _ _ HX0.out).trans (show _ = some (Value.slice none 0 0) from rfl)
  have z1 := (cell_of_row _ _ 1 _ _ _ HX0.out).trans (show _ = some (Value.slice none 0 0) from rfl)
  have f0 := frozen_of_row _ _ 0 _ _ HX0.out
  have f1 := frozen_of_row _ _ 1 _ _ HX0.out
  have HG : Hid (w.heap.size = w.heap.size) := rfl
  have HLT : Hid (w.heap.size < w1.heap.size) := lt_of_block HX0.out
  go_wp2_with fail
  exact bodyPost_ret (results_ct_row rfl _ _ w.heap.size 29 #[.slice none 0 0, .slice none 0 0] (0, 0) _ rfl (two_set HX0.out) Tryd.underlying29 rfl info_fil) rfl ⟨rfl, (HB0.out.setCell (p := ⟨w.heap.size, 0, none⟩) (Nat.le_refl _) _).setCell (p := ⟨w.heap.size, 1, none⟩) (Nat.le_refl _) _⟩
end Go.Proofs.YtkakegeammajgaaDoor
