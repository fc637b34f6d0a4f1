/-
  Filter: takes, of a node.
-/
import Derived.Test.YtkakegeammajgaaDoorFiH
namespace Go.Proofs.YtkakegeammajgaaDoor
set_option maxRecDepth 100000
set_option linter.unusedSimpArgs false
set_option linter.unusedVariables false
open Go.RowKit Go.Joins Go.Deep
open Go.Lib hiding intOf
set_option maxHeartbeats 8000000 in
theorem takesN_any (V : Value) (ins outs : List (List Atm)) (s : ByteArray) (k : Int) (n1 n2 n3 n4 n5 n6 : Value) (hs : s.size ≤ 10000) (h1 : SmallP ins) (h2 : SmallP outs) (w : World) (hF : FilV w V ins outs) (hT : Tabs w) :
    Calls Tryd.prog 15 #[V, .string s, .agg #[.int .i64 k, n1, n2, n3, n4, n5, n6]] w fun e w' => e = .returned (.bool (takM ins outs s (k == 1))) ∧ Below w.heap.size w w' := by
  have hF0 := hF
  obtain ⟨A1, c1, A2, c2, rfl, hR1, hR2, _, _⟩ := hF
  have hif := info_fil
  have hb0 := below_al w (.cells #[.slice A1 ins.length c1, .slice A2 outs.length c2] 29)
  have hx0 := heap_alloc_new w (.cells #[.slice A1 ins.length c1, .slice A2 outs.length c2] 29)
  have hb1 := below_then hb0 (below_al (w.alloc (.cells #[.slice A1 ins.length c1, .slice A2 outs.length c2] 29)) (.cells #[.int .i64 k, n1, n2, n3, n4, n5, n6] 36))
  have hx1 := heap_alloc_new (w.alloc (.cells #[.slice A1 ins.length c1, .slice A2 outs.length c2] 29)) (.cells #[.int .i64 k, n1, n2, n3, n4, n5, n6] 36)
  have HB1 := Lib.hid hb1
  have HC := Lib.hid (takes_any _ ins outs s (k == 1) hs h1 h2 _ (hF0.below hb1) (hT.below hb1))
  clear hR1 hR2 hT hF0 h1 h2 hs
  go_enter Tryd.func15, Tryd.ntmps15
  go_upto_region 1 with fail
  have HF1 := Lib.hid ((below_al (w.alloc (.cells #[.slice A1 ins.length c1, .slice A2 outs.length c2] 29)) (.cells #[.int .i64 k, n1, n2, n3, n4, n5, n6] 36)).block _ (lt_of_block hx0) |>.trans hx0)
  have z0 := (cell_of_row _ _ 0 _ _ _ hx1).trans (show _ = some (Value.int .i64 k) from rfl)
  rw [show (w.alloc (.cells #[.slice A1 ins.length c1, .slice A2 outs.length c2] 29)).heap.size = w.heap.size + 1 from by simp only [World.alloc, Array.size_push]] at z0
  clear hx1 hx0 hb0 hb1
  generalize hg : w.heap.size = g at *
  generalize (w.alloc (.cells #[.slice A1 ins.length c1, .slice A2 outs.length c2] 29)).alloc (.cells #[.int .i64 k, n1, n2, n3, n4, n5, n6] 36) = w1 at *
  go_wp2_with (refine wpList_load_row rfl 29 (.tmp 3) rfl g rfl 29 _ (0, 0) _ HF1.out Tryd.underlying29 rfl info_fil ?_)
  go_wp2_with fail
  refine HC.out.mono ?_; rintro e w2 ⟨rfl, hb2⟩
  go_wp2_with fail
  go_ret
  exact ⟨rfl, by subst hg; exact below_then HB1.out hb2⟩
end Go.Proofs.YtkakegeammajgaaDoor
