/-
  Filter: what Tree deletes.
-/
import Derived.Test.YtkakegeammajgaaDoorFiI
import Derived.Deep.MidRow
namespace Go.Proofs.YtkakegeammajgaaDoor
set_option maxRecDepth 100000
set_option linter.unusedSimpArgs false
set_option linter.unusedVariables false
open Go.RowKit Go.Joins Go.Deep
open Go.Lib hiding intOf
theorem info_node : (Tryd.prog.info? 36).map (·.size) = some 7 := by kernel_rfl
set_option maxHeartbeats 8000000 in
theorem tree1_any (gf : Nat) (F : Array Value) (ins outs : List (List Atm)) (s : ByteArray) (k : Int) (n1 n2 n3 n4 n5 n6 : Value) (hs : s.size ≤ 10000) (h1 : SmallP ins) (h2 : SmallP outs) (w : World) (hF : FilV w (.agg F) ins outs) (hT : Tabs w) (hg : w.heap[gf]? = some (.cells F 29 (0, 0))) :
    Calls Tryd.prog 14 #[.agg #[.string s, .int .i64 k, n1, n2, n3, n4, n5, n6], .pointer (some ⟨gf, 0, none⟩)] w fun e w' => e = .returned (.bool (!takM ins outs s (k == 1))) ∧ Below w.heap.size w w' := by
  have hF2 : F.size = 2 := by obtain ⟨A1, c1, A2, c2, e, _⟩ := hF; cases e; rfl
  have hb1 := below_al w (.cells #[.string s, .int .i64 k, n1, n2, n3, n4, n5, n6] 38)
  have hx1 := heap_alloc_new w (.cells #[.string s, .int .i64 k, n1, n2, n3, n4, n5, n6] 38)
  have HC := Lib.hid (takesN_any (.agg F) ins outs s k n1 n2 n3 n4 n5 n6 hs h1 h2 _ (hF.below hb1) (hT.below hb1))
  have HB := Lib.hid hb1
  have HG := Lib.hid ((hb1.block _ (lt_of_block hg)).trans hg)
  have HX := Lib.hid hx1
  have HF2 := Lib.hid hF2
  clear hF hT hg hb1 h1 h2 hs hF2 hx1
  go_enter Tryd.func14, Tryd.ntmps14
  go_upto_region 1 with fail
  generalize hgp : w.heap.size = gp at *
  generalize w.alloc (.cells #[.string s, .int .i64 k, n1, n2, n3, n4, n5, n6] 38) = w1 at *
  have d0 := (cell_of_row _ _ 0 _ _ _ HX.out).trans (show _ = some (.string s) from rfl)
  have HR : Hid (w1.rangeAt gp 1 [.int .i64 k, n1, n2, n3, n4, n5, n6]) := by
    intro j v hv
    rw [cell_of_row _ _ _ _ _ _ HX.out, Nat.add_comm, ← Array.getElem?_toList]
    exact hv
  go_wp2_with (first | refine wpList_load_row rfl 29 (.tmp 1) rfl gf rfl 29 _ (0, 0) _ HG.out Tryd.underlying29 rfl (by rw [HF2.out]; exact info_fil) ?_ | refine wpList_load_mid rfl 36 (.tmp 7) rfl gp 1 rfl _ _ HR.out Tryd.underlying36 rfl info_node ?_)
  go_wp2_with fail
  refine HC.out.mono ?_; rintro e w2 ⟨rfl, hb2⟩
  have HB2 := Lib.hid (below_then (by rw [hgp]; exact HB.out : Below w.heap.size w w1) hb2)
  clear hb2
  go_wp2_with fail
  go_ret
  exact ⟨rfl, HB2.out⟩
end Go.Proofs.YtkakegeammajgaaDoor
