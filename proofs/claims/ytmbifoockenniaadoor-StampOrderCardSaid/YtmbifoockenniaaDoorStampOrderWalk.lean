/-
  The walk of StampOrder.
-/
import Derived.Test.YtmbifoockenniaaDoorStQa
import Derived.Test.YtmbifoockenniaaDoorStQb
import Derived.Test.YtmbifoockenniaaDoorStQc
import Derived.Test.YtmbifoockenniaaDoorStQd
import Derived.Test.YtmbifoockenniaaDoorStO
import Derived.Deep.RegionHeld3
import Derived.Deep.RegionWith
import Derived.Deep.DrawnRows
namespace Go.Proofs.YtmbifoockenniaaDoor
set_option maxRecDepth 100000
set_option linter.unusedSimpArgs false
open Go.RowKit Go.Joins Go.Deep Go.Op
attribute [local go_sem ↓] Go.wp_at_zero Go.wp_at_succ
attribute [local irreducible] Pow txt


theorem stampOrder_walk (a0 a1 : Int) (_ : (Lit.int .i64 a0).wf = true) (_ : (Lit.int .i64 a1).wf = true) (w : World) (hp : Pow w) :
    Calls Tryd.prog 7 #[.int .i64 a0, .int .i64 a1] w fun e w' => e = .returned (.bool true) ∧ Below w.heap.size w w' := by
  obtain ⟨F, hF1, hF2⟩ := dos_fun
  obtain ⟨y, m, d, h, mi, s, z, HO⟩ := of_ex a0
  obtain ⟨y', m', d', h', mi', s', z', HO'⟩ := of_ex a1
  by_cases hs : a1 < a0
  · rcases HO.err with rfl | rfl <;> rcases HO'.err with rfl | rfl
    · exact order_1_0_0 a0 a1 hs _ _ _ _ _ _ _ _ _ _ _ _ HO' HO F hF1 hF2 w hp
    · exact order_1_23_0 a0 a1 hs _ _ _ _ _ _ _ _ _ _ _ _ HO' HO F hF1 hF2 w hp
    · exact order_1_0_23 a0 a1 hs _ _ _ _ _ _ _ _ _ _ _ _ HO' HO F hF1 hF2 w hp
    · exact order_1_23_23 a0 a1 hs _ _ _ _ _ _ _ _ _ _ _ _ HO' HO F hF1 hF2 w hp
  · rcases HO.err with rfl | rfl <;> rcases HO'.err with rfl | rfl
    · exact order_0_0_0 a0 a1 hs _ _ _ _ _ _ _ _ _ _ _ _ HO HO' F hF1 hF2 w hp
    · exact order_0_0_23 a0 a1 hs _ _ _ _ _ _ _ _ _ _ _ _ HO HO' F hF1 hF2 w hp
    · exact order_0_23_0 a0 a1 hs _ _ _ _ _ _ _ _ _ _ _ _ HO HO' F hF1 hF2 w hp
    · exact order_0_23_23 a0 a1 hs _ _ _ _ _ _ _ _ _ _ _ _ HO HO' F hF1 hF2 w hp
end Go.Proofs.YtmbifoockenniaaDoor
