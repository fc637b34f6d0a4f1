/-
  The walk of FieldPaths.
-/
import Derived.Test.YtkiecgcjnlgbnaaDoorFpA
import Derived.Test.YtkiecgcjnlgbnaaDoorFlD
namespace Go.Proofs.YtkiecgcjnlgbnaaDoor
set_option maxRecDepth 100000
open Go.RowKit Go.Deep Go.Joins

theorem pthR_form (s raw : ByteArray) : ∃ T b z, pthR s raw = .tuple #[.string T, .bool b, .int .i64 z] := by
  unfold pthR
  repeat' split
  all_goals exact ⟨_, _, _, rfl⟩
set_option maxHeartbeats 2000000 in
theorem fieldPaths_walk (s raw path : ByteArray) (hs : s.size ≤ maxLen) (hr : raw.size ≤ maxLen) (_hp : path.size ≤ maxLen) (w : World) :
    Calls Tryd.prog 3 #[.string s, .string raw, .string path] w fun e w' => e = .returned (.bool true) ∧ Below w.heap.size w w' := by
  have HA := Lib.hid (awake14_any w)
  have HP := Lib.hid (fun w1 => parsePath_any s raw hs hr w1)
  have HLr := Lib.hid hr
  go_enter Tryd.func3, Tryd.ntmps3
  go_wp2_with fail
  refine (HA.out).mono ?_; rintro e w1 ⟨rfl, h1⟩
  have H1 := Lib.hid h1
  clear h1 HA
  by_cases c1 : 2000 < s.size
  · go_wp2_with fail
    go_ret
    exact ⟨rfl, H1.out⟩
  · by_cases c2 : 2000 < raw.size
    · go_wp2_with fail
      go_ret
      exact ⟨rfl, H1.out⟩
    · by_cases c3 : 2000 < path.size
      · go_wp2_with fail
        go_ret
        exact ⟨rfl, H1.out⟩
      · have HQ := Lib.hid (fun w1 => rparsePath_any s raw (by omega) hr w1)
        have HPP := Lib.hid (fun w1 => printPath_any path raw (by omega) hr w1)
        have HRP := Lib.hid (fun w1 => rprintPath_any path raw (by omega) hr w1)
        obtain ⟨T, b, z, hT⟩ := pthR_form s raw
        rw [hT] at HP HQ
        generalize ptT path raw = P at *
        clear hT
        go_wp2_with fail
        refine (HP.out _).mono ?_; rintro e w2 ⟨rfl, h2⟩
        have H2 := Lib.hid (below_then H1.out h2)
        clear h2
        go_wp2_with fail
        refine (HQ.out _).mono ?_; rintro e w3 ⟨rfl, rfl⟩
        go_wp2_with fail
        refine (HPP.out _).mono ?_; rintro e w4 ⟨rfl, h4⟩
        have H4 := Lib.hid (below_then H2.out h4)
        clear h4
        go_wp2_with fail
        refine (HRP.out _).mono ?_; rintro e w5 ⟨rfl, h5⟩
        have H5 := Lib.hid (below_then H4.out h5)
        clear h5
        go_wp2_with fail
        go_ret
        exact ⟨rfl, H5.out⟩
end Go.Proofs.YtkiecgcjnlgbnaaDoor
