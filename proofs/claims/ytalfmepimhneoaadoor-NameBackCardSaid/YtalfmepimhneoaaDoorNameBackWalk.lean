/-
  The walk of NameBack: it returns true, whatever the name.
-/
import Derived.Test.YtalfmepimhneoaaDoorNamZ
import Derived.Test.YtalfmepimhneoaaDoorNameOrdersWalk
namespace Go.Proofs.YtalfmepimhneoaaDoor
set_option maxRecDepth 100000
open Go.RowKit Go.Deep Go.Joins Go.Lib

set_option maxHeartbeats 4000000 in
theorem nameBack_walk (s : ByteArray) (_ : s.size ≤ maxLen) (w : World) (hE : Env w) (hU : Upper w) :
    Calls Tryd.prog 6 #[.string s] w fun e w' => e = .returned (.bool true) ∧ Below w.heap.size w w' := by
  have HA := Lib.hid (awake10_any w hE)
  have HU := Lib.hid hU
  clear hE hU
  by_cases h1 : 3000 < s.size
  · have g1 : decide ((3000 : Int) < (s.size : Int)) = true := decide_eq_true (by omega)
    go_enter Tryd.func6, Tryd.ntmps6
    go_wp2_with fail
    refine (HA.out).mono ?_
    rintro e w1 ⟨rfl, hb⟩
    go_wp2_with fail
    go_ret
    exact ⟨rfl, hb⟩
  · have g1 : decide ((3000 : Int) < (s.size : Int)) = false := decide_eq_false (by omega)
    have HD := Lib.hid (fun w h => decode_cp s w (by omega) h)
    have hdl := decL_len (nums s)
    rw [nums_len] at hdl
    have HE1 := Lib.hid (fun w h => encode_any (text (decL (nums s))) w (by rw [text_size]; omega) h)
    rw [there_back s] at HE1
    have HE2 := Lib.hid (fun w h => encode_any s w (by omega) h)
    have ht : text ((some (nums s)).getD []) = s := text_nums s
    rw [ht] at HE1
    generalize text (decL (nums s)) = a at *
    cases he : encO s with
    | none =>
      rw [he] at HE2
      have hte : text ((none : Option (List Nat)).getD []) = ByteArray.empty := rfl
      rw [hte] at HE2
      clear h1 he
      go_enter Tryd.func6, Tryd.ntmps6
      go_wp2_with fail
      refine (HA.out).mono ?_
      rintro e w1 ⟨rfl, hb⟩
      have HB1 := Lib.hid hb
      clear hb
      go_wp2_with fail
      refine (HD.out _ (HU.out.below HB1.out)).mono ?_
      rintro e w2 ⟨rfl, hb⟩
      have HB2 := Lib.hid (below_then HB1.out hb)
      clear hb
      go_wp2_with fail
      refine (HE1.out _ (HU.out.below HB2.out)).mono ?_
      rintro e w3 ⟨rfl, hb⟩
      have HB3 := Lib.hid (below_then HB2.out hb)
      clear hb
      go_wp2_with fail
      refine (HE2.out _ (HU.out.below HB3.out)).mono ?_
      rintro e w4 ⟨rfl, hb⟩
      have HB4 := Lib.hid (below_then HB3.out hb)
      clear hb
      go_wp2_with fail
      refine (decode_cp ByteArray.empty w4 (by decide) (HU.out.below HB4.out)).mono ?_
      rintro e w5 ⟨rfl, hb⟩
      have HB5 := Lib.hid (below_then HB4.out hb)
      clear hb
      go_wp2_with fail
      go_ret
      exact ⟨rfl, HB5.out⟩
    | some c =>
      rw [he] at HE2
      obtain ⟨hcl, hcs⟩ := encO_facts he
      have hbt := back_there s c he
      have HD2 := Lib.hid (fun w h => decode_cp (text c) w (by rw [text_size]; omega) h)
      rw [nums_text c hcl, hbt, text_nums] at HD2
      have hte : text ((some c).getD []) = text c := rfl
      rw [hte] at HE2
      generalize text c = cc at *
      clear h1 he hbt hcl hcs
      go_enter Tryd.func6, Tryd.ntmps6
      go_wp2_with fail
      refine (HA.out).mono ?_
      rintro e w1 ⟨rfl, hb⟩
      have HB1 := Lib.hid hb
      clear hb
      go_wp2_with fail
      refine (HD.out _ (HU.out.below HB1.out)).mono ?_
      rintro e w2 ⟨rfl, hb⟩
      have HB2 := Lib.hid (below_then HB1.out hb)
      clear hb
      go_wp2_with fail
      refine (HE1.out _ (HU.out.below HB2.out)).mono ?_
      rintro e w3 ⟨rfl, hb⟩
      have HB3 := Lib.hid (below_then HB2.out hb)
      clear hb
      go_wp2_with fail
      refine (HE2.out _ (HU.out.below HB3.out)).mono ?_
      rintro e w4 ⟨rfl, hb⟩
      have HB4 := Lib.hid (below_then HB3.out hb)
      clear hb
      go_wp2_with fail
      refine (HD2.out _ (HU.out.below HB4.out)).mono ?_
      rintro e w5 ⟨rfl, hb⟩
      have HB5 := Lib.hid (below_then HB4.out hb)
      clear hb
      go_wp2_with fail
      go_ret
      exact ⟨rfl, HB5.out⟩
end Go.Proofs.YtalfmepimhneoaaDoor
