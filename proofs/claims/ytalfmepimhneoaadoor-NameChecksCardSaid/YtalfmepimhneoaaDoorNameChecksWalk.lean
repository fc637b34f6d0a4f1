/-
  The walk of NameChecks: it returns true, whatever the name.
-/
import Derived.Test.YtalfmepimhneoaaDoorNamQ
import Derived.Deep.OwnRows
import Derived.Laws.IdiomStrings
namespace Go.Proofs.YtalfmepimhneoaaDoor
set_option maxRecDepth 100000
open Go.RowKit Go.Deep Go.Joins Go.Lib

/-- Bytes of noughts, so many, made and turned into a text. -/
theorem made_long (N : Nat) (hN : N ≤ 2000000) : ∃ (cs : Array Value) (Z : ByteArray), Z.size = N ∧ (∀ w : World, (Instr.makeSlice 31 (.int .i64 (N : Nat)) (.int .i64 (N : Nat))).run Tryd.prog w = .ok (.slice (some ⟨w.heap.size, 0, none⟩) N N) (w.alloc (.cells cs 5))) ∧
    ∀ (W : World) (g : Nat), W.heap[g]? = some (.cells cs 5 (0, 0)) → (convert 31 9 (.slice (some ⟨g, 0, none⟩) N N)).run Tryd.prog W = .ok (.string Z) W := by
  refine ⟨madeCells #[.int .u8 0] N, ⟨(List.replicate N (0 : UInt8)).toArray⟩, by simp [ByteArray.size], run_make_row' (P := Tryd.prog) 31 5 (.int .u8 0) 1 Tryd.underlying31 info8 rfl .i64 .i64 N (by omega) (by omega), fun W g hg => ?_⟩
  have h := run_convert_bytes_back (P := Tryd.prog) W 31 9 5 ⟨g, 0, none⟩ N (List.replicate N (0 : UInt8)) Tryd.underlying31 Tryd.underlying5 Tryd.underlying9 (fun j hj => by
    have hj' : j < N := by simpa using hj
    rw [Addr.add_lit, Nat.zero_add, cell_of_row W g j _ _ _ hg]
    have e : (madeCells #[Value.int .u8 0] N)[j]? = (madeCells #[Value.int .u8 0] N).toList[j]? := by simp
    rw [e, toList_madeCells_one, List.getElem?_replicate, if_pos hj']
    simp)
  rw [List.length_replicate] at h
  exact h

set_option maxHeartbeats 4000000 in
theorem nameChecks_walk (s : ByteArray) (more : Bool) (_ : s.size ≤ maxLen) (w : World) (hE : Env w) :
    Calls Tryd.prog 4 #[.string s, .bool more] w fun e w' => e = .returned (.bool true) ∧ Below w.heap.size w w' := by
  have HA := Lib.hid (awake10_any w hE)
  have HE := Lib.hid hE
  clear hE
  by_cases h1 : 3000 < s.size
  · have g1 : decide ((3000 : Int) < (s.size : Int)) = true := decide_eq_true (by omega)
    go_enter Tryd.func4, Tryd.ntmps4
    go_wp2_with fail
    refine (HA.out).mono ?_
    rintro e w1 ⟨rfl, hb⟩
    go_wp2_with fail
    go_ret
    exact ⟨rfl, hb⟩
  · have g1 : decide ((3000 : Int) < (s.size : Int)) = false := decide_eq_false (by omega)
    cases more with
    | false =>
      have HC := Lib.hid (fun w h => check_any s w (by omega) h)
      have HR := Lib.hid (fun w => rcheck_any s w)
      clear h1
      generalize chkV s = V at *
      obtain ⟨p, d, n⟩ := V
      simp only at HC HR
      go_enter Tryd.func4, Tryd.ntmps4
      go_wp2_with fail
      refine (HA.out).mono ?_
      rintro e w1 ⟨rfl, hb⟩
      have HB1 := Lib.hid hb
      clear hb
      go_wp2_with fail
      refine (HC.out _ (HE.out.below HB1.out)).mono ?_
      rintro e w2 ⟨rfl, hb⟩
      have HB2 := Lib.hid (below_then HB1.out hb)
      clear hb
      go_wp2_with fail
      refine (HR.out _).mono ?_
      rintro e w3 ⟨rfl, hb⟩
      have HB3 := Lib.hid (below_then HB2.out hb)
      clear hb
      go_wp2_with fail
      go_ret
      exact ⟨rfl, HB3.out⟩
    | true =>
      obtain ⟨m, hm, hmi⟩ : ∃ m : Nat, 65536 - s.size = m ∧ ((65536 : Int) - (s.size : Int)) = (m : Int) := ⟨65536 - s.size, rfl, by omega⟩
      obtain ⟨cs, Z, hZ, hmk, hcv⟩ := made_long m (by omega)
      have HCV := Lib.hid hcv
      have hcat : ¬ 9223372036854775807 < s.size + Z.size := by omega
      have hbig : (s ++ Z).size = 65536 := by rw [ByteArray.size_append]; omega
      have HC := Lib.hid (fun w h => check_any (s ++ Z) w (by omega) h)
      have HR := Lib.hid (fun w => rcheck_any (s ++ Z) w)
      rw [chk_long (s := s ++ Z) (by omega)] at HC HR
      clear hcv hZ hbig h1 hm
      go_enter Tryd.func4, Tryd.ntmps4
      go_wp2_with fail
      refine (HA.out).mono ?_
      rintro e w1 ⟨rfl, hb⟩
      have HB1 := Lib.hid hb
      clear hb
      have HX := Lib.hid (heap_alloc_new w1 (.cells cs 5))
      go_wp2_with fail
      rw [HCV.out _ _ HX.out]
      have HB2 : Hid (Below w.heap.size w (w1.alloc (.cells cs 5))) := HB1.out.alloc HB1.out.size _
      generalize w1.alloc (.cells cs 5) = w2 at *
      go_wp2_with fail
      refine (HC.out _ (HE.out.below HB2.out)).mono ?_
      rintro e w3 ⟨rfl, hb⟩
      have HB3 := Lib.hid (below_then HB2.out hb)
      clear hb
      go_wp2_with fail
      refine (HR.out _).mono ?_
      rintro e w4 ⟨rfl, hb⟩
      have HB4 := Lib.hid (below_then HB3.out hb)
      clear hb
      go_wp2_with fail
      go_ret
      exact ⟨rfl, HB4.out⟩
end Go.Proofs.YtalfmepimhneoaaDoor
