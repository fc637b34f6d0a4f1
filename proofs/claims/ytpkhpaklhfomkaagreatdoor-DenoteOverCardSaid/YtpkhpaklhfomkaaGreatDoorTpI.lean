/-
  Trees: the document's Right, of layer 16.
-/
import Derived.Test.YtpkhpaklhfomkaaGreatDoorTpH
namespace Go.Proofs.YtpkhpaklhfomkaaGreatDoor
set_option maxRecDepth 100000
set_option linter.unusedSimpArgs false
set_option linter.unusedVariables false
open Go.RowKit Go.Joins Go.Deep
open Go.Lib hiding intOf
/-- Has a directory Data? -/
def datL (x : Itm) : Bool := (x.k == 1) && decide (0 < x.d.size)
set_option maxHeartbeats 8000000 in
theorem right16_any (A : Option Addr) (c : Nat) (l : List Itm) (w : World) (hR : Itms w A l) (hl : l.length ≤ 1000) (hs : ∀ x ∈ l, x.s.size ≤ 100000) :
    Calls Tryz.prog 13 #[.slice A l.length c] w fun e w' => e = .returned (.bool (!(l.any datL) && rgtI l)) ∧ Below w.heap.size w w' := by
  have hir := info_item
  have HR := Lib.hid hR
  have HRR := Lib.hid (fun w1 (hb : Below w.heap.size w w1) => rright_any A c l w1 (hR.below hb) hl hs)
  obtain ⟨V, hV⟩ : ∃ V, V = (!(l.any datL) && rgtI l) := ⟨_, rfl⟩
  rw [← hV]
  have HV := Lib.hid hV
  clear hR hV hs
  go_enter Tryz.func13, Tryz.ntmps13
  go_wp2_with fail
  go_loopw [7] (fun v7 wr => ∃ k : Nat, k ≤ l.length ∧ v7 = .int .i64 (k : Nat) ∧ Hid ((l.take k).any datL = false) ∧ Hid (Below w.heap.size w wr)) (fun v _ => l.length - (intOf v).toNat)
  case atStart => exact ⟨0, Nat.zero_le _, rfl, rfl, Below.refl _ _⟩
  case round =>
    obtain ⟨k, hk, rfl, HT, HB⟩ := hrel
    by_cases hlt : k < l.length
    · have hd : decide ((k : Int) < (l.length : Int)) = true := decide_eq_true (by omega)
      obtain ⟨b, off, rfl, hb, hcc⟩ := (HR.out.below HB.out) (by omega)
      obtain ⟨c0, c1, c2, c3, c4, c5, c6, c7⟩ := hcc k l[k] (List.getElem?_eq_getElem hlt)
      have HQ := Lib.hid (any_take l datL k hlt)
      have HBAD : Hid (datL l[k] = true → V = false) := fun h => by
        rw [HV.out, List.any_eq_true.2 ⟨l[k], List.getElem_mem hlt, h⟩]
        rfl
      have hx0 := heap_alloc_new wr (.cells l[k].cells 33)
      have HB2 := Lib.hid (below_then HB.out (below_al wr (.cells l[k].cells 33)))
      simp only [Itm.cells] at hx0 HB2
      generalize l[k] = x at *
      obtain ⟨x0, x1, x2, x3, x4, x5, x6, x7⟩ := x
      dsimp only at c0 c1 c2 c3 c4 c5 c6 c7 HB2 hx0
      have d1 := (cell_of_row _ _ 1 _ _ _ hx0).trans (show _ = some (.int .i64 x1) from rfl)
      have d7 := (cell_of_row _ _ 7 _ _ _ hx0).trans (show _ = some (.string x7) from rfl)
      clear hcc hx0 HR HRR HV
      by_cases h1 : x1 = 1
      · subst h1
        by_cases h7 : 0 < x7.size
        · have h7' : (0 : Int) < (x7.size : Int) := by omega
          have HF : Hid (V = false) := HBAD.out (by show (((1 : Int) == 1) && decide (0 < x7.size)) = true; rw [decide_eq_true h7]; rfl)
          clear HQ HT HBAD
          go_wp2_with fail
          go_ret
          exact ⟨by rw [HF.out]; rfl, HB2.out⟩
        · have h7' : ¬ (0 : Int) < (x7.size : Int) := by omega
          have HT2 : Hid ((l.take (k + 1)).any datL = false) := by
            show _ = _
            rw [HQ.out, HT.out]
            show (((1 : Int) == 1) && decide (0 < x7.size)) = false
            rw [decide_eq_false h7]; rfl
          clear HQ HT HBAD
          go_wp2_with fail
          go_roundw
          case rel => exact ⟨k + 1, by omega, by go_num, HT2, HB2⟩
          case measure => simp [intOf]; omega
      · have HT2 : Hid ((l.take (k + 1)).any datL = false) := by
          show _ = _
          rw [HQ.out, HT.out]
          show ((x1 == 1) && decide (0 < x7.size)) = false
          rw [beq_eq_false_iff_ne.2 h1]; rfl
        clear HQ HT HBAD
        go_wp2_with fail
        go_roundw
        case rel => exact ⟨k + 1, by omega, by go_num, HT2, HB2⟩
        case measure => simp [intOf]; omega
    · obtain rfl : k = l.length := by omega
      have hd : decide ((l.length : Int) < (l.length : Int)) = false := decide_eq_false (by omega)
      have HF : Hid (V = rgtI l) := by
        show V = _
        have h := HT.out
        rw [List.take_length] at h
        rw [HV.out, h]
        rfl
      have HC := Lib.hid (HRR.out wr HB.out)
      clear HV HT HR HRR
      go_wp2_with fail
      refine HC.out.mono ?_; rintro e w2 ⟨rfl, hb2⟩
      have HB2 := Lib.hid (below_then HB.out hb2)
      clear hb2 HC
      go_wp2_with fail
      go_ret
      exact ⟨by rw [HF.out]; rfl, HB2.out⟩
end Go.Proofs.YtpkhpaklhfomkaaGreatDoor
