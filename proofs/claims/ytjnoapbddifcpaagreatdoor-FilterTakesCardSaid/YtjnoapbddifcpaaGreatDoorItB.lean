/-
  Items: the law's Few; Same of the same items.
-/
import Derived.Test.YtjnoapbddifcpaaGreatDoorPkBF
import Derived.BigQuiet
namespace Go.Proofs.YtjnoapbddifcpaaGreatDoor
set_option maxRecDepth 100000
set_option linter.unusedSimpArgs false
set_option linter.unusedVariables false
open Go.RowKit Go.Joins Go.Deep
def FewP (l : List Itm) : Prop := ∀ x ∈ l, l.length ≤ 60 ∧ x.s.size ≤ 1000 ∧ x.d.size ≤ 5000
instance (l : List Itm) : Decidable (FewP l) := by unfold FewP; infer_instance
set_option maxHeartbeats 8000000 in
theorem fewI_any (A : Option Addr) (cap : Nat) (l : List Itm) (w : World) (hR : Itms w A l) (hl : l.length ≤ 9223372036854775807) :
    Calls Tryz.prog 7 #[.slice A l.length cap] w fun e w' => e = .returned (.bool (decide (FewP l))) ∧ Below w.heap.size w w' := by
  have hir := info_item
  have HR := Lib.hid hR
  obtain ⟨V, hV⟩ : ∃ V, V = decide (FewP l) := ⟨_, rfl⟩
  rw [← hV]
  have HV := Lib.hid hV
  clear hR hV
  go_enter Tryz.func7, Tryz.ntmps7
  go_wp2_with fail
  go_loopw [4, 7] (fun _ v7 wr => ∃ k : Nat, k ≤ l.length ∧ v7 = .int .i64 (k : Nat) ∧ Hid (∀ x ∈ l.take k, l.length ≤ 60 ∧ x.s.size ≤ 1000 ∧ x.d.size ≤ 5000) ∧ Hid (Below w.heap.size w wr)) (fun _ v _ => l.length - (intOf v).toNat)
  case atStart => exact ⟨0, Nat.zero_le _, rfl, (fun s hs => by cases hs), Below.refl _ _⟩
  case round =>
    obtain ⟨k, hk, rfl, HS, HB⟩ := hrel
    by_cases hlt : k < l.length
    · have hd : decide ((k : Int) < (l.length : Int)) = true := decide_eq_true (by omega)
      obtain ⟨b, off, rfl, hb, hcc⟩ := (HR.out.below HB.out) (by omega)
      obtain ⟨c0, c1, c2, c3, c4, c5, c6, c7⟩ := hcc k l[k] (List.getElem?_eq_getElem hlt)
      have HMEM : Hid (l[k] ∈ l) := List.getElem_mem hlt
      have HTK : Hid (l.take (k + 1) = l.take k ++ [l[k]]) := List.take_succ_eq_append_getElem hlt
      have hx0 := heap_alloc_new wr (.cells l[k].cells 73)
      have HB1 := Lib.hid (HB.out.alloc HB.out.size (.cells l[k].cells 73))
      simp only [Itm.cells] at hx0 HB1
      generalize l[k] = x at *
      obtain ⟨x0, x1, x2, x3, x4, x5, x6, x7⟩ := x
      dsimp only at c0 c1 c2 c3 c4 c5 c6 c7 HB1 hx0
      have d0 := (cell_of_row _ _ 0 _ _ _ hx0).trans (show _ = some (.string x0) from rfl)
      have d7 := (cell_of_row _ _ 7 _ _ _ hx0).trans (show _ = some (.string x7) from rfl)
      clear hcc hx0
      by_cases h60 : 60 < l.length
      · have e1 : decide ((60 : Int) < (l.length : Int)) = true := decide_eq_true (by omega)
        have HF : Hid (V = false) := by
          show V = false
          rw [HV.out]
          exact decide_eq_false (fun h => by have := (h _ HMEM.out).1; omega)
        clear HR HS HTK HMEM HV
        go_wp2_with fail
        go_ret
        exact ⟨by rw [HF.out]; rfl, HB1.out⟩
      have e1 : decide ((60 : Int) < (l.length : Int)) = false := decide_eq_false (by omega)
      by_cases h1000 : 1000 < x0.size
      · have e2 : decide ((1000 : Int) < (x0.size : Int)) = true := decide_eq_true (by omega)
        have HF : Hid (V = false) := by
          show V = false
          rw [HV.out]
          exact decide_eq_false (fun h => by have : x0.size ≤ 1000 := (h _ HMEM.out).2.1; omega)
        clear HR HS HTK HMEM HV
        go_wp2_with fail
        go_ret
        exact ⟨by rw [HF.out]; rfl, HB1.out⟩
      have e2 : decide ((1000 : Int) < (x0.size : Int)) = false := decide_eq_false (by omega)
      by_cases h5000 : 5000 < x7.size
      · have e3 : decide ((5000 : Int) < (x7.size : Int)) = true := decide_eq_true (by omega)
        have HF : Hid (V = false) := by
          show V = false
          rw [HV.out]
          exact decide_eq_false (fun h => by have : x7.size ≤ 5000 := (h _ HMEM.out).2.2; omega)
        clear HR HS HTK HMEM HV
        go_wp2_with fail
        go_ret
        exact ⟨by rw [HF.out]; rfl, HB1.out⟩
      have e3 : decide ((5000 : Int) < (x7.size : Int)) = false := decide_eq_false (by omega)
      have HS2 : Hid (∀ y ∈ l.take (k + 1), l.length ≤ 60 ∧ y.s.size ≤ 1000 ∧ y.d.size ≤ 5000) := fun y hy => by
        rw [HTK.out, List.mem_append] at hy
        rcases hy with hy | hy
        · exact HS.out y hy
        · obtain rfl : y = _ := by simpa using hy
          exact ⟨by omega, by show x0.size ≤ 1000; omega, by show x7.size ≤ 5000; omega⟩
      have hk62 : (k : Int) + 1 < 9223372036854775807 := by omega
      clear HR HTK HMEM HV HS
      go_wp2_with fail
      go_roundw
      case rel => exact ⟨k + 1, by omega, by go_num, HS2, HB1⟩
      case measure => simp [intOf]; omega
    · obtain rfl : k = l.length := by omega
      have hd : decide ((l.length : Int) < (l.length : Int)) = false := decide_eq_false (by omega)
      have HF : Hid (V = true) := by
        show V = true
        rw [HV.out]
        refine decide_eq_true (fun x hx => ?_)
        exact HS.out x (by rw [List.take_length]; exact hx)
      go_wp2_with fail
      go_ret
      exact ⟨by rw [HF.out]; rfl, HB.out⟩
set_option maxHeartbeats 8000000 in
theorem sameI_any (A B : Option Addr) (cA cB : Nat) (l : List Itm) (w : World) (hA : Itms w A l) (hB : Itms w B l) (hl : l.length ≤ 1000000) :
    Calls Tryz.prog 15 #[.slice A l.length cA, .slice B l.length cB] w fun e w' => e = .returned (.bool true) ∧ ∃ d, w' = w.drewN d := by
  have hit := info_item
  have HA := Lib.hid hA
  have HB := Lib.hid hB
  clear hA hB
  go_enter Tryz.func15, Tryz.ntmps15
  go_wp2_with fail
  go_loopw [13] (fun i wr => ∃ (k d : Nat), k ≤ l.length ∧ i = .int .i64 (k : Nat) ∧ wr = w.drewN d) (fun i _ => l.length - (intOf i).toNat)
  case atStart => exact ⟨0, 0, Nat.zero_le _, rfl, rfl⟩
  case round =>
    obtain ⟨k, d, hk, rfl, rfl⟩ := hrel
    by_cases hkn : k < l.length
    · obtain ⟨b, off, rfl, hbl, hc⟩ := HA.out (by omega)
      obtain ⟨b2, off2, rfl, hbl2, hc2⟩ := HB.out (by omega)
      obtain ⟨c0, c1, c2, c3, c4, c5, c6, c7⟩ := hc k l[k] (List.getElem?_eq_getElem hkn)
      obtain ⟨e0, e1, e2, e3, e4, e5, e6, e7⟩ := hc2 k l[k] (List.getElem?_eq_getElem hkn)
      clear hc hc2
      generalize l[k] = x at *
      obtain ⟨x0, x1, x2, x3, x4, x5, x6, x7⟩ := x
      dsimp only at c0 c1 c2 c3 c4 c5 c6 c7 e0 e1 e2 e3 e4 e5 e6 e7
      have heq := eqv_node x1 x2 x3 x4 x5 x6 x7
      have hki : (k : Int) < (l.length : Int) := by omega
      go_wp2_with fail
      go_quiet (fail)
      go_wp2_with fail
      go_roundw
      case rel => exact ⟨k + 1, d + nq, by omega, by go_num, by first | rfl | rw [World.drewN_drewN]⟩
      case measure => simp [intOf]; omega
    · obtain rfl : k = l.length := by omega
      go_wp2_with fail
      go_ret
      exact ⟨rfl, d, rfl⟩
end Go.Proofs.YtjnoapbddifcpaaGreatDoor
