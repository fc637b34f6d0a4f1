/-
  Filter: items in memory; the first that Tree deletes.
-/
import Derived.Test.YtkakegeammajgaaDoorFiJ
import Derived.Test.YtkakegeammajgaaDoorItA
namespace Go.Proofs.YtkakegeammajgaaDoor
set_option maxRecDepth 100000
set_option linter.unusedSimpArgs false
set_option linter.unusedVariables false
open Go.RowKit Go.Joins Go.Deep
open Go.Lib hiding intOf
set_option maxHeartbeats 8000000 in
theorem indexI_any (I : World → Prop) (hI : ∀ w1 w2, I w1 → Below w1.heap.size w1 w2 → I w2) (p : Itm → Bool) (l : List Itm) (A : Option Addr) (c g : Nat) (w : World) (hl : l.length ≤ 1000000)
    (hP : ∀ x ∈ l, ∀ w1, I w1 → Calls Tryd.prog 14 #[.agg x.cells, .pointer (some ⟨g, 0, none⟩)] w1 fun e w' => e = .returned (.bool (p x)) ∧ Below w1.heap.size w1 w') (hw : I w) (hR : Itms w A l) :
    Calls Tryd.prog 18 #[.slice A l.length c, .func (.func 14) #[] #[.pointer (some ⟨g, 0, none⟩)]] w
      fun e w' => Below w.heap.size w w' ∧ ((e = .returned (.int .i64 (-1)) ∧ l.any p = false) ∨ ∃ (k : Nat) (h : k < l.length), e = .returned (.int .i64 k) ∧ p l[k] = true ∧ (l.take k).any p = false) := by
  have hir := info_item
  have HP := Lib.hid hP
  have HI := Lib.hid hI
  have HW := Lib.hid hw
  have HR := Lib.hid hR
  clear hP hI hw hR
  go_enter Tryd.func18, Tryd.ntmps18
  go_wp2_with fail
  go_loopw [5, 8] (fun _ i wr => ∃ k : Nat, k ≤ l.length ∧ i = .int .i64 (k : Nat) ∧ Hid ((l.take k).any p = false) ∧ Hid (Below w.heap.size w wr)) (fun _ i _ => l.length - (intOf i).toNat)
  case atStart => exact ⟨0, Nat.zero_le _, rfl, by show List.any [] _ = _; rfl, Below.refl _ _⟩
  case round =>
    obtain ⟨k, hk, rfl, HF, HB⟩ := hrel
    by_cases hlt : k < l.length
    · obtain ⟨b, off, rfl, hb, hcc⟩ := (HR.out.below HB.out) (by omega)
      obtain ⟨c0, c1, c2, c3, c4, c5, c6, c7⟩ := hcc k l[k] (List.getElem?_eq_getElem hlt)
      have HQ := Lib.hid (any_take l p k hlt)
      have HCL := Lib.hid (HP.out l[k] (List.getElem_mem hlt) wr (HI.out _ _ HW.out HB.out))
      have HE : Hid (p l[k] = p l[k]) := rfl
      generalize hp : p l[k] = pv at *
      have HPV := Lib.hid hp
      simp only [Itm.cells] at HCL
      generalize l[k] = x at c0 c1 c2 c3 c4 c5 c6 c7 HCL
      clear hcc hp
      obtain ⟨x0, x1, x2, x3, x4, x5, x6, x7⟩ := x
      dsimp only at c0 c1 c2 c3 c4 c5 c6 c7 HCL
      go_wp2_with fail
      refine HCL.out.mono ?_; rintro e w5 ⟨rfl, hb5⟩
      have HB5 := Lib.hid (below_then HB.out hb5)
      clear hb5
      cases pv with
      | true =>
        go_wp2_with fail
        go_ret
        exact ⟨HB5.out, .inr ⟨k, hlt, rfl, HPV.out, HF.out⟩⟩
      | false =>
        go_wp2_with fail
        go_roundw
        case rel => exact ⟨k + 1, by omega, by go_num, by show _ = _; rw [HQ.out, HF.out]; rfl, HB5⟩
        case measure => simp [intOf]; omega
    · obtain rfl : k = l.length := by omega
      go_wp2_with fail
      go_ret
      refine ⟨HB.out, .inl ⟨rfl, ?_⟩⟩
      have h := HF.out
      rw [List.take_length] at h
      exact h
end Go.Proofs.YtkakegeammajgaaDoor
