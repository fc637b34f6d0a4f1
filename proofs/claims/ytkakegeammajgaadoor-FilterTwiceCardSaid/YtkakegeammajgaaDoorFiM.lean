/-
  Filter: Tree.
-/
import Derived.Test.YtkakegeammajgaaDoorItD
namespace Go.Proofs.YtkakegeammajgaaDoor
set_option maxRecDepth 100000
set_option linter.unusedSimpArgs false
set_option linter.unusedVariables false
open Go.RowKit Go.Joins Go.Deep
open Go.Lib hiding intOf
/-- The items that are meant. -/
noncomputable def keepI (ins outs : List (List Atm)) (l : List Itm) : List Itm := l.filter (fun x => takM ins outs x.s (x.k == 1))
theorem keepI_twice (ins outs : List (List Atm)) (l : List Itm) : keepI ins outs (keepI ins outs l) = keepI ins outs l := by
  unfold keepI
  rw [List.filter_filter]
  congr 1
  funext x
  exact Bool.and_self _
theorem keepI_mem {ins outs : List (List Atm)} {l : List Itm} {x : Itm} (h : x ∈ keepI ins outs l) : x ∈ l ∧ takM ins outs x.s (x.k == 1) = true := by
  unfold keepI at h
  exact List.mem_filter.1 h
theorem keepI_len (ins outs : List (List Atm)) (l : List Itm) : (keepI ins outs l).length ≤ l.length := List.length_filter_le _ _
set_option maxHeartbeats 8000000 in
theorem ftree_any (F : Array Value) (ins outs : List (List Atm)) (A : Option Addr) (c : Nat) (l : List Itm) (hl : l.length ≤ 100000) (hs : ∀ x ∈ l, x.s.size ≤ 10000) (h1 : SmallP ins) (h2 : SmallP outs) (w : World) (hF : FilV w (.agg F) ins outs) (hT : Tabs w) (hR : Itms w A l) :
    Calls Tryd.prog 8 #[.agg F, .slice A l.length c] w fun e w' => ∃ A' c', e = .returned (.slice A' (keepI ins outs l).length c') ∧ Itms w' A' (keepI ins outs l) ∧ Below w.heap.size w w' := by
  have hF2 : F.size = 2 := by obtain ⟨A1, c1, A2, c2, e, _⟩ := hF; cases e; rfl
  have hif := info_fil
  have hb1 := below_al w (.cells F 29)
  have hx1 := heap_alloc_new w (.cells F 29)
  have HFX := Lib.hid (hF.below hb1)
  have HTX := Lib.hid (hT.below hb1)
  have HB := Lib.hid hb1
  have HX := Lib.hid hx1
  have HCL := Lib.hid (cloneI_any A c l _ (hR.below hb1) (by omega))
  have HF2 := Lib.hid hF2
  have HS := Lib.hid hs
  have H1 := Lib.hid h1
  have H2 := Lib.hid h2
  clear hb1 hx1 hF hT hR hF2 hs h1 h2
  go_enter Tryd.func8, Tryd.ntmps8
  go_upto_region 1 with fail
  generalize hgf : w.heap.size = gf at *
  generalize w.alloc (.cells F 29) = w1 at *
  go_wp2_with fail
  refine HCL.out.mono ?_; rintro e w2 ⟨A2, c2, rfl, hc2, hN, hb2⟩
  have HP : Hid (∀ x ∈ l, ∀ w3, Below w1.heap.size w1 w3 → Calls Tryd.prog 14 #[.agg x.cells, .pointer (some ⟨gf, 0, none⟩)] w3 fun e w' => e = .returned (.bool (!takM ins outs x.s (x.k == 1))) ∧ Below w3.heap.size w3 w') := fun x hx w3 hb3 =>
    tree1_any gf F ins outs x.s x.k _ _ _ _ _ _ (HS.out x hx) H1.out H2.out w3 (HFX.out.below hb3) (HTX.out.below hb3) ((hb3.block gf (lt_of_block HX.out)).trans HX.out)
  have HB2 := Lib.hid hb2
  clear HCL hb2
  have hkeep : keepI ins outs l = l.filter (fun x => !(!takM ins outs x.s (x.k == 1))) := by
    unfold keepI
    congr 1
    funext x
    rw [Bool.not_not]
  have HK := Lib.hid hkeep
  clear hkeep
  rcases hN with rfl | ⟨g, rfl, hgB, hIO⟩
  · have HD := Lib.hid (deleteI_nil A2 c2 gf w2)
    go_wp2_with fail
    refine HD.out.mono ?_; rintro e w3 ⟨rfl, hb3⟩
    have HB3 := Lib.hid (below_then (below_then (by rw [hgf]; exact HB.out : Below w.heap.size w w1) HB2.out) hb3)
    clear hb3
    go_wp2_with fail
    go_ret
    exact ⟨A2, c2, rfl, Itms.nil _ _, by subst hgf; exact HB3.out⟩
  · have HD := Lib.hid (deleteI_any w1 (fun x => !takM ins outs x.s (x.k == 1)) l g c2 gf w2 hl hc2 hgB HP.out HB2.out hIO)
    rw [← HK.out] at HD
    clear hIO HP
    go_wp2_with fail
    refine HD.out.mono ?_; rintro e w3 ⟨rfl, hI3, hb3⟩
    have HB3 := Lib.hid (below_then (by rw [hgf]; exact HB.out : Below w.heap.size w w1) hb3)
    have HI3 := Lib.hid hI3.itms
    clear hb3 hI3
    go_wp2_with fail
    go_ret
    exact ⟨_, c2, rfl, HI3.out, by subst hgf; exact HB3.out⟩
end Go.Proofs.YtkakegeammajgaaDoor
