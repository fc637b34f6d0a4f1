/-
  Glob: Any.
-/
import Derived.Test.YtkakegeammajgaaDoorGlI
namespace Go.Proofs.YtkakegeammajgaaDoor
set_option maxRecDepth 100000
set_option linter.unusedSimpArgs false
open Go.RowKit Go.Joins Go.Deep

/-- Patterns, each with its answer for a text, in worlds that keep something. -/
def PatsM (I : World → Prop) (s : ByteArray) (ps : List (Value × Bool)) : Prop :=
  ∀ q ∈ ps, q.1.oneCell' = true ∧ ∀ w1, I w1 → Calls Tryd.prog 23 #[.agg #[q.1], .string s] w1 fun e w' => e = .returned (.bool q.2) ∧ Below w1.heap.size w1 w'
set_option maxHeartbeats 4000000 in
theorem clo_any (I : World → Prop) (hI : ∀ w1 w2, I w1 → Below w1.heap.size w1 w2 → I w2) (s : ByteArray) (V : Value) (b : Bool) (g : Nat) (w : World) (_ : V.oneCell' = true) (hM : ∀ w1, I w1 → Calls Tryd.prog 23 #[.agg #[V], .string s] w1 fun e w' => e = .returned (.bool b) ∧ Below w1.heap.size w1 w') (hw : I w) (hg : g < w.heap.size) (hc : w.cell? ⟨g, 0, none⟩ = some (.string s)) :
    Calls Tryd.prog 22 #[.agg #[V], .pointer (some ⟨g, 0, none⟩)] w fun e w' => e = .returned (.bool b) ∧ Below w.heap.size w w' := by
  have hip := info_pat
  have hb1 := below_al w (.cells #[V] 50)
  have HM := Lib.hid (hM _ (hI _ _ hw hb1))
  have c1 := (hb1.cell (p := ⟨g, 0, none⟩) hg).trans hc
  have HX := Lib.hid (heap_alloc_new w (.cells #[V] 50))
  have HB := Lib.hid hb1
  have hgn : g ≠ w.heap.size := by omega
  clear hI hM hw hc hb1
  go_enter Tryd.func22, Tryd.ntmps22
  go_upto_region 1 with fail
  generalize hgp : w.heap.size = gp at *
  generalize w.alloc (.cells #[V] 50) = w1 at *
  have d0 := (cell_of_row _ _ 0 _ _ _ HX.out).trans (show _ = some V from rfl)
  go_wp2_with fail
  refine HM.out.mono ?_; rintro e w2 ⟨rfl, hb2⟩
  have HB2 := Lib.hid (HB.out.trans (hb2.mono (by rw [← hgp]; exact HB.out.size)))
  clear hb2
  go_wp2_with fail
  go_ret
  exact ⟨rfl, by rw [hgp]; exact HB2.out⟩
set_option maxHeartbeats 4000000 in
theorem indexP_any (I : World → Prop) (hI : ∀ w1 w2, I w1 → Below w1.heap.size w1 w2 → I w2) (s : ByteArray) (ps : List (Value × Bool)) (A : Option Addr) (c g : Nat) (w : World) (hP : PatsM I s ps) (hl : ps.length ≤ 1000) (hA : 0 < ps.length → ∃ b off, A = some ⟨b, off, none⟩ ∧ b < w.heap.size ∧ ∀ (i : Nat) q, ps[i]? = some q → w.cell? ⟨b, off + i, none⟩ = some q.1) (hw : I w) (hg : g < w.heap.size) (hc : w.cell? ⟨g, 0, none⟩ = some (.string s)) :
    Calls Tryd.prog 26 #[.slice A ps.length c, .func (.func 22) #[] #[.pointer (some ⟨g, 0, none⟩)]] w fun e w' => ∃ ix : Int, e = .returned (.int .i64 ix) ∧ decide (0 ≤ ix) = ps.any (fun q => q.2) ∧ Below w.heap.size w w' := by
  have hip := info_pat
  have HP := Lib.hid hP
  have HA := Lib.hid hA
  have HI := Lib.hid hI
  have HW := Lib.hid hw
  have HC := Lib.hid hc
  clear hP hA hI hw hc
  go_enter Tryd.func26, Tryd.ntmps26
  go_wp2_with fail
  go_loopw [5, 8] (fun _ i wr => ∃ k : Nat, k ≤ ps.length ∧ i = .int .i64 (k : Nat) ∧ Hid ((ps.take k).any (fun q => q.2) = false) ∧ Hid (Below w.heap.size w wr)) (fun _ i _ => ps.length - (intOf i).toNat)
  case atStart => exact ⟨0, Nat.zero_le _, rfl, by show List.any [] _ = _; rfl, Below.refl _ _⟩
  case round =>
    obtain ⟨k, hk, rfl, HF, HB⟩ := hrel
    by_cases hlt : k < ps.length
    · obtain ⟨b, off, rfl, hb, hcc⟩ := HA.out (by omega)
      have c0 := hcc k ps[k] (List.getElem?_eq_getElem hlt)
      have HQ := Lib.hid (any_take ps (fun q => q.2) k hlt)
      have HMm := Lib.hid (List.getElem_mem hlt)
      have hpq := HP.out ps[k] (List.getElem_mem hlt)
      have d0 := (HB.out.cell (p := ⟨b, off + k, none⟩) hb).trans c0
      clear c0 hcc
      generalize ps[k] = q at *
      obtain ⟨V, F⟩ := q
      dsimp only at hpq d0 HQ
      have hV := hpq.1
      have HCL := Lib.hid (clo_any I HI.out s V F g wr hpq.1 hpq.2 (HI.out _ _ HW.out HB.out) (Nat.lt_of_lt_of_le hg HB.out.size) ((HB.out.cell (p := ⟨g, 0, none⟩) hg).trans HC.out))
      clear hpq
      go_wp2_with fail
      refine HCL.out.mono ?_; rintro e w5 ⟨rfl, hb5⟩
      have HB5 := Lib.hid (below_then HB.out hb5)
      clear hb5
      cases F with
      | true =>
        go_wp2_with fail
        go_ret
        refine ⟨(k : Nat), rfl, ?_, HB5.out⟩
        rw [decide_eq_true (by omega)]
        exact (List.any_eq_true.2 ⟨(V, true), HMm.out, rfl⟩).symm
      | false =>
        go_wp2_with fail
        go_roundw
        case rel => exact ⟨k + 1, by omega, by go_num, by show _ = _; rw [HQ.out, HF.out]; rfl, HB5⟩
        case measure => simp [intOf]; omega
    · obtain rfl : k = ps.length := by omega
      go_wp2_with fail
      go_ret
      refine ⟨-1, rfl, ?_, HB.out⟩
      have h := HF.out
      rw [List.take_length] at h
      exact h.symm
set_option maxHeartbeats 4000000 in
/-- Is a text one of some patterns'? -/
theorem any_any (I : World → Prop) (hI : ∀ w1 w2, I w1 → Below w1.heap.size w1 w2 → I w2) (s : ByteArray) (ps : List (Value × Bool)) (A : Option Addr) (c : Nat) (w : World) (hP : PatsM I s ps) (hl : ps.length ≤ 1000) (hA : 0 < ps.length → ∃ b off, A = some ⟨b, off, none⟩ ∧ b < w.heap.size ∧ ∀ (i : Nat) q, ps[i]? = some q → w.cell? ⟨b, off + i, none⟩ = some q.1) (hw : I w) :
    Calls Tryd.prog 19 #[.slice A ps.length c, .string s] w fun e w' => e = .returned (.bool (ps.any (fun q => q.2))) ∧ Below w.heap.size w w' := by
  have hb0 := below_al w (.cells #[.string s] 9)
  have hx0 := heap_alloc_new w (.cells #[.string s] 9)
  have HX := Lib.hid (indexP_any I hI s ps A c w.heap.size (w.alloc (.cells #[.string s] 9)) hP hl (fun h0 => by
    obtain ⟨b, off, e, hb, hcc⟩ := hA h0
    exact ⟨b, off, e, Nat.lt_of_lt_of_le hb hb0.size, fun i q hq => (hb0.cell (p := ⟨b, off + i, none⟩) hb).trans (hcc i q hq)⟩) (hI _ _ hw hb0) (lt_of_block hx0) ((cell_of_row _ _ 0 _ _ _ hx0).trans rfl))
  have HB := Lib.hid hb0
  clear hI hP hA hw hb0 hx0
  have HCF : Hid (Calls Tryd.prog 21 #[.slice A ps.length c, .func (.func 22) #[] #[.pointer (some ⟨w.heap.size, 0, none⟩)]] (w.alloc (.cells #[.string s] 9)) fun e w' => e = .returned (.bool (ps.any (fun q => q.2))) ∧ Below (w.alloc (.cells #[.string s] 9)).heap.size (w.alloc (.cells #[.string s] 9)) w') := by
    show Calls _ _ _ _ _
    generalize w.alloc (.cells #[.string s] 9) = w1 at *
    generalize w.heap.size = g at *
    go_enter Tryd.func21, Tryd.ntmps21
    go_wp2_with fail
    refine HX.out.mono ?_; rintro e w2 ⟨ix, rfl, hx, hb⟩
    have HXX := Lib.hid hx
    have HB2 := Lib.hid hb
    clear hx hb
    go_wp2_with fail
    go_ret
    exact ⟨by rw [← HXX.out]; rfl, HB2.out⟩
  go_enter Tryd.func19, Tryd.ntmps19
  go_wp2_with fail
  refine HCF.out.mono ?_; rintro e w2 ⟨rfl, hb⟩
  have HB2 := Lib.hid (below_then HB.out hb)
  clear hb
  go_wp2_with fail
  go_ret
  exact ⟨rfl, HB2.out⟩
end Go.Proofs.YtkakegeammajgaaDoor
