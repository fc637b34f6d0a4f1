/-
  Filter: Make.
-/
import Derived.Test.YtkakegeammajgaaDoorFiC
import Derived.Laws.ResultCell
import Derived.Laws.Rows
namespace Go.Proofs.YtkakegeammajgaaDoor
set_option maxRecDepth 100000
set_option linter.unusedSimpArgs false
set_option linter.unusedVariables false
open Go.RowKit Go.Joins Go.Deep
open Go.Lib hiding intOf
theorem results_ct_row {P : Program} {fn : Func} {p u : Tmp} {ty : TypeId} (h : fn.results = #[.cell p ty, .tmp u]) (tmps : Array Value) (w : World) (g : Nat) (t : TypeId) (cs : Array Value) (fr : Nat × Nat) (d : TypeDesc)
    (hp : tmps.getD p undef = .pointer (some ⟨g, 0, none⟩)) (hg : w.heap[g]? = some (.cells cs t fr))
    (hu : P.underlying ty = some d) (hd : (match d with | .struct _ | .array _ _ => true | _ => false) = true) (hi : (P.info? ty).map (·.size) = some cs.size) :
    (results fn tmps).run P w = .ok (.tuple #[.agg cs, tmps.getD u undef]) w := by
  rw [results_cell_tmp h, hp]
  simp [asAddr, run_loadVar_row w g t ty cs fr d hg hu hd hi, Result.andThen]
/-- What Make answers. -/
def MakR (w : World) (ssi sso : List ByteArray) (e : Ending) (w' : World) : Prop :=
  ((∃ s ∈ ssi ++ sso, cmp1 s = none) ∧ e = .returned (.tuple #[.agg #[.slice none 0 0, .slice none 0 0], .int .i64 22]) ∧ Below w.heap.size w w') ∨
  (∃ ins outs A1 c1 A2 c2, ssi.map cmp1 = ins.map some ∧ sso.map cmp1 = outs.map some ∧ e = .returned (.tuple #[.agg #[.slice A1 ins.length c1, .slice A2 outs.length c2], .int .i64 0]) ∧ FilV w' (.agg #[.slice A1 ins.length c1, .slice A2 outs.length c2]) ins outs ∧ Below w.heap.size w w')
theorem two_set {w : World} {g : Nat} {a b x y : Value} {T : TypeId} (h : w.heap[g]? = some (.cells #[a, b] T (0, 0))) : ((w.setCell ⟨g, 0, none⟩ x).setCell ⟨g, 1, none⟩ y).heap[g]? = some (.cells #[x, y] T (0, 0)) := by
  have h1 := heap_setCell_same w g 0 _ _ x h
  have h2 := heap_setCell_same _ g 1 _ _ y h1
  simpa using h2
set_option maxHeartbeats 8000000 in
theorem make_any (A1 A2 : Option Addr) (c1 c2 : Nat) (ssi sso : List ByteArray) (h1 : ssi.length ≤ 100) (h2 : sso.length ≤ 100) (hs1 : ∀ s ∈ ssi, s.size ≤ 65535) (hs2 : ∀ s ∈ sso, s.size ≤ 65535) (w : World) (hT1 : TxS w A1 ssi) (hT2 : TxS w A2 sso) :
    Calls Tryd.prog 7 #[.slice A1 ssi.length c1, .slice A2 sso.length c2] w (MakR w ssi sso) := by
  have hif := info_fil
  have hzf := zero_fil
  have hmx : decide ((100 : Int) < (if (ssi.length : Int) < (sso.length : Int) then (sso.length : Int) else (ssi.length : Int))) = false := decide_eq_false (by split <;> omega)
  have hb0 := below_al w (.cells #[.slice none 0 0, .slice none 0 0] 29)
  have hx0 := heap_alloc_new w (.cells #[.slice none 0 0, .slice none 0 0] 29)
  have HC1 := Lib.hid (fcompile_any A1 c1 ssi (by omega) hs1 _ (hT1.below hb0))
  have HC2 := Lib.hid (fun w1 (hb : Below w.heap.size w w1) => fcompile_any A2 c2 sso (by omega) hs2 w1 (hT2.below hb))
  have HB0 := Lib.hid hb0
  have HX0 := Lib.hid hx0
  clear hT1 hT2 hb0 hx0 hs1 hs2
  go_enter Tryd.func7, Tryd.ntmps7
  go_upto_region 1 with fail
  generalize w.alloc (.cells #[.slice none 0 0, .slice none 0 0] 29) = w1 at *
  have HG : Hid (w.heap.size = w.heap.size) := rfl
  have HLT : Hid (w.heap.size < w1.heap.size) := lt_of_block HX0.out
  go_wp2_with fail
  refine HC1.out.mono ?_; rintro e w2 hout
  rcases hout with ⟨hn, rfl, hb2⟩ | ⟨ins, A3, c3, hm1, hl1, rfl, hR1, hb2⟩
  · have HN := Lib.hid hn
    have HX2 := Lib.hid ((hb2.block _ HLT.out).trans HX0.out)
    have z0 := (cell_of_row _ _ 0 _ _ _ HX2.out).trans (show _ = some (Value.slice none 0 0) from rfl)
    have z1 := (cell_of_row _ _ 1 _ _ _ HX2.out).trans (show _ = some (Value.slice none 0 0) from rfl)
    have f0 := frozen_of_row _ _ 0 _ _ HX2.out
    have f1 := frozen_of_row _ _ 1 _ _ HX2.out
    have HB2 := Lib.hid (below_then HB0.out hb2)
    clear hn hb2 HC1 HC2
    go_wp2_with fail
    exact bodyPost_ret (results_ct_row rfl _ _ w.heap.size 29 #[.slice none 0 0, .slice none 0 0] (0, 0) _ rfl (two_set HX2.out) Tryd.underlying29 rfl info_fil) rfl (.inl ⟨by obtain ⟨s, h1, h2⟩ := HN.out; exact ⟨s, List.mem_append.2 (.inl h1), h2⟩, rfl, (HB2.out.setCell (p := ⟨w.heap.size, 0, none⟩) (Nat.le_refl _) _).setCell (p := ⟨w.heap.size, 1, none⟩) (Nat.le_refl _) _⟩)
  · have HB2 := Lib.hid (below_then HB0.out hb2)
    have HX2 := Lib.hid ((hb2.block _ HLT.out).trans HX0.out)
    have HR1 := Lib.hid hR1
    have HM1 := Lib.hid hm1
    have HL2 : Hid (w.heap.size < w2.heap.size) := Nat.lt_of_lt_of_le HLT.out hb2.size
    have HK2 := Lib.hid (HC2.out w2 HB2.out)
    clear hb2 hR1 hm1 HC1 HC2
    go_wp2_with fail
    refine HK2.out.mono ?_; rintro e w3 hout
    clear HK2
    rcases hout with ⟨hn, rfl, hb3⟩ | ⟨outs, A4, c4, hm2, hl2, rfl, hR2, hb3⟩
    · have HN := Lib.hid hn
      have HX3 := Lib.hid ((hb3.block _ HL2.out).trans HX2.out)
      have z0 := (cell_of_row _ _ 0 _ _ _ HX3.out).trans (show _ = some (Value.slice none 0 0) from rfl)
      have z1 := (cell_of_row _ _ 1 _ _ _ HX3.out).trans (show _ = some (Value.slice none 0 0) from rfl)
      have f0 := frozen_of_row _ _ 0 _ _ HX3.out
      have f1 := frozen_of_row _ _ 1 _ _ HX3.out
      have HB3 := Lib.hid (below_then HB2.out hb3)
      clear hn hb3
      go_wp2_with fail
      exact bodyPost_ret (results_ct_row rfl _ _ w.heap.size 29 #[.slice none 0 0, .slice none 0 0] (0, 0) _ rfl (two_set HX3.out) Tryd.underlying29 rfl info_fil) rfl (.inl ⟨by obtain ⟨s, h1, h2⟩ := HN.out; exact ⟨s, List.mem_append.2 (.inr h1), h2⟩, rfl, (HB3.out.setCell (p := ⟨w.heap.size, 0, none⟩) (Nat.le_refl _) _).setCell (p := ⟨w.heap.size, 1, none⟩) (Nat.le_refl _) _⟩)
    · have HX3 := Lib.hid ((hb3.block _ HL2.out).trans HX2.out)
      have z0 := (cell_of_row _ _ 0 _ _ _ HX3.out).trans (show _ = some (Value.slice none 0 0) from rfl)
      have z1 := (cell_of_row _ _ 1 _ _ _ HX3.out).trans (show _ = some (Value.slice none 0 0) from rfl)
      have f0 := frozen_of_row _ _ 0 _ _ HX3.out
      have f1 := frozen_of_row _ _ 1 _ _ HX3.out
      have HB3 := Lib.hid (below_then HB2.out hb3)
      have HR1' := Lib.hid (HR1.out.below hb3)
      have HR2 := Lib.hid hR2
      have HM2 := Lib.hid hm2
      have HY := Lib.hid (heap_setCell_same w3 w.heap.size 0 _ _ (.slice A3 ins.length c3) HX3.out)
      have HKG : Hid (KeepG w3 ((w3.setCell ⟨w.heap.size, 0, none⟩ (.slice A3 ins.length c3)).setCell ⟨w.heap.size, 1, none⟩ (.slice A4 outs.length c4))) := (keepG_set HX3.out (by decide) (by decide) (by decide) _).then (keepG_set HY.out (by decide) (by decide) (by decide) _)
      clear hb3 hR2 hm2
      go_wp2_with fail
      exact bodyPost_ret (results_ct_row rfl _ _ w.heap.size 29 #[.slice A3 ins.length c3, .slice A4 outs.length c4] (0, 0) _ rfl (two_set HX3.out) Tryd.underlying29 rfl info_fil) rfl (.inr ⟨ins, outs, A3, c3, A4, c4, HM1.out, HM2.out, rfl, ⟨A3, c3, A4, c4, rfl, HR1'.out.keep HKG.out, HR2.out.keep HKG.out, hl1, hl2⟩, (HB3.out.setCell (p := ⟨w.heap.size, 0, none⟩) (Nat.le_refl _) _).setCell (p := ⟨w.heap.size, 1, none⟩) (Nat.le_refl _) _⟩)
end Go.Proofs.YtkakegeammajgaaDoor
