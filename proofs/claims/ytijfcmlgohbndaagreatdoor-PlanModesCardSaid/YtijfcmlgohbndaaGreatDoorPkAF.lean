/-
  Contracts: laid, ParseStamp.
  Contracts: the document's ParseStamp; the two are one.
  ParseStamp: the program's answer is the document's.
  An entry's owner; the times that its fields tell.
-/
import Derived.Test.YtijfcmlgohbndaaGreatDoorPkAE
import Derived.Deep.DeepCutAuto
import Derived.Deep.CutBlock
import Derived.Laws.ResultCell
import Derived.Laws.Rows
import Derived.Deep.DeepMust

namespace Go.Proofs.YtijfcmlgohbndaaGreatDoor
set_option maxRecDepth 100000
open Go.RowKit Go.Joins

theorem results_ct_row {P : Program} {fn : Func} {p u : Tmp} {ty : TypeId} (h : fn.results = #[.cell p ty, .tmp u]) (tmps : Array Value) (w : World) (g : Nat) (t : TypeId) (cs : Array Value) (fr : Nat × Nat) (d : TypeDesc)
    (hp : tmps.getD p undef = .pointer (some ⟨g, 0, none⟩)) (hg : w.heap[g]? = some (.cells cs t fr))
    (hu : P.underlying ty = some d) (hd : (match d with | .struct _ | .array _ _ => true | _ => false) = true) (hi : (P.info? ty).map (·.size) = some cs.size) :
    (results fn tmps).run P w = .ok (.tuple #[.agg cs, tmps.getD u undef]) w := by
  rw [results_cell_tmp h, hp]
  simp [asAddr, run_loadVar_row w g t ty cs fr d hg hu hd hi, Result.andThen]

/-- A cursor of the call's own, its place within. -/
structure CX (w0 : World) (s : ByteArray) (a e : Nat) (w : World) : Prop where
  ci : CI w0 s a e w
  le : a ≤ s.size
theorem CX.drewN {w0 w : World} {s : ByteArray} {a e : Nat} (h : CX w0 s a e w) (n : Nat) : CX w0 s a e (w.drewN n) := ⟨h.ci.drewN n, h.le⟩
theorem over_cx (s : ByteArray) (w : World) :
    Calls Tryz.prog 54 #[.string s] w fun e w' => e = .returned (.pointer (some ⟨w.heap.size, 0, none⟩)) ∧ CX w s 0 0 w' := (over_ci s w).mono fun _ _ h => ⟨h.1, h.2, Nat.zero_le _⟩
theorem one_cx {w0 w : World} {s : ByteArray} {a e : Nat} (hs : s.size ≤ maxLen) (h : CX w0 s a e w) :
    Calls Tryz.prog 69 #[.pointer (some ⟨w0.heap.size, 0, none⟩)] w fun r w' => r = .returned (.int .u8 (numB s a e 1 : Nat)) ∧ CX w0 s (atB s a e (1 : Nat)) (errB s a e (1 : Nat)) w' :=
  (one_ci hs h.le h.ci).mono fun _ _ k => ⟨k.1, k.2, atB_le _ _ _ _ h.le⟩
theorem four_cx {w0 w : World} {s : ByteArray} {a e : Nat} (hs : s.size ≤ maxLen) (h : CX w0 s a e w) :
    Calls Tryz.prog 85 #[.pointer (some ⟨w0.heap.size, 0, none⟩)] w fun r w' => r = .returned (.int .u32 (numB s a e 4 : Nat)) ∧ CX w0 s (atB s a e (4 : Nat)) (errB s a e (4 : Nat)) w' ∧ w.grownBy w' (some w0.heap.size) :=
  (four_of _ s a e hs h.le w h.ci.cur).mono fun _ _ ⟨he, hc, hg⟩ => ⟨he, ⟨h.ci.grown hc hg, atB_le _ _ _ _ h.le⟩, hg⟩

theorem CX.set {w0 w : World} {s : ByteArray} {a e : Nat} (h : CX w0 s a e w) (g i : Nat) (v : Value) (hne : w0.heap.size ≠ g) (hB : w0.heap.size ≤ g) : CX w0 s a e (w.setCell ⟨g, i, none⟩ v) :=
  ⟨⟨(Below.heap_setCell _ _ _ _ hne).trans h.ci.cur, h.ci.bel.setCell hB _⟩, h.le⟩
theorem lt_of_heap {w : World} {g : Nat} {o : Obj} (h : w.heap[g]? = some o) : g < w.heap.size := by
  rcases Nat.lt_or_ge g w.heap.size with hlt | hge
  · exact hlt
  · rw [Array.getElem?_eq_none hge] at h; cases h
def toldN (F : Nat) (c : Bool) : Nat := if c then F % 2 else F % 8
theorem laid_any (F : Nat) (hF : F < 256) (c : Bool) (w : World) :
    Calls Tryz.prog 94 #[.int .u8 F, .bool c] w fun e w' => e = .returned (.int .u8 (toldN F c : Nat)) ∧ w = w' := by
  cases c with
  | true =>
    have h : bits .and .u8 (F : Int) 1 = ((F % 2 : Nat) : Int) := by
      have h := u8_and_nat F 1 hF (by omega)
      rw [Nat.and_one_is_mod] at h
      exact h
    go_enter Tryz.func94, Tryz.ntmps94
    go_wp2
    go_ret
    exact ⟨ret_eq (by first | exact h | rfl), rfl⟩
  | false =>
    have h : bits .and .u8 (F : Int) 7 = ((F % 8 : Nat) : Int) := by
      have h := u8_and_nat F 7 hF (by omega)
      rw [show F &&& 7 = F % 8 from Nat.and_two_pow_sub_one_eq_mod F 3] at h
      exact h
    go_enter Tryz.func94, Tryz.ntmps94
    go_wp2
    go_ret
    exact ⟨ret_eq (by first | exact h | rfl), rfl⟩

/-- A signed number of four bytes. -/
def sgn (n : Nat) : Int := if n < 2147483648 then (n : Int) else (n : Int) - 4294967296
theorem sgn_wrap (n : Nat) (h : n < 4294967296) : IntKind.i32.wrap (n : Int) = sgn n := by
  unfold sgn
  rw [IntKind.wrap_i32]
  split <;> omega
theorem wrap32_sgn (n : Nat) (h : n < 4294967296) : wrap32 (n : Int) = sgn n := by
  unfold sgn wrap32
  split <;> omega
def sA (s : ByteArray) (t : Bool) (a e : Nat) : Nat := if t = true then atB s a e (4 : Nat) else a
def sE (s : ByteArray) (t : Bool) (a e : Nat) : Nat := if t = true then errB s a e (4 : Nat) else e
def sV (s : ByteArray) (t : Bool) (a e : Nat) : Int := if t = true then sgn (numB s a e 4) else 0
theorem bit_facts (T : Nat) (hT : T < 8) : (bits .and .u8 (T : Int) 1 != 0) = decide (T % 2 = 1) ∧ (bits .and .u8 (T : Int) 2 != 0) = decide (T / 2 % 2 = 1) ∧ (bits .and .u8 (T : Int) 4 != 0) = decide (T / 4 % 2 = 1) := by
  have : T = 0 ∨ T = 1 ∨ T = 2 ∨ T = 3 ∨ T = 4 ∨ T = 5 ∨ T = 6 ∨ T = 7 := by omega
  rcases this with rfl | rfl | rfl | rfl | rfl | rfl | rfl | rfl <;> decide
theorem toldN_lt (F : Nat) (c : Bool) : toldN F c < 8 := by
  unfold toldN
  split <;> omega

theorem info_stamp : (Tryz.prog.info? 112).map (·.size) = some 4 := by kernel_rfl
theorem zero_stamp (w : World) : (zeroValue 112).run Tryz.prog w = .ok (.agg #[.int .u8 0, .int .i32 0, .int .i32 0, .int .i32 0]) w := by kernel_rfl
theorem four_one (a b c d : Int) : (#[Value.int .u8 a, .int .i32 b, .int .i32 c, .int .i32 d] : Array Value).all (·.oneCell') = true := by simp [Value.oneCell']
/-- What the walk keeps: the result's block, the cursor, the block of what is read. -/
structure SX (w w0 : World) (s : ByteArray) (X : Nat) (F : Nat) (a e : Nat) (v0 v1 v2 : Int) (wr : World) : Prop where
  cx : CX w0 s a e wr
  res : wr.heap[w.heap.size]? = some (.cells #[.int .u8 0, .int .i32 0, .int .i32 0, .int .i32 0] 112 (0, 0))
  row : wr.heap[X]? = some (.cells #[.int .u8 F, .int .i32 v0, .int .i32 v1, .int .i32 v2] 112 (0, 0))
  bel : Below w.heap.size w wr
theorem SX.ne {w w0 wr : World} {s : ByteArray} {X F a e : Nat} {v0 v1 v2 : Int} (h : SX w w0 s X F a e v0 v1 v2 wr) : w0.heap.size ≠ X := fun k => by
  have h1 := h.cx.ci.cur
  have h2 := h.row
  rw [← k] at h2
  unfold Cur at h1
  rw [h1] at h2
  have h3 := Option.some.inj h2
  injection h3 with h4 _ _
  have := congrArg Array.size h4
  simp at this

def spOut (s : ByteArray) (c : Bool) (F a e : Nat) (v0 v1 v2 : Int) : Value := if e = 0 ∧ F ≤ 7 ∧ (c = true ∨ a = s.size) then .tuple #[.agg #[.int .u8 F, .int .i32 v0, .int .i32 v1, .int .i32 v2], .int .i64 0] else .tuple #[.agg #[.int .u8 0, .int .i32 0, .int .i32 0, .int .i32 0], .int .i64 24]
set_option maxHeartbeats 1000000 in
theorem parseStamp_any (s : ByteArray) (c : Bool) (hs : s.size ≤ maxLen) {F a0 e0 T a1 e1 a2 e2 a3 e3 : Nat} {t0 t1 t2 : Bool} {v0 v1 v2 : Int}
    (hF : numB s 0 0 1 = F) (hA : atB s 0 0 (1 : Nat) = a0) (hE : errB s 0 0 (1 : Nat) = e0) (hT : toldN F c = T) (h0 : decide (T % 2 = 1) = t0) (h1 : decide (T / 2 % 2 = 1) = t1) (h2 : decide (T / 4 % 2 = 1) = t2)
    (hA0 : sA s t0 a0 e0 = a1) (hE0 : sE s t0 a0 e0 = e1) (hV0 : sV s t0 a0 e0 = v0)
    (hA1 : sA s t1 a1 e1 = a2) (hE1 : sE s t1 a1 e1 = e2) (hV1 : sV s t1 a1 e1 = v1)
    (hA2 : sA s t2 a2 e2 = a3) (hE2 : sE s t2 a2 e2 = e3) (hV2 : sV s t2 a2 e2 = v2) (w : World) :
    Calls Tryz.prog 65 #[.string s, .bool c] w fun e w' => e = .returned (spOut s c F a3 e3 v0 v1 v2) ∧ Below w.heap.size w w' := by
  have HL := Lib.hid hs
  have HZ := zero_stamp
  have hF8 : F < 256 := by rw [← hF]; exact numB_lt s 0 0 1
  have hT8 : T < 8 := by rw [← hT]; exact toldN_lt F c
  have b0 : (bits .and .u8 (T : Int) 1 != 0) = t0 := (bit_facts T hT8).1.trans h0
  have b1 : (bits .and .u8 (T : Int) 2 != 0) = t1 := (bit_facts T hT8).2.1.trans h1
  have b2 : (bits .and .u8 (T : Int) 4 != 0) = t2 := (bit_facts T hT8).2.2.trans h2
  have HF := Lib.hid hF; have HA := Lib.hid hA; have HE := Lib.hid hE; have HT := Lib.hid hT
  have HA0 := Lib.hid hA0; have HE0 := Lib.hid hE0; have HV0 := Lib.hid hV0
  have HA1 := Lib.hid hA1; have HE1 := Lib.hid hE1; have HV1 := Lib.hid hV1
  have HA2 := Lib.hid hA2; have HE2 := Lib.hid hE2; have HV2 := Lib.hid hV2
  clear hF hA hE hT h0 h1 h2 hA0 hE0 hV0 hA1 hE1 hV1 hA2 hE2 hV2
  go_enter Tryz.func65, Tryz.ntmps65
  go_wp2_with fail
  have hb := (Below.refl w.heap.size w).alloc (Nat.le_refl _) (.cells #[.int .u8 0, .int .i32 0, .int .i32 0, .int .i32 0] 112)
  have hr := heap_alloc_new w (.cells #[.int .u8 0, .int .i32 0, .int .i32 0, .int .i32 0] 112)
  have hlt : w.heap.size < (w.alloc (.cells #[.int .u8 0, .int .i32 0, .int .i32 0, .int .i32 0] 112)).heap.size := by simp
  generalize w.alloc (.cells #[.int .u8 0, .int .i32 0, .int .i32 0, .int .i32 0] 112) = w0 at *
  refine (over_cx s w0).mono ?_; rintro r wF ⟨rfl, C0⟩
  go_wp2_with fail
  refine (one_cx HL.out C0).mono ?_; rintro r x1 ⟨rfl, C1⟩
  rw [HF.out]
  rw [HA.out, HE.out] at C1
  have hres : x1.heap[w.heap.size]? = some (.cells #[.int .u8 0, .int .i32 0, .int .i32 0, .int .i32 0] 112 (0, 0)) := (C1.ci.bel.block _ hlt).trans hr
  have hbel : Below w.heap.size w x1 := hb.trans (C1.ci.bel.mono (Nat.le_of_lt hlt))
  have HB := Lib.hid hb; have HR := Lib.hid hr; have HRES := Lib.hid hres; have HBEL := Lib.hid hbel
  clear hb hr hres hbel C0
  go_wp2_with fail
  refine (laid_any F hF8 c _).mono ?_; rintro r xx ⟨rfl, rfl⟩
  rw [HT.out]
  have SS : Hid (SX w w0 s x1.heap.size F a0 e0 0 0 0 (x1.alloc (.cells #[.int .u8 F, .int .i32 0, .int .i32 0, .int .i32 0] 112))) :=
    ⟨⟨C1.ci.below ((Below.refl _ _).alloc (Nat.le_refl _) _), C1.le⟩, (Below.heap_alloc x1 _ _ (Nat.lt_of_lt_of_le hlt C1.ci.bel.size)).trans HRES.out, heap_alloc_new _ _, HBEL.out.alloc HBEL.out.size _⟩
  have HW : Hid (w.heap.size ≤ w0.heap.size) := Nat.le_of_lt hlt
  have HX : Hid (w.heap.size ≠ x1.heap.size ∧ w.heap.size ≤ x1.heap.size ∧ w0.heap.size ≤ x1.heap.size) := by
    have h1 := C1.ci.bel.size
    have h2 : w.heap.size < x1.heap.size := Nat.lt_of_lt_of_le hlt h1
    exact ⟨Nat.ne_of_lt h2, Nat.le_of_lt h2, h1⟩
  generalize x1.alloc (.cells #[.int .u8 F, .int .i32 0, .int .i32 0, .int .i32 0] 112) = wr at *
  generalize x1.heap.size = X at *
  clear C1 HRES HBEL HR HB HF HA HE HT
  go_upto_if 20 with fail
  go_cut [] from 9 (fun wx => SX w w0 s X F a1 e1 v0 0 0 wx)
  case first => as_aux_lemma =>
    have hne := SS.out.ne
    obtain ⟨cx, res, row, bel⟩ := SS.out
    have HV := HV0.out
    cases t0 with
    | true =>
      have EA : atB s a0 e0 (4 : Nat) = a1 := HA0.out
      have EE : errB s a0 e0 (4 : Nat) = e1 := HE0.out
      have EV : wrap32 ((numB s a0 e0 4 : Nat) : Int) = v0 := (wrap32_sgn _ (numB_lt s a0 e0 4)).trans HV
      have hq := numB_lt s a0 e0 4
      have hlt : w.heap.size ≠ w0.heap.size := fun k => by
        have h1 := cx.ci.cur
        have h2 := res
        rw [k] at h2
        unfold Cur at h1
        rw [h1] at h2
        have h3 := Option.some.inj h2
        injection h3 with h4 _ _
        have := congrArg Array.size h4
        simp at this
      have hX : X < wr.heap.size := lt_of_heap row
      have hR : w.heap.size < wr.heap.size := lt_of_heap res
      have HRX : Hid (w.heap.size ≠ X ∧ w.heap.size ≤ X) := ⟨HX.out.1, HX.out.2.1⟩
      have HCX := Lib.hid cx
      have HRES := Lib.hid res
      have HROW := Lib.hid row
      have HBEL := Lib.hid bel
      have HEA := Lib.hid EA
      have HEE := Lib.hid EE
      have HEV := Lib.hid EV
      have HNE := Lib.hid hne
      have HLT := Lib.hid hlt
      have HXL := Lib.hid hX
      have HRL := Lib.hid hR
      have HB0 := Lib.hid (show w.heap.size ≤ w0.heap.size by exact HW.out)
      clear res row bel EA EE EV HV cx hne hlt hX hR
      go_wp2_with fail
      refine (four_cx HL.out HCX.out).mono ?_; rintro r y1 ⟨rfl, C1, g1⟩
      rw [HEA.out, HEE.out] at C1
      have row1 : y1.heap[X]? = some (.cells #[.int .u8 F, .int .i32 0, .int .i32 0, .int .i32 0] 112 (0, 0)) := (g1.block X HXL.out (fun k => HNE.out (Option.some.inj k).symm)).trans HROW.out
      have res1 : y1.heap[w.heap.size]? = some (.cells #[.int .u8 0, .int .i32 0, .int .i32 0, .int .i32 0] 112 (0, 0)) := (g1.block _ HRL.out (fun k => HLT.out (Option.some.inj k))).trans HRES.out
      have bel1 := HBEL.out.grown g1 HBEL.out.size (fun k hk => by injection hk with hk; rw [← hk]; exact HB0.out)
      have f1 := frozen_of_row y1 X 1 _ _ row1
      have c1 : y1.cell? ⟨X, 1, none⟩ = some (.int .i32 0) := by rw [cell_of_row y1 X 1 _ _ _ row1]; rfl
      have HC1 := Lib.hid C1
      have HROW1 := Lib.hid row1
      have HRES1 := Lib.hid res1
      have HBEL1 := Lib.hid bel1
      clear C1 row1 res1 bel1 g1
      go_wp2_with fail
      go_meet
      refine ⟨HC1.out.set X _ _ HNE.out HX.out.2.2, ?_, ?_, HBEL1.out.setCell HRX.out.2 _⟩
      · rw [Below.heap_setCell _ _ _ _ HRX.out.1]; exact HRES1.out
      · rw [show wrap32 ((numB s a0 e0 4 : Nat) : Int) = v0 from HEV.out]
        exact heap_setCell_same y1 X 1 _ _ _ HROW1.out
    | false =>
      have EA : a0 = a1 := HA0.out
      have EE : e0 = e1 := HE0.out
      have EV : (0 : Int) = v0 := HV
      clear HV
      go_wp2_with fail
      go_meet
      subst EA EE EV
      exact ⟨cx, res, row, bel⟩
  case rest =>
  have SS0 := Lib.hid hcut
  clear hcut SS
  have SS := Lib.hid SS0.out
  clear SS0
  generalize wc = wr0 at *
  go_upto_if 27 with fail
  go_cut [] from 9 (fun wx => SX w w0 s X F a2 e2 v0 v1 0 wx)
  case first => as_aux_lemma =>
    have hne := SS.out.ne
    obtain ⟨cx, res, row, bel⟩ := SS.out
    have HV := HV1.out
    cases t1 with
    | true =>
      have EA : atB s a1 e1 (4 : Nat) = a2 := HA1.out
      have EE : errB s a1 e1 (4 : Nat) = e2 := HE1.out
      have EV : wrap32 ((numB s a1 e1 4 : Nat) : Int) = v1 := (wrap32_sgn _ (numB_lt s a1 e1 4)).trans HV
      have hq := numB_lt s a1 e1 4
      have hlt : w.heap.size ≠ w0.heap.size := fun k => by
        have h1 := cx.ci.cur
        have h2 := res
        rw [k] at h2
        unfold Cur at h1
        rw [h1] at h2
        have h3 := Option.some.inj h2
        injection h3 with h4 _ _
        have := congrArg Array.size h4
        simp at this
      have hX : X < wr0.heap.size := lt_of_heap row
      have hR : w.heap.size < wr0.heap.size := lt_of_heap res
      have HRX : Hid (w.heap.size ≠ X ∧ w.heap.size ≤ X) := ⟨HX.out.1, HX.out.2.1⟩
      have HCX := Lib.hid cx
      have HRES := Lib.hid res
      have HROW := Lib.hid row
      have HBEL := Lib.hid bel
      have HEA := Lib.hid EA
      have HEE := Lib.hid EE
      have HEV := Lib.hid EV
      have HNE := Lib.hid hne
      have HLT := Lib.hid hlt
      have HXL := Lib.hid hX
      have HRL := Lib.hid hR
      have HB0 := Lib.hid (show w.heap.size ≤ w0.heap.size by exact HW.out)
      clear res row bel EA EE EV HV cx hne hlt hX hR
      go_wp2_with fail
      refine (four_cx HL.out HCX.out).mono ?_; rintro r y1 ⟨rfl, C1, g1⟩
      rw [HEA.out, HEE.out] at C1
      have row1 : y1.heap[X]? = some (.cells #[.int .u8 F, .int .i32 v0, .int .i32 0, .int .i32 0] 112 (0, 0)) := (g1.block X HXL.out (fun k => HNE.out (Option.some.inj k).symm)).trans HROW.out
      have res1 : y1.heap[w.heap.size]? = some (.cells #[.int .u8 0, .int .i32 0, .int .i32 0, .int .i32 0] 112 (0, 0)) := (g1.block _ HRL.out (fun k => HLT.out (Option.some.inj k))).trans HRES.out
      have bel1 := HBEL.out.grown g1 HBEL.out.size (fun k hk => by injection hk with hk; rw [← hk]; exact HB0.out)
      have f1 := frozen_of_row y1 X 2 _ _ row1
      have c1 : y1.cell? ⟨X, 2, none⟩ = some (.int .i32 0) := by rw [cell_of_row y1 X 2 _ _ _ row1]; rfl
      have HC1 := Lib.hid C1
      have HROW1 := Lib.hid row1
      have HRES1 := Lib.hid res1
      have HBEL1 := Lib.hid bel1
      clear C1 row1 res1 bel1 g1
      go_wp2_with fail
      go_meet
      refine ⟨HC1.out.set X _ _ HNE.out HX.out.2.2, ?_, ?_, HBEL1.out.setCell HRX.out.2 _⟩
      · rw [Below.heap_setCell _ _ _ _ HRX.out.1]; exact HRES1.out
      · rw [show wrap32 ((numB s a1 e1 4 : Nat) : Int) = v1 from HEV.out]
        exact heap_setCell_same y1 X 2 _ _ _ HROW1.out
    | false =>
      have EA : a1 = a2 := HA1.out
      have EE : e1 = e2 := HE1.out
      have EV : (0 : Int) = v1 := HV
      clear HV
      go_wp2_with fail
      go_meet
      subst EA EE EV
      exact ⟨cx, res, row, bel⟩
  case rest =>
  have SS1 := Lib.hid hcut
  clear hcut SS
  have SS := Lib.hid SS1.out
  clear SS1
  generalize wc = wr1 at *
  go_upto_if 34 with fail
  go_cut [] from 9 (fun wx => SX w w0 s X F a3 e3 v0 v1 v2 wx)
  case first => as_aux_lemma =>
    have hne := SS.out.ne
    obtain ⟨cx, res, row, bel⟩ := SS.out
    have HV := HV2.out
    cases t2 with
    | true =>
      have EA : atB s a2 e2 (4 : Nat) = a3 := HA2.out
      have EE : errB s a2 e2 (4 : Nat) = e3 := HE2.out
      have EV : wrap32 ((numB s a2 e2 4 : Nat) : Int) = v2 := (wrap32_sgn _ (numB_lt s a2 e2 4)).trans HV
      have hq := numB_lt s a2 e2 4
      have hlt : w.heap.size ≠ w0.heap.size := fun k => by
        have h1 := cx.ci.cur
        have h2 := res
        rw [k] at h2
        unfold Cur at h1
        rw [h1] at h2
        have h3 := Option.some.inj h2
        injection h3 with h4 _ _
        have := congrArg Array.size h4
        simp at this
      have hX : X < wr1.heap.size := lt_of_heap row
      have hR : w.heap.size < wr1.heap.size := lt_of_heap res
      have HRX : Hid (w.heap.size ≠ X ∧ w.heap.size ≤ X) := ⟨HX.out.1, HX.out.2.1⟩
      have HCX := Lib.hid cx
      have HRES := Lib.hid res
      have HROW := Lib.hid row
      have HBEL := Lib.hid bel
      have HEA := Lib.hid EA
      have HEE := Lib.hid EE
      have HEV := Lib.hid EV
      have HNE := Lib.hid hne
      have HLT := Lib.hid hlt
      have HXL := Lib.hid hX
      have HRL := Lib.hid hR
      have HB0 := Lib.hid (show w.heap.size ≤ w0.heap.size by exact HW.out)
      clear res row bel EA EE EV HV cx hne hlt hX hR
      go_wp2_with fail
      refine (four_cx HL.out HCX.out).mono ?_; rintro r y1 ⟨rfl, C1, g1⟩
      rw [HEA.out, HEE.out] at C1
      have row1 : y1.heap[X]? = some (.cells #[.int .u8 F, .int .i32 v0, .int .i32 v1, .int .i32 0] 112 (0, 0)) := (g1.block X HXL.out (fun k => HNE.out (Option.some.inj k).symm)).trans HROW.out
      have res1 : y1.heap[w.heap.size]? = some (.cells #[.int .u8 0, .int .i32 0, .int .i32 0, .int .i32 0] 112 (0, 0)) := (g1.block _ HRL.out (fun k => HLT.out (Option.some.inj k))).trans HRES.out
      have bel1 := HBEL.out.grown g1 HBEL.out.size (fun k hk => by injection hk with hk; rw [← hk]; exact HB0.out)
      have f1 := frozen_of_row y1 X 3 _ _ row1
      have c1 : y1.cell? ⟨X, 3, none⟩ = some (.int .i32 0) := by rw [cell_of_row y1 X 3 _ _ _ row1]; rfl
      have HC1 := Lib.hid C1
      have HROW1 := Lib.hid row1
      have HRES1 := Lib.hid res1
      have HBEL1 := Lib.hid bel1
      clear C1 row1 res1 bel1 g1
      go_wp2_with fail
      go_meet
      refine ⟨HC1.out.set X _ _ HNE.out HX.out.2.2, ?_, ?_, HBEL1.out.setCell HRX.out.2 _⟩
      · rw [Below.heap_setCell _ _ _ _ HRX.out.1]; exact HRES1.out
      · rw [show wrap32 ((numB s a2 e2 4 : Nat) : Int) = v2 from HEV.out]
        exact heap_setCell_same y1 X 3 _ _ _ HROW1.out
    | false =>
      have EA : a2 = a3 := HA2.out
      have EE : e2 = e3 := HE2.out
      have EV : (0 : Int) = v2 := HV
      clear HV
      go_wp2_with fail
      go_meet
      subst EA EE EV
      exact ⟨cx, res, row, bel⟩
  case rest =>
  have SS2 := Lib.hid hcut
  clear hcut SS
  have SS := Lib.hid SS2.out
  clear SS2
  generalize wc = wr2 at *
  obtain ⟨cx, res, row, bel⟩ := SS.out
  have HCX := Lib.hid cx; have HRES := Lib.hid res; have HROW := Lib.hid row; have HBEL := Lib.hid bel
  have c0 : wr2.cell? ⟨X, 0, none⟩ = some (.int .u8 F) := by rw [cell_of_row wr2 X 0 _ _ _ row]; rfl
  clear res row bel cx HA0 HE0 HV0 HA1 HE1 HV1 HA2 HE2 HV2 SS
  go_wp2_with fail
  refine (err_ci HCX.out.ci).mono ?_; rintro r xx ⟨rfl, rfl⟩
  by_cases k0 : e3 = 0 ∧ F ≤ 7 ∧ (c = true ∨ a3 = s.size)
  · obtain ⟨k1, k2, k3⟩ := k0
    have HO : Hid (spOut s c F a3 e3 v0 v1 v2 = .tuple #[.agg #[.int .u8 F, .int .i32 v0, .int .i32 v1, .int .i32 v2], .int .i64 0]) := if_pos ⟨k1, k2, k3⟩
    subst k1
    cases c with
    | true =>
      clear k3
      go_wp2_with (first | (refine wpList_load_row rfl 112 (.tmp 7) rfl X rfl 112 _ (0, 0) _ HROW.out Tryz.underlying112 rfl info_stamp ?_) | (refine wpList_store_row rfl 112 (.tmp 4) (.tmp 57) rfl w.heap.size #[.int .u8 F, .int .i32 v0, .int .i32 v1, .int .i32 v2] rfl rfl 112 #[.int .u8 0, .int .i32 0, .int .i32 0, .int .i32 0] HRES.out info_stamp rfl (four_one _ _ _ _) ?_))
      exact bodyPost_ret (results_ct_row rfl _ _ w.heap.size 112 #[.int .u8 F, .int .i32 v0, .int .i32 v1, .int .i32 v2] (0, 0) _ rfl (setRow_heap _ _ _ _ _ _ HRES.out) Tryz.underlying112 rfl info_stamp) rfl ⟨by rw [HO.out]; rfl, below_setRow HBEL.out (Nat.le_refl _) _⟩
    | false =>
      have k4 : a3 = s.size := by simpa using k3
      have HLFT := Lib.hid (left_ci HL.out HCX.out.le HCX.out.ci)
      have k5 : decide ((0 : Int) < (s.size : Int) - a3) = false := decide_eq_false (by omega)
      have k6 : (s.size : Int) - a3 ≤ 0 := by omega
      clear k3 k4
      go_wp2_with fail
      refine (HLFT.out).mono ?_; rintro r xx ⟨rfl, d, rfl⟩
      go_wp2_with (first | (refine wpList_load_row rfl 112 (.tmp 7) rfl X rfl 112 #[.int .u8 F, .int .i32 v0, .int .i32 v1, .int .i32 v2] (0, 0) _ (show (wr2.drewN d).heap[X]? = _ from HROW.out) Tryz.underlying112 rfl info_stamp ?_) | (refine wpList_store_row rfl 112 (.tmp 4) (.tmp 57) rfl w.heap.size #[.int .u8 F, .int .i32 v0, .int .i32 v1, .int .i32 v2] rfl rfl 112 #[.int .u8 0, .int .i32 0, .int .i32 0, .int .i32 0] (by exact HRES.out) info_stamp rfl (four_one _ _ _ _) ?_))
      exact bodyPost_ret (results_ct_row rfl _ _ w.heap.size 112 #[.int .u8 F, .int .i32 v0, .int .i32 v1, .int .i32 v2] (0, 0) _ rfl (setRow_heap (wr2.drewN d) w.heap.size #[.int .u8 0, .int .i32 0, .int .i32 0, .int .i32 0] _ _ _ (show (wr2.drewN d).heap[w.heap.size]? = _ from HRES.out)) Tryz.underlying112 rfl info_stamp) rfl ⟨by rw [HO.out]; rfl, below_setRow (below_drewN HBEL.out d) (Nat.le_refl _) _⟩
  · have HO : Hid (spOut s c F a3 e3 v0 v1 v2 = .tuple #[.agg #[.int .u8 0, .int .i32 0, .int .i32 0, .int .i32 0], .int .i64 24]) := if_neg k0
    by_cases k1 : e3 = 0
    · by_cases k2 : F ≤ 7
      · have k3 : c = false ∧ ¬ a3 = s.size := by
          cases c with
          | true => exact (k0 ⟨k1, k2, .inl rfl⟩).elim
          | false => exact ⟨rfl, fun h => k0 ⟨k1, k2, .inr h⟩⟩
        obtain ⟨rfl, k4⟩ := k3
        subst k1
        have HLFT := Lib.hid (left_ci HL.out HCX.out.le HCX.out.ci)
        have hle := HCX.out.le
        have k5 : (0 : Int) < (s.size : Int) - a3 := by omega
        clear k0 k4
        go_wp2_with fail
        refine (HLFT.out).mono ?_; rintro r xx ⟨rfl, d, rfl⟩
        go_wp2_with (refine wpList_store_row rfl 112 (.tmp 4) (.tmp 56) rfl w.heap.size #[.int .u8 0, .int .i32 0, .int .i32 0, .int .i32 0] rfl rfl 112 #[.int .u8 0, .int .i32 0, .int .i32 0, .int .i32 0] (by exact HRES.out) info_stamp rfl (four_one _ _ _ _) ?_)
        exact bodyPost_ret (results_ct_row rfl _ _ w.heap.size 112 #[.int .u8 0, .int .i32 0, .int .i32 0, .int .i32 0] (0, 0) _ rfl (setRow_heap (wr2.drewN d) w.heap.size #[.int .u8 0, .int .i32 0, .int .i32 0, .int .i32 0] _ _ _ (show (wr2.drewN d).heap[w.heap.size]? = _ from HRES.out)) Tryz.underlying112 rfl info_stamp) rfl ⟨by rw [HO.out]; rfl, below_setRow (below_drewN HBEL.out d) (Nat.le_refl _) _⟩
      · subst k1
        have k3 : 7 < F := by omega
        clear k0 k2
        go_wp2_with (refine wpList_store_row rfl 112 (.tmp 4) (.tmp 56) rfl w.heap.size #[.int .u8 0, .int .i32 0, .int .i32 0, .int .i32 0] rfl rfl 112 #[.int .u8 0, .int .i32 0, .int .i32 0, .int .i32 0] HRES.out info_stamp rfl (four_one _ _ _ _) ?_)
        exact bodyPost_ret (results_ct_row rfl _ _ w.heap.size 112 #[.int .u8 0, .int .i32 0, .int .i32 0, .int .i32 0] (0, 0) _ rfl (setRow_heap _ _ _ _ _ _ HRES.out) Tryz.underlying112 rfl info_stamp) rfl ⟨by rw [HO.out]; rfl, below_setRow HBEL.out (Nat.le_refl _) _⟩
    · have k2 : ((e3 : Int) != 0) = true := by rw [bne_iff_ne]; omega
      clear k0 k1
      go_wp2_with (refine wpList_store_row rfl 112 (.tmp 4) (.tmp 56) rfl w.heap.size #[.int .u8 0, .int .i32 0, .int .i32 0, .int .i32 0] rfl rfl 112 #[.int .u8 0, .int .i32 0, .int .i32 0, .int .i32 0] HRES.out info_stamp rfl (four_one _ _ _ _) ?_)
      exact bodyPost_ret (results_ct_row rfl _ _ w.heap.size 112 #[.int .u8 0, .int .i32 0, .int .i32 0, .int .i32 0] (0, 0) _ rfl (setRow_heap _ _ _ _ _ _ HRES.out) Tryz.underlying112 rfl info_stamp) rfl ⟨by rw [HO.out]; rfl, below_setRow HBEL.out (Nat.le_refl _) _⟩
end Go.Proofs.YtijfcmlgohbndaaGreatDoor

namespace Go.Proofs.YtijfcmlgohbndaaGreatDoor
set_option maxRecDepth 100000
open Go.RowKit Go.Joins

theorem sgn_bd (n : Nat) (h : n < 4294967296) : -2147483648 ≤ sgn n ∧ sgn n ≤ 2147483647 := by
  unfold sgn
  split <;> omega
def sgnI (m : Int) : Int := if m < 2147483648 then m else m - 4294967296
theorem sgn_int (n : Nat) : sgn n = sgnI n := by
  unfold sgn sgnI
  split <;> split <;> omega
/-- Which times are told. -/
def tk (F : Nat) (c : Bool) (k : Nat) : Bool := decide (F / 2 ^ k % 2 = 1) && (decide (k = 0) || !c)
/-- Where a time stands. -/
def pk (F : Nat) (c : Bool) : Nat → Nat
  | 0 => 1
  | k + 1 => pk F c k + if tk F c k = true then 4 else 0
theorem pk_mono (F : Nat) (c : Bool) (j k : Nat) (h : j ≤ k) : pk F c j ≤ pk F c k := by
  induction k with
  | zero => obtain rfl : j = 0 := by omega
            exact Nat.le_refl _
  | succ k ih =>
    by_cases e : j = k + 1
    · rw [e]; exact Nat.le_refl _
    · have := ih (by omega)
      rw [pk]
      omega
theorem pk_bd (F : Nat) (c : Bool) (k : Nat) : 1 ≤ pk F c k ∧ pk F c k ≤ 1 + 4 * k := by
  induction k with
  | zero => exact ⟨Nat.le_refl _, Nat.le_refl _⟩
  | succ k ih =>
    rw [pk]
    split <;> omega
def vk (s : ByteArray) (F : Nat) (c : Bool) (k : Nat) : Int := if tk F c k = true then sgn (numL (((nums s).drop (pk F c k)).take 4)) else 0
def stOk (s : ByteArray) (F : Nat) (c : Bool) : Bool := decide (1 ≤ s.size ∧ F ≤ 7 ∧ pk F c 3 ≤ s.size ∧ (c = true ∨ pk F c 3 = s.size))
/-- What a stamp's bytes tell. -/
def stRes (s : ByteArray) (c : Bool) : Value :=
  let F := (nums s).getD 0 0
  if stOk s F c = true then .tuple #[.agg #[.int .u8 F, .int .i32 (vk s F c 0), .int .i32 (vk s F c 1), .int .i32 (vk s F c 2)], .int .i64 0] else .tuple #[.agg #[.int .u8 0, .int .i32 0, .int .i32 0, .int .i32 0], .int .i64 24]
theorem stRes_yes {s : ByteArray} {F : Nat} {c : Bool} (hF : (nums s).getD 0 0 = F) (h : 1 ≤ s.size ∧ F ≤ 7 ∧ pk F c 3 ≤ s.size ∧ (c = true ∨ pk F c 3 = s.size)) :
    stRes s c = .tuple #[.agg #[.int .u8 F, .int .i32 (vk s F c 0), .int .i32 (vk s F c 1), .int .i32 (vk s F c 2)], .int .i64 0] := by
  subst hF
  exact if_pos (decide_eq_true h)
theorem stRes_no {s : ByteArray} {F : Nat} {c : Bool} (hF : (nums s).getD 0 0 = F) (h : ¬ (1 ≤ s.size ∧ F ≤ 7 ∧ pk F c 3 ≤ s.size ∧ (c = true ∨ pk F c 3 = s.size))) :
    stRes s c = .tuple #[.agg #[.int .u8 0, .int .i32 0, .int .i32 0, .int .i32 0], .int .i64 24] := by
  subst hF
  exact if_neg (by unfold stOk; rw [decide_eq_true_iff]; exact h)

/-- The values that are laid behind k rounds. -/
def lk (s : ByteArray) (F : Nat) (c : Bool) (k j : Nat) : Int := if j < k then vk s F c j else 0
theorem lk_set (s : ByteArray) (F : Nat) (c : Bool) (k : Nat) (hk : k < 3) (T : Value) : (#[T, .int .i32 (lk s F c k 0), .int .i32 (lk s F c k 1), .int .i32 (lk s F c k 2)] : Array Value).setIfInBounds (1 + k) (.int .i32 (vk s F c k)) = #[T, .int .i32 (lk s F c (k + 1) 0), .int .i32 (lk s F c (k + 1) 1), .int .i32 (lk s F c (k + 1) 2)] := by
  have : k = 0 ∨ k = 1 ∨ k = 2 := by omega
  rcases this with rfl | rfl | rfl <;> simp [lk]
theorem lk_same (s : ByteArray) (F : Nat) (c : Bool) (k j : Nat) (h : tk F c k = false) : lk s F c (k + 1) j = lk s F c k j := by
  unfold lk
  by_cases h1 : j < k
  · rw [if_pos h1, if_pos (by omega)]
  · rw [if_neg h1]
    by_cases h2 : j = k
    · subst h2
      rw [if_pos (by omega)]
      unfold vk
      rw [h]
      rfl
    · rw [if_neg (by omega)]

end Go.Proofs.YtijfcmlgohbndaaGreatDoor

namespace Go.Proofs.YtijfcmlgohbndaaGreatDoor
set_option maxRecDepth 100000
open Go.RowKit Go.Joins

/-! ### the program's answer is the document's -/
theorem ite_true4 : (if true = true then 4 else 0) = 4 := rfl
theorem stA_yes {s : ByteArray} {t : Bool} {a : Nat} (h : a + (if t = true then 4 else 0) ≤ s.size) : sA s t a 0 = a + (if t = true then 4 else 0) ∧ sE s t a 0 = 0 ∧ sV s t a 0 = if t = true then sgn (numL (((nums s).drop a).take 4)) else 0 := by
  cases t with
  | true =>
    rw [ite_true4] at h ⊢
    have e1 : sA s true a 0 = atB s a 0 (4 : Nat) := if_pos rfl
    have e2 : sE s true a 0 = errB s a 0 (4 : Nat) := if_pos rfl
    have e3 : sV s true a 0 = sgn (numB s a 0 4) := if_pos rfl
    have e4 : numB s a 0 4 = numL (((nums s).drop a).take 4) := by unfold numB; rw [nums_piece s a 4 h]
    rw [e1, e2, e3, e4, atB_yes s a 4 h, errB_yes s a 4 h, if_pos rfl]
    exact ⟨rfl, rfl, rfl⟩
  | false => exact ⟨if_neg (by decide), if_neg (by decide), (if_neg (by decide)).trans (if_neg (by decide)).symm⟩
theorem stE_zero {s : ByteArray} {t : Bool} {a e : Nat} (ha : a ≤ s.size) (h : sE s t a e = 0) : e = 0 ∧ a + (if t = true then 4 else 0) ≤ s.size := by
  cases t with
  | true =>
    obtain ⟨h1, _, h3, _⟩ := errB_zero (show errB s a e (4 : Nat) = 0 from h)
    exact ⟨h1, h3⟩
  | false => exact ⟨h, ha⟩
theorem sA_le {s : ByteArray} {t : Bool} {a e : Nat} (ha : a ≤ s.size) : sA s t a e ≤ s.size := by
  cases t with
  | true => exact atB_le s a e _ ha
  | false => exact ha
theorem told_tk (F : Nat) (c : Bool) : decide (toldN F c % 2 = 1) = tk F c 0 ∧ decide (toldN F c / 2 % 2 = 1) = tk F c 1 ∧ decide (toldN F c / 4 % 2 = 1) = tk F c 2 := by
  unfold tk toldN
  cases c with
  | true => 
    refine ⟨?_, ?_, ?_⟩
    · simp
    · simp
      try omega
    · simp
      try omega
  | false =>
    refine ⟨?_, ?_, ?_⟩ <;> simp <;> omega
theorem st_same (s : ByteArray) (c : Bool) {F a0 e0 a1 e1 a2 e2 a3 e3 : Nat} {v0 v1 v2 : Int}
    (hF : numB s 0 0 1 = F) (hA : atB s 0 0 (1 : Nat) = a0) (hE : errB s 0 0 (1 : Nat) = e0)
    (hA0 : sA s (tk F c 0) a0 e0 = a1) (hE0 : sE s (tk F c 0) a0 e0 = e1) (hV0 : sV s (tk F c 0) a0 e0 = v0)
    (hA1 : sA s (tk F c 1) a1 e1 = a2) (hE1 : sE s (tk F c 1) a1 e1 = e2) (hV1 : sV s (tk F c 1) a1 e1 = v1)
    (hA2 : sA s (tk F c 2) a2 e2 = a3) (hE2 : sE s (tk F c 2) a2 e2 = e3) (hV2 : sV s (tk F c 2) a2 e2 = v2) :
    spOut s c F a3 e3 v0 v1 v2 = stRes s c := by
  by_cases h1 : 1 ≤ s.size
  · have hF2 : (nums s).getD 0 0 = F := by rw [← hF]; exact (numB_one s 0 h1).symm
    have a0' : a0 = 1 := by rw [← hA]; exact atB_yes s 0 1 h1
    have e0' : e0 = 0 := by rw [← hE]; exact errB_yes s 0 1 h1
    subst a0' e0'
    have p1 : pk F c 1 = 1 + if tk F c 0 = true then 4 else 0 := rfl
    have p2 : pk F c 2 = pk F c 1 + if tk F c 1 = true then 4 else 0 := rfl
    have p3 : pk F c 3 = pk F c 2 + if tk F c 2 = true then 4 else 0 := rfl
    have m12 := pk_mono F c 1 2 (by omega)
    have m23 := pk_mono F c 2 3 (by omega)
    by_cases hp : pk F c 3 ≤ s.size
    · obtain ⟨x1, x2, x3⟩ := stA_yes (s := s) (t := tk F c 0) (a := 1) (by omega)
      have a1' : a1 = pk F c 1 := by rw [← hA0, x1, p1]
      have e1' : e1 = 0 := by rw [← hE0, x2]
      have v0' : v0 = vk s F c 0 := by rw [← hV0, x3]; rfl
      subst a1' e1'
      obtain ⟨y1, y2, y3⟩ := stA_yes (s := s) (t := tk F c 1) (a := pk F c 1) (by omega)
      have a2' : a2 = pk F c 2 := by rw [← hA1, y1, p2]
      have e2' : e2 = 0 := by rw [← hE1, y2]
      have v1' : v1 = vk s F c 1 := by rw [← hV1, y3]; rfl
      subst a2' e2'
      obtain ⟨z1, z2, z3⟩ := stA_yes (s := s) (t := tk F c 2) (a := pk F c 2) (by omega)
      have a3' : a3 = pk F c 3 := by rw [← hA2, z1, p3]
      have e3' : e3 = 0 := by rw [← hE2, z2]
      have v2' : v2 = vk s F c 2 := by rw [← hV2, z3]; rfl
      subst a3' e3' v0' v1' v2'
      by_cases hok : F ≤ 7 ∧ (c = true ∨ pk F c 3 = s.size)
      · rw [stRes_yes hF2 ⟨h1, hok.1, hp, hok.2⟩]
        exact if_pos ⟨rfl, hok.1, hok.2⟩
      · rw [stRes_no hF2 (fun h => hok ⟨h.2.1, h.2.2.2⟩)]
        exact if_neg (fun h => hok ⟨h.2.1, h.2.2⟩)
    · rw [stRes_no hF2 (fun h => hp h.2.2.1)]
      refine if_neg (fun h => hp ?_)
      have b1 : a1 ≤ s.size := by rw [← hA0]; exact sA_le h1
      have b2 : a2 ≤ s.size := by rw [← hA1]; exact sA_le b1
      have he3 : e3 = 0 := h.1
      rw [he3] at hE2
      obtain ⟨q2, w2⟩ := stE_zero b2 hE2
      rw [q2] at hE1
      obtain ⟨q1, w1⟩ := stE_zero b1 hE1
      rw [q1] at hE0
      obtain ⟨_, w0⟩ := stE_zero h1 hE0
      obtain ⟨x1, _, _⟩ := stA_yes (s := s) (t := tk F c 0) (a := 1) w0
      have a1' : a1 = pk F c 1 := by rw [← hA0, x1, p1]
      rw [a1'] at w1
      obtain ⟨y1, _, _⟩ := stA_yes (s := s) (t := tk F c 1) (a := pk F c 1) w1
      have a2' : a2 = pk F c 2 := by rw [← hA1, a1', q1, y1, p2]
      rw [a2'] at w2
      omega
  · rw [stRes_no rfl (fun h => h1 h.1)]
    refine if_neg (fun h => h1 ?_)
    have e0n : e0 = 3 := by
      rw [← hE]
      refine if_neg (fun k => h1 ?_)
      unfold mayB at k
      have := of_decide_eq_true k
      omega
    exfalso
    have key : ∀ t a, sE s t a 3 = 3 := fun t a => by
      cases t with
      | true =>
        refine (if_pos rfl).trans (if_neg (fun k => ?_))
        unfold mayB at k
        have := (of_decide_eq_true k).1
        omega
      | false => rfl
    rw [e0n, key] at hE0
    rw [← hE0, key] at hE1
    rw [← hE1, key] at hE2
    have := h.1
    omega
theorem parseStamp_st (s : ByteArray) (c : Bool) (hs : s.size ≤ maxLen) (w : World) :
    Calls Tryz.prog 65 #[.string s, .bool c] w fun e w' => e = .returned (stRes s c) ∧ Below w.heap.size w w' := by
  obtain ⟨t0, t1, t2⟩ := told_tk (numB s 0 0 1) c
  have h := parseStamp_any s c hs rfl rfl rfl rfl t0 t1 t2 rfl rfl rfl rfl rfl rfl rfl rfl rfl w
  rw [st_same s c rfl rfl rfl rfl rfl rfl rfl rfl rfl rfl rfl rfl] at h
  exact h
end Go.Proofs.YtijfcmlgohbndaaGreatDoor

namespace Go.Proofs.YtijfcmlgohbndaaGreatDoor
set_option maxRecDepth 100000
set_option linter.unusedSimpArgs false
set_option linter.unusedVariables false
open Go.RowKit Go.Joins Go.Deep
def oTri (s : ByteArray) : Int × Int × Int := if oOk s = true then (if oFit s = true then ((oU s : Nat), (oG s : Nat), 0) else (0, 0, 8)) else (0, 0, 24)
theorem oRes_tri (s : ByteArray) : oRes s = .tuple #[.int .u32 (oTri s).1, .int .u32 (oTri s).2.1, .int .i64 (oTri s).2.2] := by
  unfold oRes oTri
  split
  · split <;> rfl
  · rfl
def oldTri (s : ByteArray) : Int × Int × Int := if s.size = 0 then (0, 0, 0) else if s.size = 4 then ((numL ((nums s).take 2) : Nat), (numL ((nums s).drop 2) : Nat), 0) else (0, 0, 24)
theorem oldRes_tri (s : ByteArray) : oldRes s = .tuple #[.int .u32 (oldTri s).1, .int .u32 (oldTri s).2.1, .int .i64 (oldTri s).2.2] := by
  unfold oldRes oldTri
  split
  · rfl
  · split <;> rfl
/-- The owner that fields tell, or an error. -/
def ownTri (l : List Fd) : Int × Int × Int := if fndB l 30837 = true then oTri (fndD l 30837) else oldTri (fndD l 30805)
set_option maxHeartbeats 8000000 in
theorem owner_any (F : Array Value) (l1 l2 : List Fd) (h1 : l1.length ≤ 16384) (h2 : l2.length ≤ 16384) (w : World) (hF : FsV w F l1 l2) (hD : ∀ id, (fndD (l1 ++ l2) id).size ≤ maxLen) :
    Calls Tryz.prog 25 #[.agg F] w fun e w' => e = .returned (.tuple #[.int .u32 (ownTri (l1 ++ l2)).1, .int .u32 (ownTri (l1 ++ l2)).2.1, .int .i64 (ownTri (l1 ++ l2)).2.2]) ∧ Below w.heap.size w w' := by
  have HFI := Lib.hid (fun id w1 (hb : Below w.heap.size w w1) => findE_any F l1 l2 id h1 h2 w1 (hF.below hb))
  have HD := Lib.hid hD
  have hFF := hF
  obtain ⟨A1, c1, A2, c2, rfl, hf1, hn1, hf2, hn2⟩ := hF
  obtain ⟨V, hV⟩ : ∃ V, V = ownTri (l1 ++ l2) := ⟨_, rfl⟩
  rw [← hV]
  have HVT : Hid (fndB (l1 ++ l2) 30837 = true → V = oTri (fndD (l1 ++ l2) 30837)) := fun h => by rw [hV]; unfold ownTri; rw [if_pos h]
  have HVF : Hid (fndB (l1 ++ l2) 30837 = false → V = oldTri (fndD (l1 ++ l2) 30805)) := fun h => by rw [hV]; unfold ownTri; rw [h, if_neg (by decide)]
  generalize l1 ++ l2 = L at *
  generalize l1.length = n1 at *
  generalize l2.length = n2 at *
  clear hf1 hn1 hf2 hn2 hFF hD hV
  have HPO := Lib.hid (fun s hs w1 => by have h := parseOwner_any s hs w1; rw [oRes_tri] at h; exact h)
  have HPL := Lib.hid (fun s hs w1 => by have h := parseOld_any s hs w1; rw [oldRes_tri] at h; exact h)
  obtain ⟨w1, hw1⟩ : ∃ w1, w1 = w.alloc (.cells #[.slice A1 n1 c1, .slice A2 n2 c2] 69) := ⟨_, rfl⟩
  have HB1 : Hid (Below w.heap.size w w1) := by show Below _ _ _; rw [hw1]; exact (Below.refl _ _).alloc (Nat.le_refl _) _
  have HX1 : Hid (w1.heap[w.heap.size]? = some (.cells #[.slice A1 n1 c1, .slice A2 n2 c2] 69 (0, 0))) := by show _ = _; rw [hw1]; exact heap_alloc_new w _
  have HW1 := Lib.hid hw1
  have hir := info_fields
  clear hw1
  go_enter Tryz.func25, Tryz.ntmps25
  go_wp2_with fail
  rw [← HW1.out]
  clear HW1
  refine (HFI.out _ w1 HB1.out).mono ?_; rintro e w2 ⟨rfl, hb2⟩
  have HX2 := Lib.hid ((hb2.block _ (lt_of_block HX1.out)).trans HX1.out)
  have HB2 := Lib.hid (below_then HB1.out hb2)
  clear hb2 HX1 HB1
  generalize hB : fndB L 30837 = B at *
  have HBB := Lib.hid hB
  clear hB
  cases B with
  | true =>
    have HVV := Lib.hid (HVT.out rfl)
    have HP := Lib.hid (HPO.out _ (HD.out 30837))
    clear HPO HPL HVT HVF HFI HD
    generalize fndD L 30837 = D at *
    go_wp2_with fail
    refine (HP.out _).mono ?_; rintro e w3 ⟨rfl, hb3⟩
    have HB3 := Lib.hid (below_then HB2.out hb3)
    clear HP hb3 HB2
    rw [← HVV.out]
    obtain ⟨u, g, z⟩ := V
    go_wp2_with fail
    go_ret3
    exact ⟨rfl, HB3.out⟩
  | false =>
    have HVV := Lib.hid (HVF.out rfl)
    have HF2 := Lib.hid (HFI.out 30805 w2 HB2.out)
    have HP := Lib.hid (HPL.out _ (HD.out 30805))
    clear HPO HPL HVT HVF HFI HD
    generalize fndD L 30805 = D at *
    go_wp2_with (refine wpList_load_row rfl 69 (.tmp 1) rfl w.heap.size rfl 69 _ (0, 0) _ HX2.out Tryz.underlying69 rfl info_fields ?_)
    refine HF2.out.mono ?_; rintro e w3 ⟨rfl, hb3⟩
    have HB3 := Lib.hid (below_then HB2.out hb3)
    clear hb3 HB2 HF2
    go_wp2_with fail
    refine (HP.out _).mono ?_; rintro e w4 ⟨rfl, hb4⟩
    have HB4 := Lib.hid (below_then HB3.out hb4)
    clear HP hb4 HB3
    rw [← HVV.out]
    obtain ⟨u, g, z⟩ := V
    go_wp2_with fail
    go_ret3
    exact ⟨rfl, HB4.out⟩
end Go.Proofs.YtijfcmlgohbndaaGreatDoor
