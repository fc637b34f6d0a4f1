/-
  Contracts: laid, ParseStamp.
-/
import Derived.Test.YtjnoapbddifcpaaGreatDoorPkBH
import Derived.Deep.DeepCutAuto
import Derived.Deep.CutBlock
import Derived.Laws.ResultCell
import Derived.Laws.Rows
import Derived.Deep.DeepMust
namespace Go.Proofs.YtjnoapbddifcpaaGreatDoor
set_option maxRecDepth 100000
open Go.RowKit Go.Joins

theorem results_ct_row {P : Program} {fn : Func} {p u : Tmp} {ty : TypeId} (h : fn.results = #[.cell p ty, .tmp u]) (tmps : Array Value) (w : World) (g : Nat) (t : TypeId) (cs : Array Value) (fr : Nat × Nat) (d : TypeDesc)
    (hp : tmps.getD p undef = .pointer (some ⟨g, 0, none⟩)) (hg : w.heap[g]? = some (.cells cs t fr))
    (hu : P.underlying ty = some d) (hd : (match d with | .struct _ | .array _ _ => true | _ => false) = true) (hi : (P.info? ty).map (·.size) = some cs.size) :
    (results fn tmps).run P w = .ok (.tuple #[.agg cs, tmps.getD u undef]) w := by
  rw [results_cell_tmp h, hp]
  simp [asAddr, run_loadVar_row w g t ty cs fr d hg hu hd hi, Result.andThen]

/-- A cursor of the call's own, its place within. -/
structure CX (w0 : World) (s : ByteArray) (a e : Nat) (w : World) : Prop where
  ci : CI w0 s a e w
  le : a ≤ s.size
theorem CX.drewN {w0 w : World} {s : ByteArray} {a e : Nat} (h : CX w0 s a e w) (n : Nat) : CX w0 s a e (w.drewN n) := ⟨h.ci.drewN n, h.le⟩
theorem over_cx (s : ByteArray) (w : World) :
    Calls Tryz.prog 101 #[.string s] w fun e w' => e = .returned (.pointer (some ⟨w.heap.size, 0, none⟩)) ∧ CX w s 0 0 w' := (over_ci s w).mono fun _ _ h => ⟨h.1, h.2, Nat.zero_le _⟩
theorem one_cx {w0 w : World} {s : ByteArray} {a e : Nat} (hs : s.size ≤ maxLen) (h : CX w0 s a e w) :
    Calls Tryz.prog 116 #[.pointer (some ⟨w0.heap.size, 0, none⟩)] w fun r w' => r = .returned (.int .u8 (numB s a e 1 : Nat)) ∧ CX w0 s (atB s a e (1 : Nat)) (errB s a e (1 : Nat)) w' :=
  (one_ci hs h.le h.ci).mono fun _ _ k => ⟨k.1, k.2, atB_le _ _ _ _ h.le⟩
theorem four_cx {w0 w : World} {s : ByteArray} {a e : Nat} (hs : s.size ≤ maxLen) (h : CX w0 s a e w) :
    Calls Tryz.prog 146 #[.pointer (some ⟨w0.heap.size, 0, none⟩)] w fun r w' => r = .returned (.int .u32 (numB s a e 4 : Nat)) ∧ CX w0 s (atB s a e (4 : Nat)) (errB s a e (4 : Nat)) w' ∧ w.grownBy w' (some w0.heap.size) :=
  (four_of _ s a e hs h.le w h.ci.cur).mono fun _ _ ⟨he, hc, hg⟩ => ⟨he, ⟨h.ci.grown hc hg, atB_le _ _ _ _ h.le⟩, hg⟩

theorem CX.set {w0 w : World} {s : ByteArray} {a e : Nat} (h : CX w0 s a e w) (g i : Nat) (v : Value) (hne : w0.heap.size ≠ g) (hB : w0.heap.size ≤ g) : CX w0 s a e (w.setCell ⟨g, i, none⟩ v) :=
  ⟨⟨(Below.heap_setCell _ _ _ _ hne).trans h.ci.cur, h.ci.bel.setCell hB _⟩, h.le⟩
theorem lt_of_heap {w : World} {g : Nat} {o : Obj} (h : w.heap[g]? = some o) : g < w.heap.size := by
  rcases Nat.lt_or_ge g w.heap.size with hlt | hge
  · exact hlt
  · rw [Array.getElem?_eq_none hge] at h; cases h
def toldN (F : Nat) (c : Bool) : Nat := if c then F % 2 else F % 8
theorem laid_any (F : Nat) (hF : F < 256) (c : Bool) (w : World) :
    Calls Tryz.prog 155 #[.int .u8 F, .bool c] w fun e w' => e = .returned (.int .u8 (toldN F c : Nat)) ∧ w = w' := by
  cases c with
  | true =>
    have h : bits .and .u8 (F : Int) 1 = ((F % 2 : Nat) : Int) := by
      have h := u8_and_nat F 1 hF (by omega)
      rw [Nat.and_one_is_mod] at h
      exact h
    go_enter Tryz.func155, Tryz.ntmps155
    go_wp2
    go_ret
    exact ⟨ret_eq (by first | exact h | rfl), rfl⟩
  | false =>
    have h : bits .and .u8 (F : Int) 7 = ((F % 8 : Nat) : Int) := by
      have h := u8_and_nat F 7 hF (by omega)
      rw [show F &&& 7 = F % 8 from Nat.and_two_pow_sub_one_eq_mod F 3] at h
      exact h
    go_enter Tryz.func155, Tryz.ntmps155
    go_wp2
    go_ret
    exact ⟨ret_eq (by first | exact h | rfl), rfl⟩

/-- A signed number of four bytes. -/
def sgn (n : Nat) : Int := if n < 2147483648 then (n : Int) else (n : Int) - 4294967296
theorem sgn_wrap (n : Nat) (h : n < 4294967296) : IntKind.i32.wrap (n : Int) = sgn n := by
  unfold sgn
  rw [IntKind.wrap_i32]
  split <;> omega
theorem wrap32_sgn (n : Nat) (h : n < 4294967296) : wrap32 (n : Int) = sgn n := by
  unfold sgn wrap32
  split <;> omega
def sA (s : ByteArray) (t : Bool) (a e : Nat) : Nat := if t = true then atB s a e (4 : Nat) else a
def sE (s : ByteArray) (t : Bool) (a e : Nat) : Nat := if t = true then errB s a e (4 : Nat) else e
def sV (s : ByteArray) (t : Bool) (a e : Nat) : Int := if t = true then sgn (numB s a e 4) else 0
theorem bit_facts (T : Nat) (hT : T < 8) : (bits .and .u8 (T : Int) 1 != 0) = decide (T % 2 = 1) ∧ (bits .and .u8 (T : Int) 2 != 0) = decide (T / 2 % 2 = 1) ∧ (bits .and .u8 (T : Int) 4 != 0) = decide (T / 4 % 2 = 1) := by
  have : T = 0 ∨ T = 1 ∨ T = 2 ∨ T = 3 ∨ T = 4 ∨ T = 5 ∨ T = 6 ∨ T = 7 := by omega
  rcases this with rfl | rfl | rfl | rfl | rfl | rfl | rfl | rfl <;> decide
theorem toldN_lt (F : Nat) (c : Bool) : toldN F c < 8 := by
  unfold toldN
  split <;> omega

theorem info_stamp : (Tryz.prog.info? 163).map (·.size) = some 4 := by kernel_rfl
theorem zero_stamp (w : World) : (zeroValue 163).run Tryz.prog w = .ok (.agg #[.int .u8 0, .int .i32 0, .int .i32 0, .int .i32 0]) w := by kernel_rfl
theorem four_one (a b c d : Int) : (#[Value.int .u8 a, .int .i32 b, .int .i32 c, .int .i32 d] : Array Value).all (·.oneCell') = true := by simp [Value.oneCell']
/-- What the walk keeps: the result's block, the cursor, the block of what is read. -/
structure SX (w w0 : World) (s : ByteArray) (X : Nat) (F : Nat) (a e : Nat) (v0 v1 v2 : Int) (wr : World) : Prop where
  cx : CX w0 s a e wr
  res : wr.heap[w.heap.size]? = some (.cells #[.int .u8 0, .int .i32 0, .int .i32 0, .int .i32 0] 163 (0, 0))
  row : wr.heap[X]? = some (.cells #[.int .u8 F, .int .i32 v0, .int .i32 v1, .int .i32 v2] 163 (0, 0))
  bel : Below w.heap.size w wr
theorem SX.ne {w w0 wr : World} {s : ByteArray} {X F a e : Nat} {v0 v1 v2 : Int} (h : SX w w0 s X F a e v0 v1 v2 wr) : w0.heap.size ≠ X := fun k => by
  have h1 := h.cx.ci.cur
  have h2 := h.row
  rw [← k] at h2
  unfold Cur at h1
  rw [h1] at h2
  have h3 := Option.some.inj h2
  injection h3 with h4 _ _
  have := congrArg Array.size h4
  simp at this

def spOut (s : ByteArray) (c : Bool) (F a e : Nat) (v0 v1 v2 : Int) : Value := if e = 0 ∧ F ≤ 7 ∧ (c = true ∨ a = s.size) then .tuple #[.agg #[.int .u8 F, .int .i32 v0, .int .i32 v1, .int .i32 v2], .int .i64 0] else .tuple #[.agg #[.int .u8 0, .int .i32 0, .int .i32 0, .int .i32 0], .int .i64 24]
set_option maxHeartbeats 1000000 in
theorem parseStamp_any (s : ByteArray) (c : Bool) (hs : s.size ≤ maxLen) {F a0 e0 T a1 e1 a2 e2 a3 e3 : Nat} {t0 t1 t2 : Bool} {v0 v1 v2 : Int}
    (hF : numB s 0 0 1 = F) (hA : atB s 0 0 (1 : Nat) = a0) (hE : errB s 0 0 (1 : Nat) = e0) (hT : toldN F c = T) (h0 : decide (T % 2 = 1) = t0) (h1 : decide (T / 2 % 2 = 1) = t1) (h2 : decide (T / 4 % 2 = 1) = t2)
    (hA0 : sA s t0 a0 e0 = a1) (hE0 : sE s t0 a0 e0 = e1) (hV0 : sV s t0 a0 e0 = v0)
    (hA1 : sA s t1 a1 e1 = a2) (hE1 : sE s t1 a1 e1 = e2) (hV1 : sV s t1 a1 e1 = v1)
    (hA2 : sA s t2 a2 e2 = a3) (hE2 : sE s t2 a2 e2 = e3) (hV2 : sV s t2 a2 e2 = v2) (w : World) :
    Calls Tryz.prog 112 #[.string s, .bool c] w fun e w' => e = .returned (spOut s c F a3 e3 v0 v1 v2) ∧ Below w.heap.size w w' := by
  have HL := Lib.hid hs
  have HZ := zero_stamp
  have hF8 : F < 256 := by rw [← hF]; exact numB_lt s 0 0 1
  have hT8 : T < 8 := by rw [← hT]; exact toldN_lt F c
  have b0 : (bits .and .u8 (T : Int) 1 != 0) = t0 := (bit_facts T hT8).1.trans h0
  have b1 : (bits .and .u8 (T : Int) 2 != 0) = t1 := (bit_facts T hT8).2.1.trans h1
  have b2 : (bits .and .u8 (T : Int) 4 != 0) = t2 := (bit_facts T hT8).2.2.trans h2
  have HF := Lib.hid hF; have HA := Lib.hid hA; have HE := Lib.hid hE; have HT := Lib.hid hT
  have HA0 := Lib.hid hA0; have HE0 := Lib.hid hE0; have HV0 := Lib.hid hV0
  have HA1 := Lib.hid hA1; have HE1 := Lib.hid hE1; have HV1 := Lib.hid hV1
  have HA2 := Lib.hid hA2; have HE2 := Lib.hid hE2; have HV2 := Lib.hid hV2
  clear hF hA hE hT h0 h1 h2 hA0 hE0 hV0 hA1 hE1 hV1 hA2 hE2 hV2
  go_enter Tryz.func112, Tryz.ntmps112
  go_wp2_with fail
  have hb := (Below.refl w.heap.size w).alloc (Nat.le_refl _) (.cells #[.int .u8 0, .int .i32 0, .int .i32 0, .int .i32 0] 163)
  have hr := heap_alloc_new w (.cells #[.int .u8 0, .int .i32 0, .int .i32 0, .int .i32 0] 163)
  have hlt : w.heap.size < (w.alloc (.cells #[.int .u8 0, .int .i32 0, .int .i32 0, .int .i32 0] 163)).heap.size := by simp
  generalize w.alloc (.cells #[.int .u8 0, .int .i32 0, .int .i32 0, .int .i32 0] 163) = w0 at *
  refine (over_cx s w0).mono ?_; rintro r wF ⟨rfl, C0⟩
  go_wp2_with fail
  refine (one_cx HL.out C0).mono ?_; rintro r x1 ⟨rfl, C1⟩
  rw [HF.out]
  rw [HA.out, HE.out] at C1
  have hres : x1.heap[w.heap.size]? = some (.cells #[.int .u8 0, .int .i32 0, .int .i32 0, .int .i32 0] 163 (0, 0)) := (C1.ci.bel.block _ hlt).trans hr
  have hbel : Below w.heap.size w x1 := hb.trans (C1.ci.bel.mono (Nat.le_of_lt hlt))
  have HB := Lib.hid hb; have HR := Lib.hid hr; have HRES := Lib.hid hres; have HBEL := Lib.hid hbel
  clear hb hr hres hbel C0
  go_wp2_with fail
  refine (laid_any F hF8 c _).mono ?_; rintro r xx ⟨rfl, rfl⟩
  rw [HT.out]
  have SS : Hid (SX w w0 s x1.heap.size F a0 e0 0 0 0 (x1.alloc (.cells #[.int .u8 F, .int .i32 0, .int .i32 0, .int .i32 0] 163))) :=
    ⟨⟨C1.ci.below ((Below.refl _ _).alloc (Nat.le_refl _) _), C1.le⟩, (Below.heap_alloc x1 _ _ (Nat.lt_of_lt_of_le hlt C1.ci.bel.size)).trans HRES.out, heap_alloc_new _ _, HBEL.out.alloc HBEL.out.size _⟩
  have HW : Hid (w.heap.size ≤ w0.heap.size) := Nat.le_of_lt hlt
  have HX : Hid (w.heap.size ≠ x1.heap.size ∧ w.heap.size ≤ x1.heap.size ∧ w0.heap.size ≤ x1.heap.size) := by
    have h1 := C1.ci.bel.size
    have h2 : w.heap.size < x1.heap.size := Nat.lt_of_lt_of_le hlt h1
    exact ⟨Nat.ne_of_lt h2, Nat.le_of_lt h2, h1⟩
  generalize x1.alloc (.cells #[.int .u8 F, .int .i32 0, .int .i32 0, .int .i32 0] 163) = wr at *
  generalize x1.heap.size = X at *
  clear C1 HRES HBEL HR HB HF HA HE HT
  go_upto_if 20 with fail
  go_cut [] from 9 (fun wx => SX w w0 s X F a1 e1 v0 0 0 wx)
  case first => as_aux_lemma =>
    have hne := SS.out.ne
    obtain ⟨cx, res, row, bel⟩ := SS.out
    have HV := HV0.out
    cases t0 with
    | true =>
      have EA : atB s a0 e0 (4 : Nat) = a1 := HA0.out
      have EE : errB s a0 e0 (4 : Nat) = e1 := HE0.out
      have EV : wrap32 ((numB s a0 e0 4 : Nat) : Int) = v0 := (wrap32_sgn _ (numB_lt s a0 e0 4)).trans HV
      have hq := numB_lt s a0 e0 4
      have hlt : w.heap.size ≠ w0.heap.size := fun k => by
        have h1 := cx.ci.cur
        have h2 := res
        rw [k] at h2
        unfold Cur at h1
        rw [h1] at h2
        have h3 := Option.some.inj h2
        injection h3 with h4 _ _
        have := congrArg Array.size h4
        simp at this
      have hX : X < wr.heap.size := lt_of_heap row
      have hR : w.heap.size < wr.heap.size := lt_of_heap res
      have HRX : Hid (w.heap.size ≠ X ∧ w.heap.size ≤ X) := ⟨HX.out.1, HX.out.2.1⟩
      have HCX := Lib.hid cx
      have HRES := Lib.hid res
      have HROW := Lib.hid row
      have HBEL := Lib.hid bel
      have HEA := Lib.hid EA
      have HEE := Lib.hid EE
      have HEV := Lib.hid EV
      have HNE := Lib.hid hne
      have HLT := Lib.hid hlt
      have HXL := Lib.hid hX
      have HRL := Lib.hid hR
      have HB0 := Lib.hid (show w.heap.size ≤ w0.heap.size by exact HW.out)
      clear res row bel EA EE EV HV cx hne hlt hX hR
      go_wp2_with fail
      refine (four_cx HL.out HCX.out).mono ?_; rintro r y1 ⟨rfl, C1, g1⟩
      rw [HEA.out, HEE.out] at C1
      have row1 : y1.heap[X]? = some (.cells #[.int .u8 F, .int .i32 0, .int .i32 0, .int .i32 0] 163 (0, 0)) := (g1.block X HXL.out (fun k => HNE.out (Option.some.inj k).symm)).trans HROW.out
      have res1 : y1.heap[w.heap.size]? = some (.cells #[.int .u8 0, .int .i32 0, .int .i32 0, .int .i32 0] 163 (0, 0)) := (g1.block _ HRL.out (fun k => HLT.out (Option.some.inj k))).trans HRES.out
      have bel1 := HBEL.out.grown g1 HBEL.out.size (fun k hk => by injection hk with hk; rw [← hk]; exact HB0.out)
      have f1 := frozen_of_row y1 X 1 _ _ row1
      have c1 : y1.cell? ⟨X, 1, none⟩ = some (.int .i32 0) := by rw [cell_of_row y1 X 1 _ _ _ row1]; rfl
      have HC1 := Lib.hid C1
      have HROW1 := Lib.hid row1
      have HRES1 := Lib.hid res1
      have HBEL1 := Lib.hid bel1
      clear C1 row1 res1 bel1 g1
      go_wp2_with fail
      go_meet
      refine ⟨HC1.out.set X _ _ HNE.out HX.out.2.2, ?_, ?_, HBEL1.out.setCell HRX.out.2 _⟩
      · rw [Below.heap_setCell _ _ _ _ HRX.out.1]; exact HRES1.out
      · rw [show wrap32 ((numB s a0 e0 4 : Nat) : Int) = v0 from HEV.out]
        exact heap_setCell_same y1 X 1 _ _ _ HROW1.out
    | false =>
      have EA : a0 = a1 := HA0.out
      have EE : e0 = e1 := HE0.out
      have EV : (0 : Int) = v0 := HV
      clear HV
      go_wp2_with fail
      go_meet
      subst EA EE EV
      exact ⟨cx, res, row, bel⟩
  case rest =>
  have SS0 := Lib.hid hcut
  clear hcut SS
  have SS := Lib.hid SS0.out
  clear SS0
  generalize wc = wr0 at *
  go_upto_if 27 with fail
  go_cut [] from 9 (fun wx => SX w w0 s X F a2 e2 v0 v1 0 wx)
  case first => as_aux_lemma =>
    have hne := SS.out.ne
    obtain ⟨cx, res, row, bel⟩ := SS.out
    have HV := HV1.out
    cases t1 with
    | true =>
      have EA : atB s a1 e1 (4 : Nat) = a2 := HA1.out
      have EE : errB s a1 e1 (4 : Nat) = e2 := HE1.out
      have EV : wrap32 ((numB s a1 e1 4 : Nat) : Int) = v1 := (wrap32_sgn _ (numB_lt s a1 e1 4)).trans HV
      have hq := numB_lt s a1 e1 4
      have hlt : w.heap.size ≠ w0.heap.size := fun k => by
        have h1 := cx.ci.cur
        have h2 := res
        rw [k] at h2
        unfold Cur at h1
        rw [h1] at h2
        have h3 := Option.some.inj h2
        injection h3 with h4 _ _
        have := congrArg Array.size h4
        simp at this
      have hX : X < wr0.heap.size := lt_of_heap row
      have hR : w.heap.size < wr0.heap.size := lt_of_heap res
      have HRX : Hid (w.heap.size ≠ X ∧ w.heap.size ≤ X) := ⟨HX.out.1, HX.out.2.1⟩
      have HCX := Lib.hid cx
      have HRES := Lib.hid res
      have HROW := Lib.hid row
      have HBEL := Lib.hid bel
      have HEA := Lib.hid EA
      have HEE := Lib.hid EE
      have HEV := Lib.hid EV
      have HNE := Lib.hid hne
      have HLT := Lib.hid hlt
      have HXL := Lib.hid hX
      have HRL := Lib.hid hR
      have HB0 := Lib.hid (show w.heap.size ≤ w0.heap.size by exact HW.out)
      clear res row bel EA EE EV HV cx hne hlt hX hR
      go_wp2_with fail
      refine (four_cx HL.out HCX.out).mono ?_; rintro r y1 ⟨rfl, C1, g1⟩
      rw [HEA.out, HEE.out] at C1
      have row1 : y1.heap[X]? = some (.cells #[.int .u8 F, .int .i32 v0, .int .i32 0, .int .i32 0] 163 (0, 0)) := (g1.block X HXL.out (fun k => HNE.out (Option.some.inj k).symm)).trans HROW.out
      have res1 : y1.heap[w.heap.size]? = some (.cells #[.int .u8 0, .int .i32 0, .int .i32 0, .int .i32 0] 163 (0, 0)) := (g1.block _ HRL.out (fun k => HLT.out (Option.some.inj k))).trans HRES.out
      have bel1 := HBEL.out.grown g1 HBEL.out.size (fun k hk => by injection hk with hk; rw [← hk]; exact HB0.out)
      have f1 := frozen_of_row y1 X 2 _ _ row1
      have c1 : y1.cell? ⟨X, 2, none⟩ = some (.int .i32 0) := by rw [cell_of_row y1 X 2 _ _ _ row1]; rfl
      have HC1 := Lib.hid C1
      have HROW1 := Lib.hid row1
      have HRES1 := Lib.hid res1
      have HBEL1 := Lib.hid bel1
      clear C1 row1 res1 bel1 g1
      go_wp2_with fail
      go_meet
      refine ⟨HC1.out.set X _ _ HNE.out HX.out.2.2, ?_, ?_, HBEL1.out.setCell HRX.out.2 _⟩
      · rw [Below.heap_setCell _ _ _ _ HRX.out.1]; exact HRES1.out
      · rw [show wrap32 ((numB s a1 e1 4 : Nat) : Int) = v1 from HEV.out]
        exact heap_setCell_same y1 X 2 _ _ _ HROW1.out
    | false =>
      have EA : a1 = a2 := HA1.out
      have EE : e1 = e2 := HE1.out
      have EV : (0 : Int) = v1 := HV
      clear HV
      go_wp2_with fail
      go_meet
      subst EA EE EV
      exact ⟨cx, res, row, bel⟩
  case rest =>
  have SS1 := Lib.hid hcut
  clear hcut SS
  have SS := Lib.hid SS1.out
  clear SS1
  generalize wc = wr1 at *
  go_upto_if 34 with fail
  go_cut [] from 9 (fun wx => SX w w0 s X F a3 e3 v0 v1 v2 wx)
  case first => as_aux_lemma =>
    have hne := SS.out.ne
    obtain ⟨cx, res, row, bel⟩ := SS.out
    have HV := HV2.out
    cases t2 with
    | true =>
      have EA : atB s a2 e2 (4 : Nat) = a3 := HA2.out
      have EE : errB s a2 e2 (4 : Nat) = e3 := HE2.out
      have EV : wrap32 ((numB s a2 e2 4 : Nat) : Int) = v2 := (wrap32_sgn _ (numB_lt s a2 e2 4)).trans HV
      have hq := numB_lt s a2 e2 4
      have hlt : w.heap.size ≠ w0.heap.size := fun k => by
        have h1 := cx.ci.cur
        have h2 := res
        rw [k] at h2
        unfold Cur at h1
        rw [h1] at h2
        have h3 := Option.some.inj h2
        injection h3 with h4 _ _
        have := congrArg Array.size h4
        simp at this
      have hX : X < wr1.heap.size := lt_of_heap row
      have hR : w.heap.size < wr1.heap.size := lt_of_heap res
      have HRX : Hid (w.heap.size ≠ X ∧ w.heap.size ≤ X) := ⟨HX.out.1, HX.out.2.1⟩
      have HCX := Lib.hid cx
      have HRES := Lib.hid res
      have HROW := Lib.hid row
      have HBEL := Lib.hid bel
      have HEA := Lib.hid EA
      have HEE := Lib.hid EE
      have HEV := Lib.hid EV
      have HNE := Lib.hid hne
      have HLT := Lib.hid hlt
      have HXL := Lib.hid hX
      have HRL := Lib.hid hR
      have HB0 := Lib.hid (show w.heap.size ≤ w0.heap.size by exact HW.out)
      clear res row bel EA EE EV HV cx hne hlt hX hR
      go_wp2_with fail
      refine (four_cx HL.out HCX.out).mono ?_; rintro r y1 ⟨rfl, C1, g1⟩
      rw [HEA.out, HEE.out] at C1
      have row1 : y1.heap[X]? = some (.cells #[.int .u8 F, .int .i32 v0, .int .i32 v1, .int .i32 0] 163 (0, 0)) := (g1.block X HXL.out (fun k => HNE.out (Option.some.inj k).symm)).trans HROW.out
      have res1 : y1.heap[w.heap.size]? = some (.cells #[.int .u8 0, .int .i32 0, .int .i32 0, .int .i32 0] 163 (0, 0)) := (g1.block _ HRL.out (fun k => HLT.out (Option.some.inj k))).trans HRES.out
      have bel1 := HBEL.out.grown g1 HBEL.out.size (fun k hk => by injection hk with hk; rw [← hk]; exact HB0.out)
      have f1 := frozen_of_row y1 X 3 _ _ row1
      have c1 : y1.cell? ⟨X, 3, none⟩ = some (.int .i32 0) := by rw [cell_of_row y1 X 3 _ _ _ row1]; rfl
      have HC1 := Lib.hid C1
      have HROW1 := Lib.hid row1
      have HRES1 := Lib.hid res1
      have HBEL1 := Lib.hid bel1
      clear C1 row1 res1 bel1 g1
      go_wp2_with fail
      go_meet
      refine ⟨HC1.out.set X _ _ HNE.out HX.out.2.2, ?_, ?_, HBEL1.out.setCell HRX.out.2 _⟩
      · rw [Below.heap_setCell _ _ _ _ HRX.out.1]; exact HRES1.out
      · rw [show wrap32 ((numB s a2 e2 4 : Nat) : Int) = v2 from HEV.out]
        exact heap_setCell_same y1 X 3 _ _ _ HROW1.out
    | false =>
      have EA : a2 = a3 := HA2.out
      have EE : e2 = e3 := HE2.out
      have EV : (0 : Int) = v2 := HV
      clear HV
      go_wp2_with fail
      go_meet
      subst EA EE EV
      exact ⟨cx, res, row, bel⟩
  case rest =>
  have SS2 := Lib.hid hcut
  clear hcut SS
  have SS := Lib.hid SS2.out
  clear SS2
  generalize wc = wr2 at *
  obtain ⟨cx, res, row, bel⟩ := SS.out
  have HCX := Lib.hid cx; have HRES := Lib.hid res; have HROW := Lib.hid row; have HBEL := Lib.hid bel
  have c0 : wr2.cell? ⟨X, 0, none⟩ = some (.int .u8 F) := by rw [cell_of_row wr2 X 0 _ _ _ row]; rfl
  clear res row bel cx HA0 HE0 HV0 HA1 HE1 HV1 HA2 HE2 HV2 SS
  go_wp2_with fail
  refine (err_ci HCX.out.ci).mono ?_; rintro r xx ⟨rfl, rfl⟩
  by_cases k0 : e3 = 0 ∧ F ≤ 7 ∧ (c = true ∨ a3 = s.size)
  · obtain ⟨k1, k2, k3⟩ := k0
    have HO : Hid (spOut s c F a3 e3 v0 v1 v2 = .tuple #[.agg #[.int .u8 F, .int .i32 v0, .int .i32 v1, .int .i32 v2], .int .i64 0]) := if_pos ⟨k1, k2, k3⟩
    subst k1
    cases c with
    | true =>
      clear k3
      go_wp2_with (first | (refine wpList_load_row rfl 163 (.tmp 7) rfl X rfl 163 _ (0, 0) _ HROW.out Tryz.underlying163 rfl info_stamp ?_) | (refine wpList_store_row rfl 163 (.tmp 4) (.tmp 57) rfl w.heap.size #[.int .u8 F, .int .i32 v0, .int .i32 v1, .int .i32 v2] rfl rfl 163 #[.int .u8 0, .int .i32 0, .int .i32 0, .int .i32 0] HRES.out info_stamp rfl (four_one _ _ _ _) ?_))
      exact bodyPost_ret (results_ct_row rfl _ _ w.heap.size 163 #[.int .u8 F, .int .i32 v0, .int .i32 v1, .int .i32 v2] (0, 0) _ rfl (setRow_heap _ _ _ _ _ _ HRES.out) Tryz.underlying163 rfl info_stamp) rfl ⟨by rw [HO.out]; rfl, below_setRow HBEL.out (Nat.le_refl _) _⟩
    | false =>
      have k4 : a3 = s.size := by simpa using k3
      have HLFT := Lib.hid (left_ci HL.out HCX.out.le HCX.out.ci)
      have k5 : decide ((0 : Int) < (s.size : Int) - a3) = false := decide_eq_false (by omega)
      have k6 : (s.size : Int) - a3 ≤ 0 := by omega
      clear k3 k4
      go_wp2_with fail
      refine (HLFT.out).mono ?_; rintro r xx ⟨rfl, d, rfl⟩
      go_wp2_with (first | (refine wpList_load_row rfl 163 (.tmp 7) rfl X rfl 163 #[.int .u8 F, .int .i32 v0, .int .i32 v1, .int .i32 v2] (0, 0) _ (show (wr2.drewN d).heap[X]? = _ from HROW.out) Tryz.underlying163 rfl info_stamp ?_) | (refine wpList_store_row rfl 163 (.tmp 4) (.tmp 57) rfl w.heap.size #[.int .u8 F, .int .i32 v0, .int .i32 v1, .int .i32 v2] rfl rfl 163 #[.int .u8 0, .int .i32 0, .int .i32 0, .int .i32 0] (by exact HRES.out) info_stamp rfl (four_one _ _ _ _) ?_))
      exact bodyPost_ret (results_ct_row rfl _ _ w.heap.size 163 #[.int .u8 F, .int .i32 v0, .int .i32 v1, .int .i32 v2] (0, 0) _ rfl (setRow_heap (wr2.drewN d) w.heap.size #[.int .u8 0, .int .i32 0, .int .i32 0, .int .i32 0] _ _ _ (show (wr2.drewN d).heap[w.heap.size]? = _ from HRES.out)) Tryz.underlying163 rfl info_stamp) rfl ⟨by rw [HO.out]; rfl, below_setRow (below_drewN HBEL.out d) (Nat.le_refl _) _⟩
  · have HO : Hid (spOut s c F a3 e3 v0 v1 v2 = .tuple #[.agg #[.int .u8 0, .int .i32 0, .int .i32 0, .int .i32 0], .int .i64 24]) := if_neg k0
    by_cases k1 : e3 = 0
    · by_cases k2 : F ≤ 7
      · have k3 : c = false ∧ ¬ a3 = s.size := by
          cases c with
          | true => exact (k0 ⟨k1, k2, .inl rfl⟩).elim
          | false => exact ⟨rfl, fun h => k0 ⟨k1, k2, .inr h⟩⟩
        obtain ⟨rfl, k4⟩ := k3
        subst k1
        have HLFT := Lib.hid (left_ci HL.out HCX.out.le HCX.out.ci)
        have hle := HCX.out.le
        have k5 : (0 : Int) < (s.size : Int) - a3 := by omega
        clear k0 k4
        go_wp2_with fail
        refine (HLFT.out).mono ?_; rintro r xx ⟨rfl, d, rfl⟩
        go_wp2_with (refine wpList_store_row rfl 163 (.tmp 4) (.tmp 56) rfl w.heap.size #[.int .u8 0, .int .i32 0, .int .i32 0, .int .i32 0] rfl rfl 163 #[.int .u8 0, .int .i32 0, .int .i32 0, .int .i32 0] (by exact HRES.out) info_stamp rfl (four_one _ _ _ _) ?_)
        exact bodyPost_ret (results_ct_row rfl _ _ w.heap.size 163 #[.int .u8 0, .int .i32 0, .int .i32 0, .int .i32 0] (0, 0) _ rfl (setRow_heap (wr2.drewN d) w.heap.size #[.int .u8 0, .int .i32 0, .int .i32 0, .int .i32 0] _ _ _ (show (wr2.drewN d).heap[w.heap.size]? = _ from HRES.out)) Tryz.underlying163 rfl info_stamp) rfl ⟨by rw [HO.out]; rfl, below_setRow (below_drewN HBEL.out d) (Nat.le_refl _) _⟩
      · subst k1
        have k3 : 7 < F := by omega
        clear k0 k2
        go_wp2_with (refine wpList_store_row rfl 163 (.tmp 4) (.tmp 56) rfl w.heap.size #[.int .u8 0, .int .i32 0, .int .i32 0, .int .i32 0] rfl rfl 163 #[.int .u8 0, .int .i32 0, .int .i32 0, .int .i32 0] HRES.out info_stamp rfl (four_one _ _ _ _) ?_)
        exact bodyPost_ret (results_ct_row rfl _ _ w.heap.size 163 #[.int .u8 0, .int .i32 0, .int .i32 0, .int .i32 0] (0, 0) _ rfl (setRow_heap _ _ _ _ _ _ HRES.out) Tryz.underlying163 rfl info_stamp) rfl ⟨by rw [HO.out]; rfl, below_setRow HBEL.out (Nat.le_refl _) _⟩
    · have k2 : ((e3 : Int) != 0) = true := by rw [bne_iff_ne]; omega
      clear k0 k1
      go_wp2_with (refine wpList_store_row rfl 163 (.tmp 4) (.tmp 56) rfl w.heap.size #[.int .u8 0, .int .i32 0, .int .i32 0, .int .i32 0] rfl rfl 163 #[.int .u8 0, .int .i32 0, .int .i32 0, .int .i32 0] HRES.out info_stamp rfl (four_one _ _ _ _) ?_)
      exact bodyPost_ret (results_ct_row rfl _ _ w.heap.size 163 #[.int .u8 0, .int .i32 0, .int .i32 0, .int .i32 0] (0, 0) _ rfl (setRow_heap _ _ _ _ _ _ HRES.out) Tryz.underlying163 rfl info_stamp) rfl ⟨by rw [HO.out]; rfl, below_setRow HBEL.out (Nat.le_refl _) _⟩
end Go.Proofs.YtjnoapbddifcpaaGreatDoor
