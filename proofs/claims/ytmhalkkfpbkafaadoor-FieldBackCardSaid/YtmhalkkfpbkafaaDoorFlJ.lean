/-
  Contracts: ParseWide.
-/
import Derived.Test.YtmhalkkfpbkafaaDoorFlI
namespace Go.Proofs.YtmhalkkfpbkafaaDoor
set_option maxRecDepth 100000
open Go.RowKit Go.Joins

theorem eight_cx {w0 w : World} {s : ByteArray} {a e : Nat} (hs : s.size ≤ maxLen) (h : CX w0 s a e w) :
    Calls Tryd.prog 46 #[.pointer (some ⟨w0.heap.size, 0, none⟩)] w fun r w' => r = .returned (.int .u64 (numB s a e 8 : Nat)) ∧ CX w0 s (atB s a e (8 : Nat)) (errB s a e (8 : Nat)) w' ∧ w.grownBy w' (some w0.heap.size) :=
  (eight_of _ s a e hs h.le w h.ci.cur).mono fun _ _ ⟨he, hc, hg⟩ => ⟨he, ⟨h.ci.grown hc hg, atB_le _ _ _ _ h.le⟩, hg⟩

/-- How many bytes each of the four has. -/
def nk (k : Nat) : Nat := if k = 3 then 4 else 8
def qk (q0 q1 q2 q3 : Bool) (k : Nat) : Bool := if k = 0 then q0 else if k = 1 then q1 else if k = 2 then q2 else q3
/-- Where each stands. -/
def wk (q : Nat → Bool) : Nat → Nat
  | 0 => 0
  | k + 1 => wk q k + if q k = true then nk k else 0
theorem wk_mono (q : Nat → Bool) (j k : Nat) (h : j ≤ k) : wk q j ≤ wk q k := by
  induction k with
  | zero => obtain rfl : j = 0 := by omega
            exact Nat.le_refl _
  | succ k ih =>
    by_cases e : j = k + 1
    · rw [e]; exact Nat.le_refl _
    · have := ih (by omega)
      rw [wk]
      omega
def xk (s : ByteArray) (q : Nat → Bool) (k : Nat) : Nat := if q k = true then numL (((nums s).drop (wk q k)).take (nk k)) else 0
/-- What a wide field's bytes tell. -/
def wRes (s : ByteArray) (q : Nat → Bool) (K : IntKind) : Value :=
  if wk q 4 = s.size then .tuple #[.agg #[.int .u64 (xk s q 0 : Nat), .int .u64 (xk s q 1 : Nat), .int .u64 (xk s q 2 : Nat), .int K (xk s q 3 : Nat)], .int .i64 0]
  else .tuple #[.agg #[.int .u64 0, .int .u64 0, .int .u64 0, .int K 0], .int .i64 31]

def uA (s : ByteArray) (t : Bool) (n a e : Nat) : Nat := if t = true then atB s a e (n : Nat) else a
def uE (s : ByteArray) (t : Bool) (n a e : Nat) : Nat := if t = true then errB s a e (n : Nat) else e
def uV (s : ByteArray) (t : Bool) (n a e : Nat) : Nat := if t = true then numB s a e n else 0

theorem info_wide : (Tryd.prog.info? 51).map (·.size) = some 4 := by kernel_rfl
theorem zero_wide (w : World) : (zeroValue 51).run Tryd.prog w = .ok (.agg #[.int .u64 0, .int .u64 0, .int .u64 0, .int .u32 0]) w := by kernel_rfl
theorem wide_one (a b c d : Int) : (#[Value.int .u64 a, .int .u64 b, .int .u64 c, .int .u32 d] : Array Value).all (·.oneCell') = true := by simp [Value.oneCell']
structure WX (w : World) (s : ByteArray) (q0 q1 q2 q3 : Bool) (a e : Nat) (v0 v1 v2 v3 : Nat) (wr : World) : Prop where
  cur : Cur wr (w.heap.size + 3) s a e
  le : a ≤ s.size
  box : wr.heap[w.heap.size]? = some (.cells #[.bool q0, .bool q1, .bool q2, .bool q3] 55 (0, 0))
  res : wr.heap[w.heap.size + 1]? = some (.cells #[.int .u64 0, .int .u64 0, .int .u64 0, .int .u32 0] 51 (0, 0))
  row : wr.heap[w.heap.size + 2]? = some (.cells #[.int .u64 (v0 : Nat), .int .u64 (v1 : Nat), .int .u64 (v2 : Nat), .int .u32 (v3 : Nat)] 51 (0, 0))
  bel : Below w.heap.size w wr

def wOut (t : Bool) (v0 v1 v2 v3 : Nat) : Value := match t with
  | true => .tuple #[.agg #[.int .u64 (v0 : Nat), .int .u64 (v1 : Nat), .int .u64 (v2 : Nat), .int .u32 (v3 : Nat)], .int .i64 0]
  | false => .tuple #[.agg #[.int .u64 0, .int .u64 0, .int .u64 0, .int .u32 0], .int .i64 31]
set_option maxHeartbeats 2000000 in
theorem parseWide_any (s : ByteArray) (q0 q1 q2 q3 : Bool) (hs : s.size ≤ maxLen) {a1 e1 v0 a2 e2 v1 a3 e3 v2 a4 e4 v3 : Nat}
    (hA0 : uA s q0 8 0 0 = a1) (hE0 : uE s q0 8 0 0 = e1) (hV0 : uV s q0 8 0 0 = v0)
    (hA1 : uA s q1 8 a1 e1 = a2) (hE1 : uE s q1 8 a1 e1 = e2) (hV1 : uV s q1 8 a1 e1 = v1)
    (hA2 : uA s q2 8 a2 e2 = a3) (hE2 : uE s q2 8 a2 e2 = e3) (hV2 : uV s q2 8 a2 e2 = v2)
    (hA3 : uA s q3 4 a3 e3 = a4) (hE3 : uE s q3 4 a3 e3 = e4) (hV3 : uV s q3 4 a3 e3 = v3) (w : World) :
    Calls Tryd.prog 21 #[.string s, .agg #[.bool q0, .bool q1, .bool q2, .bool q3]] w fun e w' => e = .returned (wOut (thrB s a4 e4) v0 v1 v2 v3) ∧ Below w.heap.size w w' := by
  have HL := Lib.hid hs
  have HZ := zero_wide
  have HA0 := Lib.hid hA0; have HE0 := Lib.hid hE0; have HV0 := Lib.hid hV0
  have HA1 := Lib.hid hA1; have HE1 := Lib.hid hE1; have HV1 := Lib.hid hV1
  have HA2 := Lib.hid hA2; have HE2 := Lib.hid hE2; have HV2 := Lib.hid hV2
  have HA3 := Lib.hid hA3; have HE3 := Lib.hid hE3; have HV3 := Lib.hid hV3
  clear hA0 hE0 hV0 hA1 hE1 hV1 hA2 hE2 hV2 hA3 hE3 hV3
  go_enter Tryd.func21, Tryd.ntmps21
  go_wp2_with fail
  have hb := (((Below.refl w.heap.size w).alloc (Nat.le_refl _) (.cells #[.bool q0, .bool q1, .bool q2, .bool q3] 55)).alloc (by simp) (.cells #[.int .u64 0, .int .u64 0, .int .u64 0, .int .u32 0] 51)).alloc (by simp; omega) (.cells #[.int .u64 0, .int .u64 0, .int .u64 0, .int .u32 0] 51)
  have hx := (Below.heap_alloc ((w.alloc (.cells #[.bool q0, .bool q1, .bool q2, .bool q3] 55)).alloc (.cells #[.int .u64 0, .int .u64 0, .int .u64 0, .int .u32 0] 51)) (.cells #[.int .u64 0, .int .u64 0, .int .u64 0, .int .u32 0] 51) w.heap.size (by simp; omega)).trans ((Below.heap_alloc (w.alloc (.cells #[.bool q0, .bool q1, .bool q2, .bool q3] 55)) (.cells #[.int .u64 0, .int .u64 0, .int .u64 0, .int .u32 0] 51) w.heap.size (by simp)).trans (heap_alloc_new w _))
  have hr := (Below.heap_alloc ((w.alloc (.cells #[.bool q0, .bool q1, .bool q2, .bool q3] 55)).alloc (.cells #[.int .u64 0, .int .u64 0, .int .u64 0, .int .u32 0] 51)) (.cells #[.int .u64 0, .int .u64 0, .int .u64 0, .int .u32 0] 51) (w.heap.size + 1) (by simp)).trans (heap_alloc2_new w (.cells #[.bool q0, .bool q1, .bool q2, .bool q3] 55) (.cells #[.int .u64 0, .int .u64 0, .int .u64 0, .int .u32 0] 51))
  have hy := heap_alloc2_new (w.alloc (.cells #[.bool q0, .bool q1, .bool q2, .bool q3] 55)) (.cells #[.int .u64 0, .int .u64 0, .int .u64 0, .int .u32 0] 51) (.cells #[.int .u64 0, .int .u64 0, .int .u64 0, .int .u32 0] 51)
  have hsz : (w.alloc (.cells #[.bool q0, .bool q1, .bool q2, .bool q3] 55)).heap.size = w.heap.size + 1 := by simp
  rw [hsz] at hy
  have hs0 : (((w.alloc (.cells #[.bool q0, .bool q1, .bool q2, .bool q3] 55)).alloc (.cells #[.int .u64 0, .int .u64 0, .int .u64 0, .int .u32 0] 51)).alloc (.cells #[.int .u64 0, .int .u64 0, .int .u64 0, .int .u32 0] 51)).heap.size = w.heap.size + 3 := by simp
  generalize ((w.alloc (.cells #[.bool q0, .bool q1, .bool q2, .bool q3] 55)).alloc (.cells #[.int .u64 0, .int .u64 0, .int .u64 0, .int .u32 0] 51)).alloc (.cells #[.int .u64 0, .int .u64 0, .int .u64 0, .int .u32 0] 51) = w0 at *
  clear hsz
  have HS0 := Lib.hid hs0
  clear hs0
  refine (over_ci s w0).mono ?_; rintro r wr ⟨rfl, C0⟩
  have SS : Hid (WX w s q0 q1 q2 q3 0 0 0 0 0 0 wr) := by
    have h1 := C0.cur
    rw [HS0.out] at h1
    exact ⟨h1, Nat.zero_le _, (C0.bel.block _ (by rw [HS0.out]; omega)).trans hx, (C0.bel.block _ (by rw [HS0.out]; omega)).trans hr, (C0.bel.block _ (by rw [HS0.out]; omega)).trans hy, hb.trans (C0.bel.mono (by rw [HS0.out]; omega))⟩
  rw [HS0.out]
  clear C0 hx hr hy hb HS0
  have hq : wr.cell? ⟨w.heap.size, 0, none⟩ = some (.bool q0) := by rw [cell_of_row _ _ 0 _ _ _ SS.out.box]; rfl
  go_upto_if 11 with fail
  clear hq
  go_cut [] from 8 (fun wx => WX w s q0 q1 q2 q3 a1 e1 v0 0 0 0 wx)
  case first => as_aux_lemma =>
    obtain ⟨cur, le, box, res, row, bel⟩ := SS.out
    have HV := HV0.out
    cases q0 with
    | true =>
      have EA : atB s 0 0 (8 : Nat) = a1 := HA0.out
      have EE : errB s 0 0 (8 : Nat) = e1 := HE0.out
      have EV : numB s 0 0 8 = v0 := HV
      have hl := lt_of_heap row
      have HCU := Lib.hid cur; have HLE := Lib.hid le; have HBOX := Lib.hid box; have HRES := Lib.hid res; have HROW := Lib.hid row; have HBEL := Lib.hid bel
      have HEA := Lib.hid EA; have HEE := Lib.hid EE; have HEV := Lib.hid EV; have HLT := Lib.hid hl
      clear box res row bel EA EE EV HV cur le hl
      go_wp2_with fail
      refine (eight_of _ s 0 0 HL.out HLE.out _ HCU.out).mono ?_; rintro r y1 ⟨rfl, C1, g1⟩
      have le1 := atB_le s 0 0 (8 : Nat) HLE.out
      rw [HEA.out, HEE.out] at C1
      rw [HEA.out] at le1
      rw [HEV.out]
      have keep : ∀ (g : Nat) (o : Obj), g < w.heap.size + 3 → wr.heap[g]? = some o → y1.heap[g]? = some o := fun g o hg h => (g1.block g (lt_of_heap h) (fun k => by have := Option.some.inj k; omega)).trans h
      have row1 : y1.heap[w.heap.size + 2]? = some (.cells #[.int .u64 (0 : Nat), .int .u64 (0 : Nat), .int .u64 (0 : Nat), .int .u32 (0 : Nat)] 51 (0, 0)) := keep _ _ (by omega) HROW.out
      have box1 := keep _ _ (by omega) HBOX.out
      have res1 := keep _ _ (by omega) HRES.out
      have bel1 := HBEL.out.grown g1 HBEL.out.size (fun k hk => by injection hk with hk; omega)
      have f1 := frozen_of_row y1 (w.heap.size + 2) 0 _ _ row1
      have c1 : y1.cell? ⟨w.heap.size + 2, 0, none⟩ = some (.int .u64 0) := by rw [cell_of_row y1 _ 0 _ _ _ row1]; rfl
      have HC1 := Lib.hid C1; have HLE1 := Lib.hid le1; have HROW1 := Lib.hid row1; have HBOX1 := Lib.hid box1; have HRES1 := Lib.hid res1; have HBEL1 := Lib.hid bel1
      clear C1 row1 res1 bel1 g1 box1 keep le1
      go_wp2_with fail
      go_meet
      refine ⟨(Below.heap_setCell _ _ _ _ (by show w.heap.size + 3 ≠ w.heap.size + 2; omega)).trans HC1.out, HLE1.out, ?_, ?_, ?_, HBEL1.out.setCell (by show _ ≤ w.heap.size + 2; omega) _⟩
      · rw [Below.heap_setCell _ _ _ _ (by show w.heap.size ≠ w.heap.size + 2; omega)]; exact HBOX1.out
      · rw [Below.heap_setCell _ _ _ _ (by show w.heap.size + 1 ≠ w.heap.size + 2; omega)]; exact HRES1.out
      · exact heap_setCell_same y1 _ 0 _ _ _ HROW1.out
    | false =>
      have EA : 0 = a1 := HA0.out
      have EE : 0 = e1 := HE0.out
      have EV : 0 = v0 := HV
      clear HV
      go_wp2_with fail
      go_meet
      subst EA EE EV
      exact ⟨cur, le, box, res, row, bel⟩
  case rest =>
  have SS0 := Lib.hid hcut
  clear hcut SS
  have SS := Lib.hid SS0.out
  clear SS0
  generalize wc = wr0 at *
  have hq : wr0.cell? ⟨w.heap.size, 1, none⟩ = some (.bool q1) := by rw [cell_of_row _ _ 1 _ _ _ SS.out.box]; rfl
  go_upto_if 16 with fail
  clear hq
  go_cut [] from 8 (fun wx => WX w s q0 q1 q2 q3 a2 e2 v0 v1 0 0 wx)
  case first => as_aux_lemma =>
    obtain ⟨cur, le, box, res, row, bel⟩ := SS.out
    have HV := HV1.out
    cases q1 with
    | true =>
      have EA : atB s a1 e1 (8 : Nat) = a2 := HA1.out
      have EE : errB s a1 e1 (8 : Nat) = e2 := HE1.out
      have EV : numB s a1 e1 8 = v1 := HV
      have hl := lt_of_heap row
      have HCU := Lib.hid cur; have HLE := Lib.hid le; have HBOX := Lib.hid box; have HRES := Lib.hid res; have HROW := Lib.hid row; have HBEL := Lib.hid bel
      have HEA := Lib.hid EA; have HEE := Lib.hid EE; have HEV := Lib.hid EV; have HLT := Lib.hid hl
      clear box res row bel EA EE EV HV cur le hl
      go_wp2_with fail
      refine (eight_of _ s a1 e1 HL.out HLE.out _ HCU.out).mono ?_; rintro r y1 ⟨rfl, C1, g1⟩
      have le1 := atB_le s a1 e1 (8 : Nat) HLE.out
      rw [HEA.out, HEE.out] at C1
      rw [HEA.out] at le1
      rw [HEV.out]
      have keep : ∀ (g : Nat) (o : Obj), g < w.heap.size + 3 → wr0.heap[g]? = some o → y1.heap[g]? = some o := fun g o hg h => (g1.block g (lt_of_heap h) (fun k => by have := Option.some.inj k; omega)).trans h
      have row1 : y1.heap[w.heap.size + 2]? = some (.cells #[.int .u64 (v0 : Nat), .int .u64 (0 : Nat), .int .u64 (0 : Nat), .int .u32 (0 : Nat)] 51 (0, 0)) := keep _ _ (by omega) HROW.out
      have box1 := keep _ _ (by omega) HBOX.out
      have res1 := keep _ _ (by omega) HRES.out
      have bel1 := HBEL.out.grown g1 HBEL.out.size (fun k hk => by injection hk with hk; omega)
      have f1 := frozen_of_row y1 (w.heap.size + 2) 1 _ _ row1
      have c1 : y1.cell? ⟨w.heap.size + 2, 1, none⟩ = some (.int .u64 0) := by rw [cell_of_row y1 _ 1 _ _ _ row1]; rfl
      have HC1 := Lib.hid C1; have HLE1 := Lib.hid le1; have HROW1 := Lib.hid row1; have HBOX1 := Lib.hid box1; have HRES1 := Lib.hid res1; have HBEL1 := Lib.hid bel1
      clear C1 row1 res1 bel1 g1 box1 keep le1
      go_wp2_with fail
      go_meet
      refine ⟨(Below.heap_setCell _ _ _ _ (by show w.heap.size + 3 ≠ w.heap.size + 2; omega)).trans HC1.out, HLE1.out, ?_, ?_, ?_, HBEL1.out.setCell (by show _ ≤ w.heap.size + 2; omega) _⟩
      · rw [Below.heap_setCell _ _ _ _ (by show w.heap.size ≠ w.heap.size + 2; omega)]; exact HBOX1.out
      · rw [Below.heap_setCell _ _ _ _ (by show w.heap.size + 1 ≠ w.heap.size + 2; omega)]; exact HRES1.out
      · exact heap_setCell_same y1 _ 1 _ _ _ HROW1.out
    | false =>
      have EA : a1 = a2 := HA1.out
      have EE : e1 = e2 := HE1.out
      have EV : 0 = v1 := HV
      clear HV
      go_wp2_with fail
      go_meet
      subst EA EE EV
      exact ⟨cur, le, box, res, row, bel⟩
  case rest =>
  have SS1 := Lib.hid hcut
  clear hcut SS
  have SS := Lib.hid SS1.out
  clear SS1
  generalize wc = wr1 at *
  have hq : wr1.cell? ⟨w.heap.size, 2, none⟩ = some (.bool q2) := by rw [cell_of_row _ _ 2 _ _ _ SS.out.box]; rfl
  go_upto_if 21 with fail
  clear hq
  go_cut [] from 8 (fun wx => WX w s q0 q1 q2 q3 a3 e3 v0 v1 v2 0 wx)
  case first => as_aux_lemma =>
    obtain ⟨cur, le, box, res, row, bel⟩ := SS.out
    have HV := HV2.out
    cases q2 with
    | true =>
      have EA : atB s a2 e2 (8 : Nat) = a3 := HA2.out
      have EE : errB s a2 e2 (8 : Nat) = e3 := HE2.out
      have EV : numB s a2 e2 8 = v2 := HV
      have hl := lt_of_heap row
      have HCU := Lib.hid cur; have HLE := Lib.hid le; have HBOX := Lib.hid box; have HRES := Lib.hid res; have HROW := Lib.hid row; have HBEL := Lib.hid bel
      have HEA := Lib.hid EA; have HEE := Lib.hid EE; have HEV := Lib.hid EV; have HLT := Lib.hid hl
      clear box res row bel EA EE EV HV cur le hl
      go_wp2_with fail
      refine (eight_of _ s a2 e2 HL.out HLE.out _ HCU.out).mono ?_; rintro r y1 ⟨rfl, C1, g1⟩
      have le1 := atB_le s a2 e2 (8 : Nat) HLE.out
      rw [HEA.out, HEE.out] at C1
      rw [HEA.out] at le1
      rw [HEV.out]
      have keep : ∀ (g : Nat) (o : Obj), g < w.heap.size + 3 → wr1.heap[g]? = some o → y1.heap[g]? = some o := fun g o hg h => (g1.block g (lt_of_heap h) (fun k => by have := Option.some.inj k; omega)).trans h
      have row1 : y1.heap[w.heap.size + 2]? = some (.cells #[.int .u64 (v0 : Nat), .int .u64 (v1 : Nat), .int .u64 (0 : Nat), .int .u32 (0 : Nat)] 51 (0, 0)) := keep _ _ (by omega) HROW.out
      have box1 := keep _ _ (by omega) HBOX.out
      have res1 := keep _ _ (by omega) HRES.out
      have bel1 := HBEL.out.grown g1 HBEL.out.size (fun k hk => by injection hk with hk; omega)
      have f1 := frozen_of_row y1 (w.heap.size + 2) 2 _ _ row1
      have c1 : y1.cell? ⟨w.heap.size + 2, 2, none⟩ = some (.int .u64 0) := by rw [cell_of_row y1 _ 2 _ _ _ row1]; rfl
      have HC1 := Lib.hid C1; have HLE1 := Lib.hid le1; have HROW1 := Lib.hid row1; have HBOX1 := Lib.hid box1; have HRES1 := Lib.hid res1; have HBEL1 := Lib.hid bel1
      clear C1 row1 res1 bel1 g1 box1 keep le1
      go_wp2_with fail
      go_meet
      refine ⟨(Below.heap_setCell _ _ _ _ (by show w.heap.size + 3 ≠ w.heap.size + 2; omega)).trans HC1.out, HLE1.out, ?_, ?_, ?_, HBEL1.out.setCell (by show _ ≤ w.heap.size + 2; omega) _⟩
      · rw [Below.heap_setCell _ _ _ _ (by show w.heap.size ≠ w.heap.size + 2; omega)]; exact HBOX1.out
      · rw [Below.heap_setCell _ _ _ _ (by show w.heap.size + 1 ≠ w.heap.size + 2; omega)]; exact HRES1.out
      · exact heap_setCell_same y1 _ 2 _ _ _ HROW1.out
    | false =>
      have EA : a2 = a3 := HA2.out
      have EE : e2 = e3 := HE2.out
      have EV : 0 = v2 := HV
      clear HV
      go_wp2_with fail
      go_meet
      subst EA EE EV
      exact ⟨cur, le, box, res, row, bel⟩
  case rest =>
  have SS2 := Lib.hid hcut
  clear hcut SS
  have SS := Lib.hid SS2.out
  clear SS2
  generalize wc = wr2 at *
  have hq : wr2.cell? ⟨w.heap.size, 3, none⟩ = some (.bool q3) := by rw [cell_of_row _ _ 3 _ _ _ SS.out.box]; rfl
  go_upto_if 26 with fail
  clear hq
  go_cut [] from 8 (fun wx => WX w s q0 q1 q2 q3 a4 e4 v0 v1 v2 v3 wx)
  case first => as_aux_lemma =>
    obtain ⟨cur, le, box, res, row, bel⟩ := SS.out
    have HV := HV3.out
    cases q3 with
    | true =>
      have EA : atB s a3 e3 (4 : Nat) = a4 := HA3.out
      have EE : errB s a3 e3 (4 : Nat) = e4 := HE3.out
      have EV : numB s a3 e3 4 = v3 := HV
      have hl := lt_of_heap row
      have HCU := Lib.hid cur; have HLE := Lib.hid le; have HBOX := Lib.hid box; have HRES := Lib.hid res; have HROW := Lib.hid row; have HBEL := Lib.hid bel
      have HEA := Lib.hid EA; have HEE := Lib.hid EE; have HEV := Lib.hid EV; have HLT := Lib.hid hl
      clear box res row bel EA EE EV HV cur le hl
      go_wp2_with fail
      refine (four_of _ s a3 e3 HL.out HLE.out _ HCU.out).mono ?_; rintro r y1 ⟨rfl, C1, g1⟩
      have le1 := atB_le s a3 e3 (4 : Nat) HLE.out
      rw [HEA.out, HEE.out] at C1
      rw [HEA.out] at le1
      rw [HEV.out]
      have keep : ∀ (g : Nat) (o : Obj), g < w.heap.size + 3 → wr2.heap[g]? = some o → y1.heap[g]? = some o := fun g o hg h => (g1.block g (lt_of_heap h) (fun k => by have := Option.some.inj k; omega)).trans h
      have row1 : y1.heap[w.heap.size + 2]? = some (.cells #[.int .u64 (v0 : Nat), .int .u64 (v1 : Nat), .int .u64 (v2 : Nat), .int .u32 (0 : Nat)] 51 (0, 0)) := keep _ _ (by omega) HROW.out
      have box1 := keep _ _ (by omega) HBOX.out
      have res1 := keep _ _ (by omega) HRES.out
      have bel1 := HBEL.out.grown g1 HBEL.out.size (fun k hk => by injection hk with hk; omega)
      have f1 := frozen_of_row y1 (w.heap.size + 2) 3 _ _ row1
      have c1 : y1.cell? ⟨w.heap.size + 2, 3, none⟩ = some (.int .u32 0) := by rw [cell_of_row y1 _ 3 _ _ _ row1]; rfl
      have HC1 := Lib.hid C1; have HLE1 := Lib.hid le1; have HROW1 := Lib.hid row1; have HBOX1 := Lib.hid box1; have HRES1 := Lib.hid res1; have HBEL1 := Lib.hid bel1
      clear C1 row1 res1 bel1 g1 box1 keep le1
      go_wp2_with fail
      go_meet
      refine ⟨(Below.heap_setCell _ _ _ _ (by show w.heap.size + 3 ≠ w.heap.size + 2; omega)).trans HC1.out, HLE1.out, ?_, ?_, ?_, HBEL1.out.setCell (by show _ ≤ w.heap.size + 2; omega) _⟩
      · rw [Below.heap_setCell _ _ _ _ (by show w.heap.size ≠ w.heap.size + 2; omega)]; exact HBOX1.out
      · rw [Below.heap_setCell _ _ _ _ (by show w.heap.size + 1 ≠ w.heap.size + 2; omega)]; exact HRES1.out
      · exact heap_setCell_same y1 _ 3 _ _ _ HROW1.out
    | false =>
      have EA : a3 = a4 := HA3.out
      have EE : e3 = e4 := HE3.out
      have EV : 0 = v3 := HV
      clear HV
      go_wp2_with fail
      go_meet
      subst EA EE EV
      exact ⟨cur, le, box, res, row, bel⟩
  case rest =>
  have SS3 := Lib.hid hcut
  clear hcut SS
  have SS := Lib.hid SS3.out
  clear SS3
  generalize wc = wr3 at *
  obtain ⟨cur, le, box, res, row, bel⟩ := SS.out
  have HCU := Lib.hid cur; have HLE := Lib.hid le; have HRES := Lib.hid res; have HROW := Lib.hid row; have HBEL := Lib.hid bel
  clear box res row bel cur le HA0 HE0 HV0 HA1 HE1 HV1 HA2 HE2 HV2 HA3 HE3 HV3 SS
  go_wp2_with fail
  refine (through_any _ s a4 e4 HL.out HLE.out _ HCU.out).mono ?_; rintro r y1 ⟨rfl, d, rfl⟩
  generalize hT : thrB s a4 e4 = t at *
  have HT := Lib.hid hT
  clear hT
  have hres : (wr3.drewN d).heap[w.heap.size + 1]? = some (.cells #[.int .u64 0, .int .u64 0, .int .u64 0, .int .u32 0] 51 (0, 0)) := HRES.out
  have hrow : (wr3.drewN d).heap[w.heap.size + 2]? = some (.cells #[.int .u64 (v0 : Nat), .int .u64 (v1 : Nat), .int .u64 (v2 : Nat), .int .u32 (v3 : Nat)] 51 (0, 0)) := HROW.out
  have HBEL2 := Lib.hid (below_drewN HBEL.out d)
  have HRES2 := Lib.hid hres
  have HROW2 := Lib.hid hrow
  clear hres hrow HRES HROW HBEL HCU
  generalize wr3.drewN d = wz at *
  cases t with
  | true =>
    go_wp2_with (first | (refine wpList_load_row rfl 51 (.tmp 6) rfl (w.heap.size + 2) rfl 51 _ (0, 0) _ HROW2.out Tryd.underlying51 rfl info_wide ?_) | (refine wpList_store_row rfl 51 (.tmp 4) (.tmp 34) rfl (w.heap.size + 1) #[.int .u64 (v0 : Nat), .int .u64 (v1 : Nat), .int .u64 (v2 : Nat), .int .u32 (v3 : Nat)] rfl rfl 51 #[.int .u64 0, .int .u64 0, .int .u64 0, .int .u32 0] HRES2.out info_wide rfl (wide_one _ _ _ _) ?_))
    exact bodyPost_ret (results_ct_row rfl _ _ (w.heap.size + 1) 51 #[.int .u64 (v0 : Nat), .int .u64 (v1 : Nat), .int .u64 (v2 : Nat), .int .u32 (v3 : Nat)] (0, 0) _ rfl (setRow_heap _ _ _ _ _ _ HRES2.out) Tryd.underlying51 rfl info_wide) rfl ⟨by rw [HT.out]; rfl, below_setRow HBEL2.out (Nat.le_succ _) _⟩
  | false =>
    go_wp2_with (refine wpList_store_row rfl 51 (.tmp 4) (.tmp 33) rfl (w.heap.size + 1) #[.int .u64 0, .int .u64 0, .int .u64 0, .int .u32 0] rfl rfl 51 #[.int .u64 0, .int .u64 0, .int .u64 0, .int .u32 0] HRES2.out info_wide rfl (wide_one _ _ _ _) ?_)
    exact bodyPost_ret (results_ct_row rfl _ _ (w.heap.size + 1) 51 #[.int .u64 0, .int .u64 0, .int .u64 0, .int .u32 0] (0, 0) _ rfl (setRow_heap _ _ _ _ _ _ HRES2.out) Tryd.underlying51 rfl info_wide) rfl ⟨by rw [HT.out]; rfl, below_setRow HBEL2.out (Nat.le_succ _) _⟩
end Go.Proofs.YtmhalkkfpbkafaaDoor
