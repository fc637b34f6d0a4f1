/-
  The walk of CursorReads: it returns true, whatever the text and the script.
-/
import Derived.Test.YtcfpkmonbnfehaaCurE
import Derived.Deep.RegionHeld3
import Derived.Deep.DeepCutAuto
import Derived.Deep.CutBlock
namespace Go.Proofs.Ytcfpkmonbnfehaa
open Go.RowKit Go.Joins

/-- Both cursors stand alike, and below nothing has turned. -/
def Inv (B gc gq : Nat) (s : ByteArray) (w0 wr : World) : Prop := ∃ a e : Nat, a ≤ s.size ∧ (e = 0 ∨ e = 3) ∧ Cur wr gc s a e ∧ RCur wr gq s a e ∧ Below B w0 wr

theorem cell_far {x y : World} {ga gc i : Nat} {v : Value} (h : x.cell? ⟨ga, i, none⟩ = some v) (hg : x.grownBy y (some gc)) (hne : gc < ga) : y.cell? ⟨ga, i, none⟩ = some v :=
  hg.cell h (fun e => by
    have h2 : ga = gc := by injection e
    omega)
theorem cell_near {x y : World} {ga gp i : Nat} {v : Value} (h : x.cell? ⟨ga, i, none⟩ = some v) (hg : x.grownBy y (some gp)) (hne : ga < gp) : y.cell? ⟨ga, i, none⟩ = some v :=
  hg.cell h (fun e => by
    have h2 : ga = gp := by injection e
    omega)
theorem errB_or (s : ByteArray) (a e : Nat) (n : Int) (he : e = 0 ∨ e = 3) : errB s a e n = 0 ∨ errB s a e n = 3 := by
  unfold errB
  split
  · exact he
  · exact .inr rfl
/-- Behind the program's call. -/
theorem inv_first {B gc a e : Nat} {s : ByteArray} {w0 x y : World} (hG : B ≤ gc) (hq : RCur x (gc + 1) s a e) (hb : Below B w0 x) (hg : x.grownBy y (some gc)) : RCur y (gc + 1) s a e ∧ Below B w0 y :=
  ⟨hq.grown hg (by intro h; injection h with h; omega), hb.grown hg (Nat.le_trans hG (by have := hq.lt; omega)) (by intro k hk; injection hk with hk; omega)⟩
/-- Behind both. -/
theorem inv_second {B gc a e : Nat} {n : Int} {s : ByteArray} {w0 y z : World} (hG : B ≤ gc) (ha : a ≤ s.size) (he : e = 0 ∨ e = 3) (hc : Cur y gc s (atB s a e n) (errB s a e n)) (hb : Below B w0 y)
    (hq : RCur z (gc + 1) s (atB s a e n) (errB s a e n)) (hg : y.grownBy z (some (gc + 1))) : Inv B gc (gc + 1) s w0 z :=
  ⟨_, _, atB_le s a e n ha, errB_or s a e n he, hc.grown hg (by intro h; injection h with h; omega), hq, hb.grown hg (Nat.le_trans hG (Nat.le_of_lt hc.lt)) (by intro k hk; injection hk with hk; omega)⟩

/-- Behind a call on a copy. -/
theorem inv_other {B gc gp a e : Nat} {s : ByteArray} {w0 x z : World} (hG : B ≤ gc) (ha : a ≤ s.size) (he : e = 0 ∨ e = 3) (hc : Cur x gc s a e) (hq : RCur x (gc + 1) s a e) (hb : Below B w0 x)
    (hg : x.grownBy z (some gp)) (hne : gc + 1 < gp) : Inv B gc (gc + 1) s w0 z :=
  ⟨a, e, ha, he, hc.grown hg (by intro h; injection h with h; omega), hq.grown hg (by intro h; injection h with h; omega), hb.grown hg (Nat.le_trans hG (Nat.le_of_lt hc.lt)) (by intro k hk; injection hk with hk; omega)⟩

set_option maxRecDepth 100000 in
set_option maxHeartbeats 8000000 in
theorem cursorReads_main (s : ByteArray) (b off len cap : Nat) (D N : Nat → Int) (h5 : s.size ≤ 5000) (h60 : len ≤ 60) (w : World) (hbb : b < w.heap.size)
    (hD : ∀ i, i < len → w.cell? ⟨b, off + i * 2, none⟩ = some (.int .i64 (D i)) ∧ (Lit.int .i64 (D i)).wf = true) (hN : ∀ i, i < len → w.cell? ⟨b, off + i * 2 + 1, none⟩ = some (.int .i64 (N i)) ∧ (Lit.int .i64 (N i)).wf = true) :
    Calls Try.prog 4 #[.string s, .slice (some ⟨b, off, none⟩) len cap] w fun e w' => e = .returned (.bool true) ∧ Below w.heap.size w w' := by
  have HD := Lib.hid hD
  have HN := Lib.hid hN
  clear hD hN
  go_enter Try.func4, Try.ntmps4
  go_wp2_with (first | (go_at_call 12; refine (awake1_any _).mono ?_; rintro r wA ⟨rfl, hbA⟩) | (go_at_call 20; refine (over_any _ _).mono ?_; rintro r wB ⟨rfl, rfl⟩))
  have hc : Cur ((wA.alloc (.cells #[.string s, .int .i64 0, .int .i64 0] 72)).alloc (.cells #[.string s, .int .i64 0, .int .i64 0] 40)) wA.heap.size s 0 0 := Cur.alloc (heap_alloc_new _ _) _
  have hq : RCur ((wA.alloc (.cells #[.string s, .int .i64 0, .int .i64 0] 72)).alloc (.cells #[.string s, .int .i64 0, .int .i64 0] 40)) (wA.heap.size + 1) s 0 0 := heap_alloc2_new _ _ _
  have hbel : Below w.heap.size w ((wA.alloc (.cells #[.string s, .int .i64 0, .int .i64 0] 72)).alloc (.cells #[.string s, .int .i64 0, .int .i64 0] 40)) := (hbA.alloc hbA.size _).alloc (by have := hbA.size; simp; omega) _
  have HG := Lib.hid hbA.size
  generalize (wA.alloc (.cells #[.string s, .int .i64 0, .int .i64 0] 72)).alloc (.cells #[.string s, .int .i64 0, .int .i64 0] 40) = W1 at *
  generalize wA.heap.size = gc at *
  have HI : Hid (Inv w.heap.size gc (gc + 1) s w W1) := ⟨0, 0, Nat.zero_le _, .inl rfl, hc, hq, hbel⟩
  clear hc hq hbel hbA
  go_loopw [29] (fun i wr => ∃ k : Nat, k ≤ len ∧ i = .int .i64 k ∧ Inv w.heap.size gc (gc + 1) s w wr) (fun i _ => len - (intOf i).toNat)
  case atStart => exact ⟨0, Nat.zero_le _, rfl, HI.out⟩
  case round =>
    obtain ⟨k, hk, rfl, hinv⟩ := hrel
    have HV := Lib.hid hinv
    clear hinv
    by_cases hlt : k < len
    · obtain ⟨a, e, ha, he, hc, hq, hb⟩ := HV.out
      have hcD := (hb.cell (p := ⟨b, off + k * 2, none⟩) hbb).trans (HD.out k hlt).1
      have hcN := (hb.cell (p := ⟨b, off + k * 2 + 1, none⟩) hbb).trans (HN.out k hlt).1
      have wfN := (HN.out k hlt).2
      have hbN := bounds_i64 wfN
      have hbD := bounds_i64 (HD.out k hlt).2
      generalize D k = dk at *
      generalize N k = nk at *
      have HC := Lib.hid hc
      have HQ := Lib.hid hq
      have HB := Lib.hid hb
      have HNW := Lib.hid wfN
      clear hc hq hb wfN
      go_upto_block 2 with (fail)
      have hc2 := HC.out.alloc (.cells #[.int .i64 dk, .int .i64 nk] 42)
      have hq2 := HQ.out.alloc (.cells #[.int .i64 dk, .int .i64 nk] 42)
      have hb2 := HB.out.alloc HB.out.size (.cells #[.int .i64 dk, .int .i64 nk] 42)
      have hn2 : (wr.alloc (.cells #[.int .i64 dk, .int .i64 nk] 42)).cell? ⟨wr.heap.size, 1, none⟩ = some (.int .i64 nk) := by
        rw [cell_of_row _ _ 1 _ _ _ (heap_alloc_new _ _)]
        rfl
      have hga : gc + 1 < wr.heap.size := HQ.out.lt
      have HGA := Lib.hid hga
      generalize wr.alloc (.cells #[.int .i64 dk, .int .i64 nk] 42) = W2 at *
      generalize wr.heap.size = ga at *
      have HC2 := Lib.hid hc2
      have HQ2 := Lib.hid hq2
      have HB2 := Lib.hid hb2
      have HN2 := Lib.hid hn2
      clear hc2 hq2 hb2 hga hcD hcN HC HQ HB HV hn2
      go_cut [9] (fun s9 wx => s9 = .bool true ∧ Inv w.heap.size gc (gc + 1) s w wx)
      case first =>
        have hr1 : -7 < dk.tmod 7 := by have := Int.lt_tmod_of_pos dk (show (0 : Int) < 7 by omega); omega
        have hr2 : dk.tmod 7 < 7 := Int.tmod_lt_of_pos dk (by omega)
        generalize dk.tmod 7 = r at *
        have hsm : s.size ≤ maxLen := by unfold maxLen; omega
        have HSM := Lib.hid hsm
        have HE := Lib.hid he
        clear hsm he
        have hrr : r = 1 ∨ r = -1 ∨ r = 2 ∨ r = -2 ∨ r = 3 ∨ r = -3 ∨ r = 4 ∨ r = -4 ∨ r = 5 ∨ r = -5 ∨ r = 6 ∨ r = -6 ∨ r = 0 := by omega
        clear hr1 hr2
        rcases hrr with h | h | h | h | h | h | h | h | h | h | h | h | h <;> subst h
        · have hl : numB s a e 2 < 65536 := numB_lt s a e 2
          go_wp2_with fail
          refine (two_of gc s a e HSM.out ha W2 HC2.out).mono ?_; rintro r1 x1 ⟨rfl, hc1, hg1⟩
          have HX := Lib.hid (inv_first HG.out HQ2.out HB2.out hg1)
          have HC1 := Lib.hid hc1
          clear hc1 hg1
          go_wp2_with fail
          refine (rnum_any (gc + 1) s a e 2 HSM.out ha HE.out (by omega) x1 HX.out.1).mono ?_; rintro r2 x2 ⟨rfl, hq2, hg2⟩
          have HV2 : Hid (Inv w.heap.size gc (gc + 1) s w x2) := inv_second HG.out ha HE.out HC1.out HX.out.2 hq2 hg2
          clear hq2 hg2
          go_wp2_with fail
          go_meet
          exact ⟨rfl, HV2.out⟩
        · have hl : numB s a e 2 < 65536 := numB_lt s a e 2
          go_wp2_with fail
          refine (two_of gc s a e HSM.out ha W2 HC2.out).mono ?_; rintro r1 x1 ⟨rfl, hc1, hg1⟩
          have HX := Lib.hid (inv_first HG.out HQ2.out HB2.out hg1)
          have HC1 := Lib.hid hc1
          clear hc1 hg1
          go_wp2_with fail
          refine (rnum_any (gc + 1) s a e 2 HSM.out ha HE.out (by omega) x1 HX.out.1).mono ?_; rintro r2 x2 ⟨rfl, hq2, hg2⟩
          have HV2 : Hid (Inv w.heap.size gc (gc + 1) s w x2) := inv_second HG.out ha HE.out HC1.out HX.out.2 hq2 hg2
          clear hq2 hg2
          go_wp2_with fail
          go_meet
          exact ⟨rfl, HV2.out⟩
        · have hl : numB s a e 4 < 4294967296 := numB_lt s a e 4
          go_wp2_with fail
          refine (four_of gc s a e HSM.out ha W2 HC2.out).mono ?_; rintro r1 x1 ⟨rfl, hc1, hg1⟩
          have HX := Lib.hid (inv_first HG.out HQ2.out HB2.out hg1)
          have HC1 := Lib.hid hc1
          clear hc1 hg1
          go_wp2_with fail
          refine (rnum_any (gc + 1) s a e 4 HSM.out ha HE.out (by omega) x1 HX.out.1).mono ?_; rintro r2 x2 ⟨rfl, hq2, hg2⟩
          have HV2 : Hid (Inv w.heap.size gc (gc + 1) s w x2) := inv_second HG.out ha HE.out HC1.out HX.out.2 hq2 hg2
          clear hq2 hg2
          go_wp2_with fail
          go_meet
          exact ⟨rfl, HV2.out⟩
        · have hl : numB s a e 4 < 4294967296 := numB_lt s a e 4
          go_wp2_with fail
          refine (four_of gc s a e HSM.out ha W2 HC2.out).mono ?_; rintro r1 x1 ⟨rfl, hc1, hg1⟩
          have HX := Lib.hid (inv_first HG.out HQ2.out HB2.out hg1)
          have HC1 := Lib.hid hc1
          clear hc1 hg1
          go_wp2_with fail
          refine (rnum_any (gc + 1) s a e 4 HSM.out ha HE.out (by omega) x1 HX.out.1).mono ?_; rintro r2 x2 ⟨rfl, hq2, hg2⟩
          have HV2 : Hid (Inv w.heap.size gc (gc + 1) s w x2) := inv_second HG.out ha HE.out HC1.out HX.out.2 hq2 hg2
          clear hq2 hg2
          go_wp2_with fail
          go_meet
          exact ⟨rfl, HV2.out⟩
        · go_wp2_with fail
          refine (eight_of gc s a e HSM.out ha W2 HC2.out).mono ?_; rintro r1 x1 ⟨rfl, hc1, hg1⟩
          have HX := Lib.hid (inv_first HG.out HQ2.out HB2.out hg1)
          have HC1 := Lib.hid hc1
          clear hc1 hg1
          go_wp2_with fail
          refine (rnum_any (gc + 1) s a e 8 HSM.out ha HE.out (by omega) x1 HX.out.1).mono ?_; rintro r2 x2 ⟨rfl, hq2, hg2⟩
          have HV2 : Hid (Inv w.heap.size gc (gc + 1) s w x2) := inv_second HG.out ha HE.out HC1.out HX.out.2 hq2 hg2
          clear hq2 hg2
          go_wp2_with fail
          go_meet
          exact ⟨rfl, HV2.out⟩
        · go_wp2_with fail
          refine (eight_of gc s a e HSM.out ha W2 HC2.out).mono ?_; rintro r1 x1 ⟨rfl, hc1, hg1⟩
          have HX := Lib.hid (inv_first HG.out HQ2.out HB2.out hg1)
          have HC1 := Lib.hid hc1
          clear hc1 hg1
          go_wp2_with fail
          refine (rnum_any (gc + 1) s a e 8 HSM.out ha HE.out (by omega) x1 HX.out.1).mono ?_; rintro r2 x2 ⟨rfl, hq2, hg2⟩
          have HV2 : Hid (Inv w.heap.size gc (gc + 1) s w x2) := inv_second HG.out ha HE.out HC1.out HX.out.2 hq2 hg2
          clear hq2 hg2
          go_wp2_with fail
          go_meet
          exact ⟨rfl, HV2.out⟩
        · have hn2 := HN2.out
          go_wp2_with fail
          go_region_held3 (fun w' => w'.cell? ⟨ga, 1, none⟩ = some (.int .i64 nk)) (first | exact hn2 | exact hn3 | exact hn4) (first | (go_at_call 25; refine (take_any gc s a e nk HSM.out ha HNW.out _ ?_).mono ?_; exact HC2.out; rintro r1 x1 ⟨rfl, hc1, hg1⟩; have hn3 : x1.cell? ⟨ga, 1, none⟩ = some (.int .i64 nk) := cell_far (by exact hn2) hg1 (Nat.lt_of_succ_lt HGA.out)) | (go_at_call 26; refine (rtake_any (gc + 1) s a e nk HSM.out ha HE.out HNW.out _ ?_).mono ?_; exact (RCur.grown (by exact HQ2.out) hg1 (by intro h; injection h with h; omega)); rintro r2 x2 ⟨rfl, hq2, hg2⟩; have hn4 : x2.cell? ⟨ga, 1, none⟩ = some (.int .i64 nk) := cell_far (by exact hn3) hg2 HGA.out))
          all_goals
            have HV2 : Hid (Inv w.heap.size gc (gc + 1) s w x2) := by
              obtain ⟨y1, y2⟩ := inv_first (x := W2.drew) HG.out (by exact HQ2.out) HB2.out.drew hg1
              exact inv_second HG.out ha HE.out hc1 y2 hq2 hg2
            clear hn2 hn3 hn4 hc1 hg1 hq2 hg2
            go_wp2_with fail
            go_meet
            exact ⟨rfl, HV2.out⟩
        · have hn2 := HN2.out
          go_wp2_with fail
          go_region_held3 (fun w' => w'.cell? ⟨ga, 1, none⟩ = some (.int .i64 nk)) (first | exact hn2 | exact hn3 | exact hn4) (first | (go_at_call 25; refine (take_any gc s a e nk HSM.out ha HNW.out _ ?_).mono ?_; exact HC2.out; rintro r1 x1 ⟨rfl, hc1, hg1⟩; have hn3 : x1.cell? ⟨ga, 1, none⟩ = some (.int .i64 nk) := cell_far (by exact hn2) hg1 (Nat.lt_of_succ_lt HGA.out)) | (go_at_call 26; refine (rtake_any (gc + 1) s a e nk HSM.out ha HE.out HNW.out _ ?_).mono ?_; exact (RCur.grown (by exact HQ2.out) hg1 (by intro h; injection h with h; omega)); rintro r2 x2 ⟨rfl, hq2, hg2⟩; have hn4 : x2.cell? ⟨ga, 1, none⟩ = some (.int .i64 nk) := cell_far (by exact hn3) hg2 HGA.out))
          all_goals
            have HV2 : Hid (Inv w.heap.size gc (gc + 1) s w x2) := by
              obtain ⟨y1, y2⟩ := inv_first (x := W2.drew) HG.out (by exact HQ2.out) HB2.out.drew hg1
              exact inv_second HG.out ha HE.out hc1 y2 hq2 hg2
            clear hn2 hn3 hn4 hc1 hg1 hq2 hg2
            go_wp2_with fail
            go_meet
            exact ⟨rfl, HV2.out⟩
        · have hn2 := HN2.out
          have q0 := HQ2.out.c0
          have q1 := HQ2.out.c1
          have q2 := HQ2.out.c2
          go_wp2_with fail
          have hc3 := HC2.out.alloc (.cells #[.string s, .int .i64 a, .int .i64 e] 40)
          have hq3 := HQ2.out.alloc (.cells #[.string s, .int .i64 a, .int .i64 e] 40)
          have hb3 := HB2.out.alloc (Nat.le_trans HG.out (Nat.le_of_lt HC2.out.lt)) (.cells #[.string s, .int .i64 a, .int .i64 e] 40)
          have hp3 : RCur (W2.alloc (.cells #[.string s, .int .i64 a, .int .i64 e] 40)) W2.heap.size s a e := heap_alloc_new _ _
          have hlt3 : ga < W2.heap.size := block_lt_of_cell hn2
          have hn3 : (W2.alloc (.cells #[.string s, .int .i64 a, .int .i64 e] 40)).cell? ⟨ga, 1, none⟩ = some (.int .i64 nk) := (World.cell?_alloc_lt W2 _ ⟨ga, 1, none⟩ hlt3).trans hn2
          have HL3 := Lib.hid hlt3
          generalize W2.alloc (.cells #[.string s, .int .i64 a, .int .i64 e] 40) = W3 at *
          generalize W2.heap.size = gp at *
          have HC3 := Lib.hid hc3
          have HQ3 := Lib.hid hq3
          have HB3 := Lib.hid hb3
          have HP3 := Lib.hid hp3
          clear hc3 hq3 hb3 hp3 hn2 q0 q1 q2 hlt3
          go_region_held3 (fun w' => w'.cell? ⟨ga, 1, none⟩ = some (.int .i64 nk)) (first | exact hn3 | exact hn4) (first | (go_at_call 27; refine (peek_any gc s a e nk HSM.out ha HNW.out _ ?_).mono ?_; exact HC3.out; rintro r1 x1 ⟨rfl, d1, rfl⟩) | (go_at_call 26; refine (rtake_any gp s a e nk HSM.out ha HE.out HNW.out _ ?_).mono ?_; exact HP3.out; rintro r2 x2 ⟨rfl, hq2, hg2⟩; have hn4 : x2.cell? ⟨ga, 1, none⟩ = some (.int .i64 nk) := cell_near (by exact hn3) hg2 HL3.out))
          all_goals
            have HV2 : Hid (Inv w.heap.size gc (gc + 1) s w x2) := inv_other HG.out ha HE.out (by exact HC3.out) (by exact HQ3.out) (by first | exact below_drewN HB3.out.drew _ | exact below_drewN HB3.out _) hg2 (Nat.lt_trans HGA.out HL3.out)
            clear hn3 hn4 hq2 hg2
            go_wp2_with fail
            go_meet
            exact ⟨rfl, HV2.out⟩
        · have hn2 := HN2.out
          have q0 := HQ2.out.c0
          have q1 := HQ2.out.c1
          have q2 := HQ2.out.c2
          go_wp2_with fail
          have hc3 := HC2.out.alloc (.cells #[.string s, .int .i64 a, .int .i64 e] 40)
          have hq3 := HQ2.out.alloc (.cells #[.string s, .int .i64 a, .int .i64 e] 40)
          have hb3 := HB2.out.alloc (Nat.le_trans HG.out (Nat.le_of_lt HC2.out.lt)) (.cells #[.string s, .int .i64 a, .int .i64 e] 40)
          have hp3 : RCur (W2.alloc (.cells #[.string s, .int .i64 a, .int .i64 e] 40)) W2.heap.size s a e := heap_alloc_new _ _
          have hlt3 : ga < W2.heap.size := block_lt_of_cell hn2
          have hn3 : (W2.alloc (.cells #[.string s, .int .i64 a, .int .i64 e] 40)).cell? ⟨ga, 1, none⟩ = some (.int .i64 nk) := (World.cell?_alloc_lt W2 _ ⟨ga, 1, none⟩ hlt3).trans hn2
          have HL3 := Lib.hid hlt3
          generalize W2.alloc (.cells #[.string s, .int .i64 a, .int .i64 e] 40) = W3 at *
          generalize W2.heap.size = gp at *
          have HC3 := Lib.hid hc3
          have HQ3 := Lib.hid hq3
          have HB3 := Lib.hid hb3
          have HP3 := Lib.hid hp3
          clear hc3 hq3 hb3 hp3 hn2 q0 q1 q2 hlt3
          go_region_held3 (fun w' => w'.cell? ⟨ga, 1, none⟩ = some (.int .i64 nk)) (first | exact hn3 | exact hn4) (first | (go_at_call 27; refine (peek_any gc s a e nk HSM.out ha HNW.out _ ?_).mono ?_; exact HC3.out; rintro r1 x1 ⟨rfl, d1, rfl⟩) | (go_at_call 26; refine (rtake_any gp s a e nk HSM.out ha HE.out HNW.out _ ?_).mono ?_; exact HP3.out; rintro r2 x2 ⟨rfl, hq2, hg2⟩; have hn4 : x2.cell? ⟨ga, 1, none⟩ = some (.int .i64 nk) := cell_near (by exact hn3) hg2 HL3.out))
          all_goals
            have HV2 : Hid (Inv w.heap.size gc (gc + 1) s w x2) := inv_other HG.out ha HE.out (by exact HC3.out) (by exact HQ3.out) (by first | exact below_drewN HB3.out.drew _ | exact below_drewN HB3.out _) hg2 (Nat.lt_trans HGA.out HL3.out)
            clear hn3 hn4 hq2 hg2
            go_wp2_with fail
            go_meet
            exact ⟨rfl, HV2.out⟩
        · have hn2 := HN2.out
          by_cases h0 : nk < 0
          · go_wp2_with fail
            refine (seek_no gc s a e nk (by omega) W2 HC2.out).mono ?_; rintro r1 x1 ⟨rfl, rfl⟩
            go_wp2_with fail
            go_meet
            exact ⟨rfl, a, e, ha, HE.out, HC2.out, HQ2.out, HB2.out⟩
          · obtain ⟨m, rfl⟩ := Int.eq_ofNat_of_zero_le (show 0 ≤ nk by omega)
            have h0' : decide ((0 : Int) ≤ (m : Int)) = true := decide_eq_true (by omega)
            by_cases h1 : m ≤ s.size
            · have h1' : decide ((m : Int) ≤ (s.size : Int)) = true := decide_eq_true (by omega)
              go_wp2_with fail
              refine (seek_yes gc s a e m h1 W2 HC2.out).mono ?_; rintro r1 x1 ⟨rfl, hc1, hg1⟩
              have hn3 := cell_far (by exact hn2) hg1 (Nat.lt_of_succ_lt HGA.out)
              have HX := Lib.hid (inv_first HG.out HQ2.out HB2.out hg1)
              have HC1 := Lib.hid hc1
              have k1 := HX.out.1.c1
              have k2 := HX.out.1.c2
              have f1 := HX.out.1.fr 1
              have f2 := HX.out.1.fr 2
              clear hc1 hg1 hn2
              go_wp2_with fail
              go_meet
              refine ⟨rfl, m, 0, h1, .inl rfl, ?_, (HX.out.1.setAt m).setErr 0, (HX.out.2.setCell (by have := HG.out; simp; omega) _).setCell (by have := HG.out; simp; omega) _⟩
              exact (HC1.out.grown (grown_set _ (gc + 1) 1 _) (by intro h; injection h with h; omega)).grown (grown_set _ (gc + 1) 2 _) (by intro h; injection h with h; omega)
            · have h1' : decide ((m : Int) ≤ (s.size : Int)) = false := decide_eq_false (by omega)
              go_wp2_with fail
              refine (seek_no gc s a e m (by omega) W2 HC2.out).mono ?_; rintro r1 x1 ⟨rfl, rfl⟩
              go_wp2_with fail
              go_meet
              exact ⟨rfl, a, e, ha, HE.out, HC2.out, HQ2.out, HB2.out⟩
        · have hn2 := HN2.out
          by_cases h0 : nk < 0
          · go_wp2_with fail
            refine (seek_no gc s a e nk (by omega) W2 HC2.out).mono ?_; rintro r1 x1 ⟨rfl, rfl⟩
            go_wp2_with fail
            go_meet
            exact ⟨rfl, a, e, ha, HE.out, HC2.out, HQ2.out, HB2.out⟩
          · obtain ⟨m, rfl⟩ := Int.eq_ofNat_of_zero_le (show 0 ≤ nk by omega)
            have h0' : decide ((0 : Int) ≤ (m : Int)) = true := decide_eq_true (by omega)
            by_cases h1 : m ≤ s.size
            · have h1' : decide ((m : Int) ≤ (s.size : Int)) = true := decide_eq_true (by omega)
              go_wp2_with fail
              refine (seek_yes gc s a e m h1 W2 HC2.out).mono ?_; rintro r1 x1 ⟨rfl, hc1, hg1⟩
              have hn3 := cell_far (by exact hn2) hg1 (Nat.lt_of_succ_lt HGA.out)
              have HX := Lib.hid (inv_first HG.out HQ2.out HB2.out hg1)
              have HC1 := Lib.hid hc1
              have k1 := HX.out.1.c1
              have k2 := HX.out.1.c2
              have f1 := HX.out.1.fr 1
              have f2 := HX.out.1.fr 2
              clear hc1 hg1 hn2
              go_wp2_with fail
              go_meet
              refine ⟨rfl, m, 0, h1, .inl rfl, ?_, (HX.out.1.setAt m).setErr 0, (HX.out.2.setCell (by have := HG.out; simp; omega) _).setCell (by have := HG.out; simp; omega) _⟩
              exact (HC1.out.grown (grown_set _ (gc + 1) 1 _) (by intro h; injection h with h; omega)).grown (grown_set _ (gc + 1) 2 _) (by intro h; injection h with h; omega)
            · have h1' : decide ((m : Int) ≤ (s.size : Int)) = false := decide_eq_false (by omega)
              go_wp2_with fail
              refine (seek_no gc s a e m (by omega) W2 HC2.out).mono ?_; rintro r1 x1 ⟨rfl, rfl⟩
              go_wp2_with fail
              go_meet
              exact ⟨rfl, a, e, ha, HE.out, HC2.out, HQ2.out, HB2.out⟩
        · have hl : numB s a e 1 < 256 := numB_lt s a e 1
          go_wp2_with fail
          refine (one_any gc s a e HSM.out ha W2 HC2.out).mono ?_; rintro r1 x1 ⟨rfl, hc1, hg1⟩
          have HX := Lib.hid (inv_first HG.out HQ2.out HB2.out hg1)
          have HC1 := Lib.hid hc1
          clear hc1 hg1
          go_wp2_with fail
          refine (rnum_any (gc + 1) s a e 1 HSM.out ha HE.out (by omega) x1 HX.out.1).mono ?_; rintro r2 x2 ⟨rfl, hq2, hg2⟩
          have HV2 : Hid (Inv w.heap.size gc (gc + 1) s w x2) := inv_second HG.out ha HE.out HC1.out HX.out.2 hq2 hg2
          clear hq2 hg2
          go_wp2_with fail
          go_meet
          exact ⟨rfl, HV2.out⟩
      case rest =>
        obtain ⟨rfl, a', e', ha', he', hc', hq', hb'⟩ := hcut
        have q1 := hq'.c1
        have q2 := hq'.c2
        have hsm : s.size ≤ maxLen := by unfold maxLen; omega
        have KA := Lib.hid (fun n => at_any gc s a' e' (wc.drewN n) (hc'.drewN n))
        have KL := Lib.hid (fun n => left_any gc s a' e' hsm ha' (wc.drewN n) (hc'.drewN n))
        have KE := Lib.hid (fun n => err_any gc s a' e' (wc.drewN n) (hc'.drewN n))
        have HI' : Hid (∀ n, Inv w.heap.size gc (gc + 1) s w (wc.drewN n)) := fun n => ⟨a', e', ha', he', hc'.drewN n, hq'.drewN n, below_drewN hb' n⟩
        have he2 : e' ≤ 3 := by omega
        clear hc' hq' hb' hsm he'
        go_wp2_with fail
        go_quiet ((first | (go_at_call 30; exact Calls.quiet_of_same ((KA.out _).mono fun _ _ h => ⟨h.1, h.2.symm⟩)) | (go_at_call 31; exact Calls.quiet_of (KL.out _)) | (go_at_call 32; exact Calls.quiet_of_same ((KE.out _).mono fun _ _ h => ⟨h.1, h.2.symm⟩))))
        go_wp2
        go_roundw
        case rel => exact ⟨k + 1, by omega, by go_num, HI'.out _⟩
        case measure => simp [intOf]; omega
    · obtain rfl : k = len := by omega
      go_wp2
      go_ret
      obtain ⟨a, e, ha, he, hc, hq, hb⟩ := HV.out
      exact ⟨rfl, hb⟩

set_option maxRecDepth 100000 in
set_option maxHeartbeats 1000000 in
theorem cursorReads_none (s : ByteArray) (p : Option Addr) (cap : Nat) (h5 : s.size ≤ 5000) (w : World) :
    Calls Try.prog 4 #[.string s, .slice p 0 cap] w fun e w' => e = .returned (.bool true) ∧ Below w.heap.size w w' := by
  go_enter Try.func4, Try.ntmps4
  go_wp2_with (first | (go_at_call 12; refine (awake1_any _).mono ?_; rintro r wA ⟨rfl, hbA⟩) | (go_at_call 20; refine (over_any _ _).mono ?_; rintro r wB ⟨rfl, rfl⟩))
  have hbel : Below w.heap.size w ((wA.alloc (.cells #[.string s, .int .i64 0, .int .i64 0] 72)).alloc (.cells #[.string s, .int .i64 0, .int .i64 0] 40)) := (hbA.alloc hbA.size _).alloc (by have := hbA.size; simp; omega) _
  generalize (wA.alloc (.cells #[.string s, .int .i64 0, .int .i64 0] 72)).alloc (.cells #[.string s, .int .i64 0, .int .i64 0] 40) = W1 at *
  have HI := Lib.hid hbel
  clear hbel hbA
  go_loopw [29] (fun i wr => i = .int .i64 0 ∧ wr = W1) (fun _ _ => 0)
  case atStart => exact ⟨rfl, rfl⟩
  case round =>
    obtain ⟨rfl, rfl⟩ := hrel
    go_wp2
    go_ret
    exact ⟨rfl, HI.out⟩

set_option maxRecDepth 100000 in
set_option maxHeartbeats 1000000 in
theorem cursorReads_long (s : ByteArray) (p : Option Addr) (len cap : Nat) (h : 5000 < s.size ∨ s.size ≤ 5000 ∧ 60 < len) (w : World) :
    Calls Try.prog 4 #[.string s, .slice p len cap] w fun e w' => e = .returned (.bool true) ∧ Below w.heap.size w w' := by
  rcases h with h | ⟨h, h2⟩
  · go_enter Try.func4, Try.ntmps4
    go_wp2_with (go_at_call 12; refine (awake1_any _).mono ?_; rintro r wA ⟨rfl, hbA⟩)
    go_ret
    exact ⟨rfl, hbA⟩
  · go_enter Try.func4, Try.ntmps4
    go_wp2_with (go_at_call 12; refine (awake1_any _).mono ?_; rintro r wA ⟨rfl, hbA⟩)
    go_ret
    exact ⟨rfl, hbA⟩

/-- CursorReads, over a script that came in: none, or cells of pairs. -/
theorem cursorReads_walk (s : ByteArray) (p : Option Addr) (len cap : Nat) (D N : Nat → Int) (w : World)
    (hp : 0 < len → ∃ b off, p = some ⟨b, off, none⟩ ∧ b < w.heap.size ∧
      (∀ i, i < len → w.cell? ⟨b, off + i * 2, none⟩ = some (.int .i64 (D i)) ∧ (Lit.int .i64 (D i)).wf = true) ∧ (∀ i, i < len → w.cell? ⟨b, off + i * 2 + 1, none⟩ = some (.int .i64 (N i)) ∧ (Lit.int .i64 (N i)).wf = true)) :
    Calls Try.prog 4 #[.string s, .slice p len cap] w fun e w' => e = .returned (.bool true) ∧ Below w.heap.size w w' := by
  by_cases h5 : s.size ≤ 5000
  · by_cases h60 : len ≤ 60
    · by_cases h0 : len = 0
      · subst h0
        exact cursorReads_none s p cap h5 w
      · obtain ⟨b, off, rfl, hb, hD, hN⟩ := hp (by omega)
        exact cursorReads_main s b off len cap D N h5 h60 w hb hD hN
    · exact cursorReads_long s p len cap (.inr ⟨h5, by omega⟩) w
  · exact cursorReads_long s p len cap (.inl (by omega)) w
end Go.Proofs.Ytcfpkmonbnfehaa
