/-
  The walk of BitsReads: it returns true, whatever the text and the script.
-/
import Derived.Test.YtmmcolfeboammaaBitsS
import Derived.Test.YtmmcolfeboammaaBitsN
import Derived.Test.YtmmcolfeboammaaActs
import Derived.Deep.RegionHeld3
import Derived.Deep.DeepCutAuto
import Derived.Deep.CutBlock
namespace Go.Proofs.Ytmmcolfeboammaa
open Go.RowKit Go.Joins

/-- Both readers stand alike, and below nothing has turned. -/
def Inv (B gc gq : Nat) (s : ByteArray) (w0 wr : World) : Prop := ∃ a e : Nat, a ≤ 8 * s.size ∧ e ≤ 3 ∧ Rd 77 wr gc s a e ∧ Rd 28 wr gq s a e ∧ Below B w0 wr

theorem cell_far {x y : World} {ga gc i : Nat} {v : Value} (h : x.cell? ⟨ga, i, none⟩ = some v) (hg : x.grownBy y (some gc)) (hne : gc < ga) : y.cell? ⟨ga, i, none⟩ = some v :=
  hg.cell h (fun e => by
    have h2 : ga = gc := by injection e
    omega)
/-- Behind the program's call. -/
theorem inv_first {T : TypeId} {B gc a e : Nat} {s : ByteArray} {w0 x y : World} (hG : B ≤ gc) (hq : Rd T x (gc + 1) s a e) (hb : Below B w0 x) (hg : x.grownBy y (some gc)) : Rd T y (gc + 1) s a e ∧ Below B w0 y :=
  ⟨hq.grown hg (by intro h; injection h with h; omega), hb.grown hg (Nat.le_trans hG (by have := hq.lt; omega)) (by intro k hk; injection hk with hk; omega)⟩
/-- Behind both. -/
theorem inv_second {B gc a e : Nat} {s : ByteArray} {w0 y z : World} (hG : B ≤ gc) (ha : a ≤ 8 * s.size) (he : e ≤ 3) (hc : Rd 77 y gc s a e) (hb : Below B w0 y)
    (hq : Rd 28 z (gc + 1) s a e) (hg : y.grownBy z (some (gc + 1))) : Inv B gc (gc + 1) s w0 z :=
  ⟨_, _, ha, he, hc.grown hg (by intro h; injection h with h; omega), hq, hb.grown hg (Nat.le_trans hG (Nat.le_of_lt hc.lt)) (by intro k hk; injection hk with hk; omega)⟩
theorem skipE_le (s : ByteArray) (a e : Nat) (n : Int) (he : e ≤ 3) : skipE s a e n ≤ 3 := by unfold skipE; (repeat' split) <;> omega
theorem readE_le (s : ByteArray) (a e : Nat) (n : Int) (he : e ≤ 3) : readE s a e n ≤ 3 := by unfold readE; (repeat' split) <;> omega
theorem bytE_le (s : ByteArray) (a e : Nat) (n : Int) (he : e ≤ 3) : bytE s a e n ≤ 3 := by unfold bytE; (repeat' split) <;> omega

set_option maxRecDepth 100000 in
set_option maxHeartbeats 8000000 in
theorem bitsReads_main (s : ByteArray) (b off len cap : Nat) (f : Nat → Act) (h5 : s.size ≤ 2000) (h60 : len ≤ 60) (w : World) (hbb : b < w.heap.size) (hf : ∀ i, i < len → ActAt w b (off + i * 4) (f i)) :
    Calls Try.prog 3 #[.string s, .slice (some ⟨b, off, none⟩) len cap] w fun e w' => e = .returned (.bool true) ∧ Below w.heap.size w w' := by
  have HF := Lib.hid hf
  clear hf
  go_enter Try.func3, Try.ntmps3
  go_wp2_with (first | (go_at_call 12; refine (awake3_any _).mono ?_; rintro r wA ⟨rfl, hbA⟩) | (go_at_call 13; refine (over_any _ _).mono ?_; rintro r wB ⟨rfl, rfl⟩))
  have hc : Rd 77 ((wA.alloc (.cells #[.string s, .int .i64 0, .int .i64 0] 77)).alloc (.cells #[.string s, .int .i64 0, .int .i64 0] 28)) wA.heap.size s 0 0 := Rd.alloc (heap_alloc_new _ _) _
  have hq : Rd 28 ((wA.alloc (.cells #[.string s, .int .i64 0, .int .i64 0] 77)).alloc (.cells #[.string s, .int .i64 0, .int .i64 0] 28)) (wA.heap.size + 1) s 0 0 := heap_alloc2_new _ _ _
  have hbel : Below w.heap.size w ((wA.alloc (.cells #[.string s, .int .i64 0, .int .i64 0] 77)).alloc (.cells #[.string s, .int .i64 0, .int .i64 0] 28)) := (hbA.alloc hbA.size _).alloc (by have := hbA.size; simp; omega) _
  have HG := Lib.hid hbA.size
  generalize (wA.alloc (.cells #[.string s, .int .i64 0, .int .i64 0] 77)).alloc (.cells #[.string s, .int .i64 0, .int .i64 0] 28) = W1 at *
  generalize wA.heap.size = gc at *
  have HI : Hid (Inv w.heap.size gc (gc + 1) s w W1) := ⟨0, 0, Nat.zero_le _, by omega, hc, hq, hbel⟩
  clear hc hq hbel hbA
  go_loopw [31] (fun i wr => ∃ k : Nat, k ≤ len ∧ i = .int .i64 k ∧ Inv w.heap.size gc (gc + 1) s w wr) (fun i _ => len - (intOf i).toNat)
  case atStart => exact ⟨0, Nat.zero_le _, rfl, HI.out⟩
  case round =>
    obtain ⟨k, hk, rfl, hinv⟩ := hrel
    have HV := Lib.hid hinv
    clear hinv
    by_cases hlt : k < len
    · obtain ⟨a, e, ha, he, hc, hq, hb⟩ := HV.out
      have hat := (HF.out k hlt).below hb hbb
      generalize f k = ac at hat
      obtain ⟨dk, nk, vk, sk⟩ := ac
      obtain ⟨q0, q1, q2, q3, w0, w1, w2, w3⟩ := hat
      replace q0 : wr.cell? ⟨b, off + k * 4, none⟩ = some (.int .i64 dk) := q0
      replace q1 : wr.cell? ⟨b, off + k * 4 + 1, none⟩ = some (.int .i64 nk) := q1
      replace q2 : wr.cell? ⟨b, off + k * 4 + 2, none⟩ = some (.int .u32 (vk : Nat)) := q2
      replace q3 : wr.cell? ⟨b, off + k * 4 + 3, none⟩ = some (.string sk) := q3
      replace w0 : (Lit.int .i64 dk).wf = true := w0
      replace w1 : (Lit.int .i64 nk).wf = true := w1
      have hbN := bounds_i64 w1
      have hbD := bounds_i64 w0
      have HC := Lib.hid hc
      have HQ := Lib.hid hq
      have HB := Lib.hid hb
      have HNW := Lib.hid w1
      clear hc hq hb w0 w1
      go_upto_block 2 with (fail)
      have hc2 := HC.out.alloc (.cells #[.int .i64 dk, .int .i64 nk, .int .u32 (vk : Nat), .string sk] 31)
      have hq2 := HQ.out.alloc (.cells #[.int .i64 dk, .int .i64 nk, .int .u32 (vk : Nat), .string sk] 31)
      have hb2 := HB.out.alloc HB.out.size (.cells #[.int .i64 dk, .int .i64 nk, .int .u32 (vk : Nat), .string sk] 31)
      have hn2 : (wr.alloc (.cells #[.int .i64 dk, .int .i64 nk, .int .u32 (vk : Nat), .string sk] 31)).cell? ⟨wr.heap.size, 1, none⟩ = some (.int .i64 nk) := by
        rw [cell_of_row _ _ 1 _ _ _ (heap_alloc_new _ _)]
        rfl
      have hga : gc + 1 < wr.heap.size := HQ.out.lt
      have HGA := Lib.hid hga
      generalize wr.alloc (.cells #[.int .i64 dk, .int .i64 nk, .int .u32 (vk : Nat), .string sk] 31) = W2 at *
      generalize wr.heap.size = ga at *
      have HC2 := Lib.hid hc2
      have HQ2 := Lib.hid hq2
      have HB2 := Lib.hid hb2
      have HN2 := Lib.hid hn2
      clear hc2 hq2 hb2 hga q0 q1 q2 q3 HC HQ HB HV hn2
      go_cut [9] (fun s9 wx => s9 = .bool true ∧ Inv w.heap.size gc (gc + 1) s w wx)
      case first =>
        have hr1 : -5 < dk.tmod 5 := by have := Int.lt_tmod_of_pos dk (show (0 : Int) < 5 by omega); omega
        have hr2 : dk.tmod 5 < 5 := Int.tmod_lt_of_pos dk (by omega)
        generalize dk.tmod 5 = r at *
        have hsm : s.size ≤ 1000000 := by omega
        have HSM := Lib.hid hsm
        have HE := Lib.hid he
        have HAA := Lib.hid ha
        clear hsm he ha
        have hrr : r = 1 ∨ r = -1 ∨ r = 2 ∨ r = -2 ∨ r = 3 ∨ r = -3 ∨ r = 4 ∨ r = -4 ∨ r = 0 := by omega
        clear hr1 hr2
        rcases hrr with h | h | h | h | h | h | h | h | h <;> subst h
        · have hl := bitsAt_lt32 (num s) a _ (peekM_le s a e nk)
          have hp32 := peekM_le s a e nk
          have hn2 := HN2.out
          have hk1 := peek_any gc s a e nk HSM.out HAA.out W2 HC2.out
          have hk2 := fun d => rpeek_any (gc + 1) s a e nk HSM.out HAA.out (W2.drewN d) (HQ2.out.drewN d)
          generalize bitsAt (num s) a (peekM s a e nk) = v at *
          generalize peekM s a e nk = p at *
          have HK1 := Lib.hid hk1
          have HK2 := Lib.hid hk2
          clear hk1 hk2
          go_wp2_with fail
          refine (HK1.out).mono ?_; rintro r1 x1 ⟨rfl, d1, rfl⟩
          go_wp2_with fail
          refine (HK2.out d1).mono ?_; rintro r2 x2 ⟨rfl, d2, rfl⟩
          go_wp2_with fail
          go_meet
          exact ⟨rfl, a, e, HAA.out, HE.out, HC2.out.drewN (d1 + d2), HQ2.out.drewN (d1 + d2), below_drewN HB2.out (d1 + d2)⟩
        · have hl := bitsAt_lt32 (num s) a _ (peekM_le s a e nk)
          have hp32 := peekM_le s a e nk
          have hn2 := HN2.out
          have hk1 := peek_any gc s a e nk HSM.out HAA.out W2 HC2.out
          have hk2 := fun d => rpeek_any (gc + 1) s a e nk HSM.out HAA.out (W2.drewN d) (HQ2.out.drewN d)
          generalize bitsAt (num s) a (peekM s a e nk) = v at *
          generalize peekM s a e nk = p at *
          have HK1 := Lib.hid hk1
          have HK2 := Lib.hid hk2
          clear hk1 hk2
          go_wp2_with fail
          refine (HK1.out).mono ?_; rintro r1 x1 ⟨rfl, d1, rfl⟩
          go_wp2_with fail
          refine (HK2.out d1).mono ?_; rintro r2 x2 ⟨rfl, d2, rfl⟩
          go_wp2_with fail
          go_meet
          exact ⟨rfl, a, e, HAA.out, HE.out, HC2.out.drewN (d1 + d2), HQ2.out.drewN (d1 + d2), below_drewN HB2.out (d1 + d2)⟩
        · have hn2 := HN2.out
          have HLE := Lib.hid (skipA_le s a e nk HAA.out)
          have HLE2 := Lib.hid (skipE_le s a e nk HE.out)
          go_wp2_with fail
          refine (skip_any gc s a e nk HSM.out HAA.out W2 HC2.out).mono ?_; rintro r1 x1 ⟨rfl, hc1, hg1⟩
          have hn3 := cell_far (by exact hn2) hg1 (Nat.lt_of_succ_lt HGA.out)
          have HX := Lib.hid (inv_first HG.out HQ2.out HB2.out hg1)
          have HC1 := Lib.hid hc1
          clear hc1 hg1 hn2
          go_wp2_with fail
          refine (rskip_any (gc + 1) s a e nk HNW.out HSM.out HAA.out x1 HX.out.1).mono ?_; rintro r2 x2 ⟨rfl, hq2, hg2⟩
          have HV2 : Hid (Inv w.heap.size gc (gc + 1) s w x2) := inv_second HG.out HLE.out HLE2.out HC1.out HX.out.2 hq2 hg2
          clear hq2 hg2 hn3
          go_wp2_with fail
          go_meet
          exact ⟨rfl, HV2.out⟩
        · have hn2 := HN2.out
          have HLE := Lib.hid (skipA_le s a e nk HAA.out)
          have HLE2 := Lib.hid (skipE_le s a e nk HE.out)
          go_wp2_with fail
          refine (skip_any gc s a e nk HSM.out HAA.out W2 HC2.out).mono ?_; rintro r1 x1 ⟨rfl, hc1, hg1⟩
          have hn3 := cell_far (by exact hn2) hg1 (Nat.lt_of_succ_lt HGA.out)
          have HX := Lib.hid (inv_first HG.out HQ2.out HB2.out hg1)
          have HC1 := Lib.hid hc1
          clear hc1 hg1 hn2
          go_wp2_with fail
          refine (rskip_any (gc + 1) s a e nk HNW.out HSM.out HAA.out x1 HX.out.1).mono ?_; rintro r2 x2 ⟨rfl, hq2, hg2⟩
          have HV2 : Hid (Inv w.heap.size gc (gc + 1) s w x2) := inv_second HG.out HLE.out HLE2.out HC1.out HX.out.2 hq2 hg2
          clear hq2 hg2 hn3
          go_wp2_with fail
          go_meet
          exact ⟨rfl, HV2.out⟩
        · have HLE := Lib.hid (alignA_le s a e HAA.out)
          go_wp2_with fail
          refine (align_any gc s a e HSM.out HAA.out W2 HC2.out).mono ?_; rintro r1 x1 ⟨rfl, hc1, hg1⟩
          have HX := Lib.hid (inv_first HG.out HQ2.out HB2.out hg1)
          have HC1 := Lib.hid hc1
          clear hc1 hg1
          go_wp2_with fail
          refine (ralign_any (gc + 1) s a e HSM.out HAA.out x1 HX.out.1).mono ?_; rintro r2 x2 ⟨rfl, hq2, hg2⟩
          have HV2 : Hid (Inv w.heap.size gc (gc + 1) s w x2) := inv_second HG.out HLE.out HE.out HC1.out HX.out.2 hq2 hg2
          clear hq2 hg2
          go_wp2_with fail
          go_meet
          exact ⟨rfl, HV2.out⟩
        · have HLE := Lib.hid (alignA_le s a e HAA.out)
          go_wp2_with fail
          refine (align_any gc s a e HSM.out HAA.out W2 HC2.out).mono ?_; rintro r1 x1 ⟨rfl, hc1, hg1⟩
          have HX := Lib.hid (inv_first HG.out HQ2.out HB2.out hg1)
          have HC1 := Lib.hid hc1
          clear hc1 hg1
          go_wp2_with fail
          refine (ralign_any (gc + 1) s a e HSM.out HAA.out x1 HX.out.1).mono ?_; rintro r2 x2 ⟨rfl, hq2, hg2⟩
          have HV2 : Hid (Inv w.heap.size gc (gc + 1) s w x2) := inv_second HG.out HLE.out HE.out HC1.out HX.out.2 hq2 hg2
          clear hq2 hg2
          go_wp2_with fail
          go_meet
          exact ⟨rfl, HV2.out⟩
        · have hn2 := HN2.out
          have HLE := Lib.hid (bytA_le s a e nk HAA.out)
          have HLE2 := Lib.hid (bytE_le s (alignA a e) e nk HE.out)
          go_wp2_with fail
          go_region_held3 (fun w' => w'.cell? ⟨ga, 1, none⟩ = some (.int .i64 nk)) (first | exact hn2 | exact hn3 | exact hn4) (first | (go_at_call 20; refine (bytes_any gc s a e nk HSM.out HAA.out _ ?_).mono ?_; exact HC2.out; rintro r1 x1 ⟨rfl, hc1, hg1⟩; have hn3 : x1.cell? ⟨ga, 1, none⟩ = some (.int .i64 nk) := cell_far (by exact hn2) hg1 (Nat.lt_of_succ_lt HGA.out)) | (go_at_call 21; refine (rbytes_any (gc + 1) s a e nk HNW.out HSM.out HAA.out _ ?_).mono ?_; exact (Rd.grown (by exact HQ2.out) hg1 (by intro h; injection h with h; omega)); rintro r2 x2 ⟨rfl, hq2, hg2⟩; have hn4 : x2.cell? ⟨ga, 1, none⟩ = some (.int .i64 nk) := cell_far (by exact hn3) hg2 HGA.out))
          all_goals
            have HV2 : Hid (Inv w.heap.size gc (gc + 1) s w x2) := by
              obtain ⟨y1, y2⟩ := inv_first (x := W2.drew) HG.out (by exact HQ2.out) HB2.out.drew hg1
              exact inv_second HG.out HLE.out HLE2.out hc1 y2 hq2 hg2
            clear hn2 hn3 hn4 hc1 hg1 hq2 hg2
            go_wp2_with fail
            go_meet
            exact ⟨rfl, HV2.out⟩
        · have hn2 := HN2.out
          have HLE := Lib.hid (bytA_le s a e nk HAA.out)
          have HLE2 := Lib.hid (bytE_le s (alignA a e) e nk HE.out)
          go_wp2_with fail
          go_region_held3 (fun w' => w'.cell? ⟨ga, 1, none⟩ = some (.int .i64 nk)) (first | exact hn2 | exact hn3 | exact hn4) (first | (go_at_call 20; refine (bytes_any gc s a e nk HSM.out HAA.out _ ?_).mono ?_; exact HC2.out; rintro r1 x1 ⟨rfl, hc1, hg1⟩; have hn3 : x1.cell? ⟨ga, 1, none⟩ = some (.int .i64 nk) := cell_far (by exact hn2) hg1 (Nat.lt_of_succ_lt HGA.out)) | (go_at_call 21; refine (rbytes_any (gc + 1) s a e nk HNW.out HSM.out HAA.out _ ?_).mono ?_; exact (Rd.grown (by exact HQ2.out) hg1 (by intro h; injection h with h; omega)); rintro r2 x2 ⟨rfl, hq2, hg2⟩; have hn4 : x2.cell? ⟨ga, 1, none⟩ = some (.int .i64 nk) := cell_far (by exact hn3) hg2 HGA.out))
          all_goals
            have HV2 : Hid (Inv w.heap.size gc (gc + 1) s w x2) := by
              obtain ⟨y1, y2⟩ := inv_first (x := W2.drew) HG.out (by exact HQ2.out) HB2.out.drew hg1
              exact inv_second HG.out HLE.out HLE2.out hc1 y2 hq2 hg2
            clear hn2 hn3 hn4 hc1 hg1 hq2 hg2
            go_wp2_with fail
            go_meet
            exact ⟨rfl, HV2.out⟩
        · have hn2 := HN2.out
          have HLE := Lib.hid (readA_le s a e nk HAA.out)
          have HLE2 := Lib.hid (readE_le s a e nk HE.out)
          go_wp2_with fail
          go_region_held3 (fun w' => w'.cell? ⟨ga, 1, none⟩ = some (.int .i64 nk)) (first | exact hn2 | exact hn3 | exact hn4) (first | (go_at_call 22; refine (read_any gc s a e nk HSM.out HAA.out _ ?_).mono ?_; exact HC2.out; rintro r1 x1 ⟨rfl, hc1, hg1⟩; have hn3 : x1.cell? ⟨ga, 1, none⟩ = some (.int .i64 nk) := cell_far (by exact hn2) hg1 (Nat.lt_of_succ_lt HGA.out)) | (go_at_call 23; refine (rread_any (gc + 1) s a e nk HSM.out HAA.out _ ?_).mono ?_; exact (Rd.grown (by exact HQ2.out) hg1 (by intro h; injection h with h; omega)); rintro r2 x2 ⟨rfl, hq2, hg2⟩; have hn4 : x2.cell? ⟨ga, 1, none⟩ = some (.int .i64 nk) := cell_far (by exact hn3) hg2 HGA.out))
          all_goals
            have HV2 : Hid (Inv w.heap.size gc (gc + 1) s w x2) := by
              obtain ⟨y1, y2⟩ := inv_first (x := W2.drew) HG.out (by exact HQ2.out) HB2.out.drew hg1
              exact inv_second HG.out HLE.out HLE2.out hc1 y2 hq2 hg2
            clear hn2 hn3 hn4 hc1 hg1 hq2 hg2
            go_wp2_with fail
            go_meet
            exact ⟨rfl, HV2.out⟩
      case rest =>
        obtain ⟨rfl, a', e', ha', he', hc', hq', hb'⟩ := hcut
        have q1 := hq'.c1
        have q2 := hq'.c2
        have KA := Lib.hid (fun n => at_any gc s a' e' (wc.drewN n) (hc'.drewN n))
        have KE := Lib.hid (fun n => err_any gc s a' e' (wc.drewN n) (hc'.drewN n))
        have HI' : Hid (∀ n, Inv w.heap.size gc (gc + 1) s w (wc.drewN n)) := fun n => ⟨a', e', ha', he', hc'.drewN n, hq'.drewN n, below_drewN hb' n⟩
        clear hc' hq' hb'
        go_wp2_with fail
        go_quiet ((first | (go_at_call 24; exact Calls.quiet_of_same ((KA.out _).mono fun _ _ h => ⟨h.1, h.2.symm⟩)) | (go_at_call 25; exact Calls.quiet_of_same ((KE.out _).mono fun _ _ h => ⟨h.1, h.2.symm⟩))))
        go_wp2
        go_roundw
        case rel => exact ⟨k + 1, by omega, by go_num, HI'.out _⟩
        case measure => simp [intOf]; omega
    · obtain rfl : k = len := by omega
      go_wp2
      go_ret
      obtain ⟨a, e, ha, he, hc, hq, hb⟩ := HV.out
      exact ⟨rfl, hb⟩

set_option maxRecDepth 100000 in
set_option maxHeartbeats 1000000 in
theorem bitsReads_none (s : ByteArray) (p : Option Addr) (cap : Nat) (h5 : s.size ≤ 2000) (w : World) :
    Calls Try.prog 3 #[.string s, .slice p 0 cap] w fun e w' => e = .returned (.bool true) ∧ Below w.heap.size w w' := by
  go_enter Try.func3, Try.ntmps3
  go_wp2_with (first | (go_at_call 12; refine (awake3_any _).mono ?_; rintro r wA ⟨rfl, hbA⟩) | (go_at_call 13; refine (over_any _ _).mono ?_; rintro r wB ⟨rfl, rfl⟩))
  have hbel : Below w.heap.size w ((wA.alloc (.cells #[.string s, .int .i64 0, .int .i64 0] 77)).alloc (.cells #[.string s, .int .i64 0, .int .i64 0] 28)) := (hbA.alloc hbA.size _).alloc (by have := hbA.size; simp; omega) _
  generalize (wA.alloc (.cells #[.string s, .int .i64 0, .int .i64 0] 77)).alloc (.cells #[.string s, .int .i64 0, .int .i64 0] 28) = W1 at *
  have HI := Lib.hid hbel
  clear hbel hbA
  go_loopw [31] (fun i wr => i = .int .i64 0 ∧ wr = W1) (fun _ _ => 0)
  case atStart => exact ⟨rfl, rfl⟩
  case round =>
    obtain ⟨rfl, rfl⟩ := hrel
    go_wp2
    go_ret
    exact ⟨rfl, HI.out⟩

set_option maxRecDepth 100000 in
set_option maxHeartbeats 1000000 in
theorem bitsReads_long (s : ByteArray) (p : Option Addr) (len cap : Nat) (h : 2000 < s.size ∨ s.size ≤ 2000 ∧ 60 < len) (w : World) :
    Calls Try.prog 3 #[.string s, .slice p len cap] w fun e w' => e = .returned (.bool true) ∧ Below w.heap.size w w' := by
  rcases h with h | ⟨h, h2⟩
  · go_enter Try.func3, Try.ntmps3
    go_wp2_with (go_at_call 12; refine (awake3_any _).mono ?_; rintro r wA ⟨rfl, hbA⟩)
    go_ret
    exact ⟨rfl, hbA⟩
  · go_enter Try.func3, Try.ntmps3
    go_wp2_with (go_at_call 12; refine (awake3_any _).mono ?_; rintro r wA ⟨rfl, hbA⟩)
    go_ret
    exact ⟨rfl, hbA⟩

/-- BitsReads, over a script that came in. -/
theorem bitsReads_walk (s : ByteArray) (p : Option Addr) (len cap : Nat) (f : Nat → Act) (w : World) (hp : IsActs w p len f) :
    Calls Try.prog 3 #[.string s, .slice p len cap] w fun e w' => e = .returned (.bool true) ∧ Below w.heap.size w w' := by
  by_cases h5 : s.size ≤ 2000
  · by_cases h60 : len ≤ 60
    · by_cases h0 : len = 0
      · subst h0
        exact bitsReads_none s p cap h5 w
      · obtain ⟨b, off, rfl, hb, hf⟩ := hp (by omega)
        exact bitsReads_main s b off len cap f h5 h60 w hb hf
    · exact bitsReads_long s p len cap (.inr ⟨h5, by omega⟩) w
  · exact bitsReads_long s p len cap (.inl (by omega)) w
end Go.Proofs.Ytmmcolfeboammaa
