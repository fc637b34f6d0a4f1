/-
  The walk of BitsWrites: it returns true, whatever the script, the bits and the count.
-/
import Derived.Test.YtmmcolfeboammaaBitsP
import Derived.Test.YtmmcolfeboammaaBitsN
import Derived.Test.YtmmcolfeboammaaActs
import Derived.Deep.RegionHeld3
import Derived.Deep.DeepCutAuto
import Derived.Deep.CutBlock
namespace Go.Proofs.Ytmmcolfeboammaa
open Go.RowKit Go.Joins

theorem Qr.row_lt {w : World} {B g M L : Nat} {r : Option Nat} (h : Qr w B g r M L) : ∀ i, some i = r → B ≤ i ∧ i < w.heap.size := by
  obtain ⟨_, v, hb, ho, hr, hBg⟩ := h
  intro i e
  exact ho.lt i (by rw [hr, e])
theorem Qr.lt {w : World} {B g M L : Nat} {r : Option Nat} (h : Qr w B g r M L) : g < w.heap.size := by
  obtain ⟨_, v, hb, _⟩ := h
  exact lt_of_block' hb
theorem Qr.ge {w : World} {B g M L : Nat} {r : Option Nat} (h : Qr w B g r M L) : ∀ i, (i = g ∨ some i = r) → B ≤ i := by
  rintro i (rfl | e)
  · obtain ⟨_, v, _, _, _, hBg⟩ := h
    exact hBg
  · exact (h.row_lt i e).1
theorem Qr.stay {w w' : World} {B g M L : Nat} {r : Option Nat} (h : Qr w B g r M L) (hk : ∀ i, i < w.heap.size → (i = g ∨ some i = r) → w'.heap[i]? = w.heap[i]?) : Qr w' B g r M L := by
  have hg := h.lt
  have hrl := h.row_lt
  obtain ⟨hM, v, hb, ho, hr, hBg⟩ := h
  exact ⟨hM, v, (hk g hg (.inl rfl)).trans hb, row_kept ho fun b hb => hk b (hrl b (by rw [← hb, hr])).2 (.inr (by rw [← hb, hr])), hr, hBg⟩
theorem Wr.row_ne {w : World} {B g g' M L : Nat} {r : Option Nat} {cs : Array Value} {T : TypeId} (hT : T ≠ 5) (h : Wr w B g r M L) (hh : w.heap[g']? = some (.cells cs T (0, 0))) : r ≠ some g' := by
  obtain ⟨_, v, _, ho, hr, _⟩ := h
  exact hr ▸ Go.Proofs.Ytmmcolfeboammaa.row_ne hT ho hh
theorem Qr.row_ne {w : World} {B g g' M L : Nat} {r : Option Nat} {cs : Array Value} {T : TypeId} (hT : T ≠ 5) (h : Qr w B g r M L) (hh : w.heap[g']? = some (.cells cs T (0, 0))) : r ≠ some g' := by
  obtain ⟨_, v, _, ho, hr, _⟩ := h
  exact hr ▸ Go.Proofs.Ytmmcolfeboammaa.row_ne hT ho hh
/-- No row is shared. -/
def Apart (r r' : Option Nat) : Prop := ∀ b, r = some b → r' ≠ some b
theorem pair_first {w w1 : World} {B g q M L M' L' : Nat} {r r' s : Option Nat} (hne : q ≠ g) (hw : Wr w B g r M L) (hq : Qr w B q s M' L') (ha : Apart r s) (hu : Upd g r r' w w1) : Qr w1 B q s M' L' ∧ Apart r' s := by
  have hrq : r ≠ some q := by obtain ⟨_, _, hb, _⟩ := hq; exact hw.row_ne (by decide) hb
  have hsg : s ≠ some g := by obtain ⟨_, _, hb, _⟩ := hw; exact hq.row_ne (by decide) hb
  refine ⟨hq.stay fun i hi hs => hu.1.block i hi ?_, ?_⟩
  · rintro (e | e) <;> rcases hs with e' | e'
    · exact hne (e'.symm.trans e)
    · exact hsg (by rw [← e', e])
    · exact hrq (by rw [← e, e'])
    · exact ha i e.symm e'.symm
  · intro b hb hs
    rcases hu.2 with e | ⟨j, e, hj⟩
    · exact ha b (e ▸ hb) hs
    · rw [e] at hb
      injection hb with hb
      have := (hq.row_lt b hs.symm).2
      omega
theorem pair_second {w w1 : World} {B g q M L M' L' : Nat} {r s s' : Option Nat} (hne : q ≠ g) (hw : Wr w B g r M L) (hq : Qr w B q s M' L') (ha : Apart r s) (hu : Upd q s s' w w1) : Wr w1 B g r M L ∧ Apart r s' := by
  have hrq : r ≠ some q := by obtain ⟨_, _, hb, _⟩ := hq; exact hw.row_ne (by decide) hb
  have hsg : s ≠ some g := by obtain ⟨_, _, hb, _⟩ := hw; exact hq.row_ne (by decide) hb
  refine ⟨hw.stay fun i hi hs => hu.1.block i hi ?_, ?_⟩
  · rintro (e | e) <;> rcases hs with e' | e'
    · exact hne (e.symm.trans e')
    · exact hrq (by rw [← e', e])
    · exact hsg (by rw [← e, e'])
    · exact ha i e'.symm e.symm
  · intro b hb hs
    rcases hu.2 with e | ⟨j, e, hj⟩
    · exact ha b hb (e ▸ hs)
    · rw [e] at hs
      injection hs with hs
      have := hw.row_lt b hb.symm
      omega

/-- Both writers have written the same. -/
def Inv2 (B g q bound : Nat) (w0 wr : World) : Prop := ∃ M L r s, L ≤ bound ∧ Wr wr B g r M L ∧ Qr wr B q s M L ∧ Apart r s ∧ Below B w0 wr
theorem inv2_step {B g q bound M L M' L' : Nat} {r r1 s s1 : Option Nat} {w0 w w1 w2 : World} (hne : q ≠ g) (hb0 : Below B w0 w) (hw : Wr w B g r M L) (hq : Qr w B q s M L) (ha : Apart r s) (hB : B ≤ w.heap.size)
    (hw1 : Wr w1 B g r1 M' L') (hu1 : Upd g r r1 w w1) (hq2 : Qr w2 B q s1 M' L') (hu2 : Upd q s s1 w1 w2) (hL : L' ≤ bound) : Inv2 B g q bound w0 w2 := by
  obtain ⟨hq1, ha1⟩ := pair_first hne hw hq ha hu1
  obtain ⟨hw2, ha2⟩ := pair_second hne hw1 hq1 ha1 hu2
  exact ⟨M', L', r1, s1, hL, hw2, hq2, ha2, ((hb0.trans (hu1.1.below hw.ge hB)).trans (hu2.1.below hq1.ge (Nat.le_trans hB hu1.1.size)))⟩
theorem Qr.c0 {w : World} {B g M L : Nat} {r : Option Nat} (h : Qr w B g r M L) : ∃ A c, w.cell? ⟨g, 0, none⟩ = some (.slice A L c) := by
  obtain ⟨_, v, hb, ho, _, _⟩ := h
  obtain ⟨A, c, rfl⟩ := row_slice ho
  exact ⟨A, c, by rw [cell_of_row _ g 0 _ _ _ hb]; rfl⟩
theorem Wr.below {w w' : World} {B g M L : Nat} {r : Option Nat} (h : Wr w B g r M L) (hb : Below w.heap.size w w') : Wr w' B g r M L := h.stay fun i hi _ => hb.block i hi
theorem Qr.below {w w' : World} {B g M L : Nat} {r : Option Nat} (h : Qr w B g r M L) (hb : Below w.heap.size w w') : Qr w' B g r M L := h.stay fun i hi _ => hb.block i hi
theorem Qr.alloc {w : World} {B g M L : Nat} {r : Option Nat} (h : Qr w B g r M L) (o : Obj) : Qr (w.alloc o) B g r M L := h.stay fun i hi _ => Below.heap_alloc w o i hi
theorem qr_new (w : World) (B : Nat) (hB : B ≤ w.heap.size) : Qr (w.alloc (.cells #[.slice none 0 0] 48)) B w.heap.size none 0 0 :=
  ⟨by decide, .slice none 0 0, heap_alloc_new w _, World.ownsRow_nil _ _ _ _, rfl, hB⟩

set_option maxRecDepth 100000 in
set_option maxHeartbeats 8000000 in
theorem bitsWrites_main (b off len cap : Nat) (f : Nat → Act) (v : Nat) (n : Int) (hv : v < 4294967296) (h60 : len ≤ 60) (w : World) (hbb : b < w.heap.size) (hf : ∀ i, i < len → ActAt w b (off + i * 4) (f i)) :
    Calls Try.prog 4 #[.slice (some ⟨b, off, none⟩) len cap, .int .u32 v, .int .i64 n] w fun e w' => e = .returned (.bool true) ∧ Below w.heap.size w w' := by
  have HF := Lib.hid hf
  have HT := Lib.hid (fun w => turn_any v n hv w)
  have HRT := Lib.hid (fun w => rturn_any v n hv w)
  generalize turnN v n = tv at *
  clear hf
  go_enter Try.func4, Try.ntmps4
  go_wp2_with (first | (go_at_call 12; refine (awake3_any _).mono ?_; rintro r wA ⟨rfl, hbA⟩))
  have hw0 := (wr_new wA w.heap.size hbA.size).alloc (.cells #[.slice none 0 0] 48)
  have hq0 := qr_new (wA.alloc (.cells #[.slice none 0 0, .int .u64 0, .int .i64 0] 45)) w.heap.size (by have := hbA.size; simp; omega)
  rw [show (wA.alloc (.cells #[.slice none 0 0, .int .u64 0, .int .i64 0] 45)).heap.size = wA.heap.size + 1 by simp] at hq0
  have hbel : Below w.heap.size w ((wA.alloc (.cells #[.slice none 0 0, .int .u64 0, .int .i64 0] 45)).alloc (.cells #[.slice none 0 0] 48)) := (hbA.alloc hbA.size _).alloc (by have := hbA.size; simp; omega) _
  generalize (wA.alloc (.cells #[.slice none 0 0, .int .u64 0, .int .i64 0] 45)).alloc (.cells #[.slice none 0 0] 48) = W1 at *
  generalize wA.heap.size = gc at *
  have HI : Hid (Inv2 w.heap.size gc (gc + 1) 0 w W1) := ⟨0, 0, none, none, Nat.le_refl _, hw0, hq0, (show Apart none none from fun b h => (by cases h)), hbel⟩
  clear hw0 hq0 hbel hbA
  go_loopw [22] (fun i wr => ∃ k : Nat, k ≤ len ∧ i = .int .i64 k ∧ Inv2 w.heap.size gc (gc + 1) (5000 * k) w wr) (fun i _ => len - (intOf i).toNat)
  case atStart => exact ⟨0, Nat.zero_le _, rfl, HI.out⟩
  case round =>
    obtain ⟨k, hk, rfl, hinv⟩ := hrel
    have HV := Lib.hid hinv
    clear hinv
    by_cases hlt : k < len
    · obtain ⟨M, L, r, s, hL, hw, hq, ha, hb⟩ := HV.out
      have hat := (HF.out k hlt).below hb hbb
      generalize f k = ac at hat
      obtain ⟨dk, nk, vk, sk⟩ := ac
      obtain ⟨q0, q1, q2, q3, w0, w1, w2, w3⟩ := hat
      replace q0 : wr.cell? ⟨b, off + k * 4, none⟩ = some (.int .i64 dk) := q0
      replace q1 : wr.cell? ⟨b, off + k * 4 + 1, none⟩ = some (.int .i64 nk) := q1
      replace q2 : wr.cell? ⟨b, off + k * 4 + 2, none⟩ = some (.int .u32 (vk : Nat)) := q2
      replace q3 : wr.cell? ⟨b, off + k * 4 + 3, none⟩ = some (.string sk) := q3
      replace w0 : (Lit.int .i64 dk).wf = true := w0
      replace w2 : vk < 4294967296 := w2
      replace w3 : sk.size ≤ maxLen := w3
      have hbD := bounds_i64 w0
      have hsz : sk.size ≤ 9223372036854775807 := w3
      have HL := Lib.hid hL
      have HW := Lib.hid hw
      have HQ := Lib.hid hq
      have HA := Lib.hid ha
      have HB := Lib.hid hb
      have HVK := Lib.hid w2
      clear hw hq hb w0 w1 w2 w3 ha hL
      by_cases h500 : 500 < sk.size
      · go_wp2
        go_ret
        exact ⟨rfl, HB.out.alloc HB.out.size _⟩
      go_upto_block 2 with (fail)
      have hw2 := HW.out.alloc (.cells #[.int .i64 dk, .int .i64 nk, .int .u32 (vk : Nat), .string sk] 31)
      have hq2 := HQ.out.alloc (.cells #[.int .i64 dk, .int .i64 nk, .int .u32 (vk : Nat), .string sk] 31)
      have hb2 := HB.out.alloc HB.out.size (.cells #[.int .i64 dk, .int .i64 nk, .int .u32 (vk : Nat), .string sk] 31)
      have hn1 : (wr.alloc (.cells #[.int .i64 dk, .int .i64 nk, .int .u32 (vk : Nat), .string sk] 31)).cell? ⟨wr.heap.size, 1, none⟩ = some (.int .i64 nk) := by
        rw [cell_of_row _ _ 1 _ _ _ (heap_alloc_new _ _)]
        rfl
      have hn2 : (wr.alloc (.cells #[.int .i64 dk, .int .i64 nk, .int .u32 (vk : Nat), .string sk] 31)).cell? ⟨wr.heap.size, 2, none⟩ = some (.int .u32 (vk : Nat)) := by
        rw [cell_of_row _ _ 2 _ _ _ (heap_alloc_new _ _)]
        rfl
      have hn3 : (wr.alloc (.cells #[.int .i64 dk, .int .i64 nk, .int .u32 (vk : Nat), .string sk] 31)).cell? ⟨wr.heap.size, 3, none⟩ = some (.string sk) := by
        rw [cell_of_row _ _ 3 _ _ _ (heap_alloc_new _ _)]
        rfl
      have hgr : ∀ i, some i = r → i < wr.heap.size := HW.out.row_lt
      have hgc : gc < wr.heap.size := HW.out.lt
      have hsz2 : (wr.alloc (.cells #[.int .i64 dk, .int .i64 nk, .int .u32 (vk : Nat), .string sk] 31)).heap.size = wr.heap.size + 1 := by simp
      generalize wr.alloc (.cells #[.int .i64 dk, .int .i64 nk, .int .u32 (vk : Nat), .string sk] 31) = W2 at *
      generalize wr.heap.size = ga at *
      -- the copy of the element stays while the writers write
      have hfar : ∀ (x1 : World) (r1 : Option Nat) (i : Nat), Upd gc r r1 W2 x1 → x1.cell? ⟨ga, i, none⟩ = W2.cell? ⟨ga, i, none⟩ := fun x1 r1 i hu =>
        World.cell?_of_block (hu.1.block ga (by omega) (by rintro (e | e); omega; have := hgr _ e; omega))
      have HW2 := Lib.hid hw2
      have HQ2 := Lib.hid hq2
      have HB2 := Lib.hid hb2
      have HS2 := Lib.hid hb2.size
      have HFAR := Lib.hid hfar
      have HN1 := Lib.hid hn1
      have HN2 := Lib.hid hn2
      have HN3 := Lib.hid hn3
      clear hw2 hq2 hb2 q0 q1 q2 q3 HW HQ HB HV hn1 hn2 hn3 hgr hgc hsz2 hfar
      go_cut [22] (fun s22 wx => s22 = .int .i64 k ∧ Inv2 w.heap.size gc (gc + 1) (5000 * (k + 1)) w wx)
      case first =>
        have hr1 : -5 < dk.tmod 5 := by have := Int.lt_tmod_of_pos dk (show (0 : Int) < 5 by omega); omega
        have hr2 : dk.tmod 5 < 5 := Int.tmod_lt_of_pos dk (by omega)
        generalize dk.tmod 5 = rm at *
        have hLb : L ≤ 300000 := by have := HL.out; omega
        have hLk : L + 4010 ≤ 5000 * (k + 1) := by have := HL.out; omega
        have HLK := Lib.hid hLk
        clear hLk
        have hrr : rm = 1 ∨ rm = -1 ∨ rm = 2 ∨ rm = -2 ∨ rm = 3 ∨ rm = -3 ∨ rm = 4 ∨ rm = -4 ∨ rm = 0 := by omega
        clear hr1 hr2
        rcases hrr with h | h | h | h | h | h | h | h | h <;> subst h
        · go_wp2_with fail
          go_meet
          exact ⟨rfl, M, L, r, s, by have := HLK.out; omega, HW2.out, HQ2.out, HA.out, HB2.out⟩
        · go_wp2_with fail
          go_meet
          exact ⟨rfl, M, L, r, s, by have := HLK.out; omega, HW2.out, HQ2.out, HA.out, HB2.out⟩
        · go_wp2_with fail
          go_meet
          exact ⟨rfl, M, L, r, s, by have := HLK.out; omega, HW2.out, HQ2.out, HA.out, HB2.out⟩
        · go_wp2_with fail
          go_meet
          exact ⟨rfl, M, L, r, s, by have := HLK.out; omega, HW2.out, HQ2.out, HA.out, HB2.out⟩
        · go_wp2_with fail
          refine (walign_any _ gc r M L (by omega) W2 HS2.out HW2.out).mono ?_; rintro e1 x1 ⟨rfl, r1, hw1, hu1⟩
          have hpf := pair_first (by omega) HW2.out HQ2.out HA.out hu1
          have HQ1 := Lib.hid hpf.1
          have HW1 := Lib.hid hw1
          have HU1 := Lib.hid hu1
          have HS1 := Lib.hid (Nat.le_trans HS2.out hu1.1.size)
          clear hw1 hu1 hpf
          go_wp2_with fail
          refine (rwalign_any _ (gc + 1) s M L (by omega) x1 HS1.out HQ1.out).mono ?_; rintro e2 x2 ⟨rfl, s1, hq2, hu2⟩
          have HV2 : Hid (Inv2 w.heap.size gc (gc + 1) (5000 * (k + 1)) w x2) := inv2_step (by omega) HB2.out HW2.out HQ2.out HA.out HS2.out HW1.out HU1.out hq2 hu2 (by have := HLK.out; have := up8_le L; omega)
          clear hq2 hu2
          go_wp2_with fail
          go_meet
          exact ⟨rfl, HV2.out⟩
        · go_wp2_with fail
          refine (walign_any _ gc r M L (by omega) W2 HS2.out HW2.out).mono ?_; rintro e1 x1 ⟨rfl, r1, hw1, hu1⟩
          have hpf := pair_first (by omega) HW2.out HQ2.out HA.out hu1
          have HQ1 := Lib.hid hpf.1
          have HW1 := Lib.hid hw1
          have HU1 := Lib.hid hu1
          have HS1 := Lib.hid (Nat.le_trans HS2.out hu1.1.size)
          clear hw1 hu1 hpf
          go_wp2_with fail
          refine (rwalign_any _ (gc + 1) s M L (by omega) x1 HS1.out HQ1.out).mono ?_; rintro e2 x2 ⟨rfl, s1, hq2, hu2⟩
          have HV2 : Hid (Inv2 w.heap.size gc (gc + 1) (5000 * (k + 1)) w x2) := inv2_step (by omega) HB2.out HW2.out HQ2.out HA.out HS2.out HW1.out HU1.out hq2 hu2 (by have := HLK.out; have := up8_le L; omega)
          clear hq2 hu2
          go_wp2_with fail
          go_meet
          exact ⟨rfl, HV2.out⟩
        · have hn3 := HN3.out
          go_wp2_with fail
          refine (wbytes_any _ gc r M L sk (by omega) (by omega) W2 HS2.out HW2.out).mono ?_; rintro e1 x1 ⟨rfl, r1, hw1, hu1⟩
          have hn3' := (HFAR.out x1 r1 3 hu1).trans HN3.out
          have hpf := pair_first (by omega) HW2.out HQ2.out HA.out hu1
          have HQ1 := Lib.hid hpf.1
          have HW1 := Lib.hid hw1
          have HU1 := Lib.hid hu1
          have HS1 := Lib.hid (Nat.le_trans HS2.out hu1.1.size)
          clear hw1 hu1 hpf hn3
          go_wp2_with fail
          refine (rwbytes_any _ (gc + 1) s M L sk (by omega) (by omega) x1 HS1.out HQ1.out).mono ?_; rintro e2 x2 ⟨rfl, s1, hq2, hu2⟩
          have HV2 : Hid (Inv2 w.heap.size gc (gc + 1) (5000 * (k + 1)) w x2) := inv2_step (by omega) HB2.out HW2.out HQ2.out HA.out HS2.out HW1.out HU1.out hq2 hu2 (by have := HLK.out; have := up8_le L; omega)
          clear hq2 hu2 hn3'
          go_wp2_with fail
          go_meet
          exact ⟨rfl, HV2.out⟩
        · have hn3 := HN3.out
          go_wp2_with fail
          refine (wbytes_any _ gc r M L sk (by omega) (by omega) W2 HS2.out HW2.out).mono ?_; rintro e1 x1 ⟨rfl, r1, hw1, hu1⟩
          have hn3' := (HFAR.out x1 r1 3 hu1).trans HN3.out
          have hpf := pair_first (by omega) HW2.out HQ2.out HA.out hu1
          have HQ1 := Lib.hid hpf.1
          have HW1 := Lib.hid hw1
          have HU1 := Lib.hid hu1
          have HS1 := Lib.hid (Nat.le_trans HS2.out hu1.1.size)
          clear hw1 hu1 hpf hn3
          go_wp2_with fail
          refine (rwbytes_any _ (gc + 1) s M L sk (by omega) (by omega) x1 HS1.out HQ1.out).mono ?_; rintro e2 x2 ⟨rfl, s1, hq2, hu2⟩
          have HV2 : Hid (Inv2 w.heap.size gc (gc + 1) (5000 * (k + 1)) w x2) := inv2_step (by omega) HB2.out HW2.out HQ2.out HA.out HS2.out HW1.out HU1.out hq2 hu2 (by have := HLK.out; have := up8_le L; omega)
          clear hq2 hu2 hn3'
          go_wp2_with fail
          go_meet
          exact ⟨rfl, HV2.out⟩
        · have hn1 := HN1.out
          have hn2 := HN2.out
          go_wp2_with fail
          refine (write_any _ gc r M L vk nk (by omega) HVK.out W2 HS2.out HW2.out).mono ?_; rintro e1 x1 ⟨rfl, r1, hw1, hu1⟩
          have hn1' := (HFAR.out x1 r1 1 hu1).trans HN1.out
          have hn2' := (HFAR.out x1 r1 2 hu1).trans HN2.out
          have hpf := pair_first (by omega) HW2.out HQ2.out HA.out hu1
          have HQ1 := Lib.hid hpf.1
          have HW1 := Lib.hid hw1
          have HU1 := Lib.hid hu1
          have HS1 := Lib.hid (Nat.le_trans HS2.out hu1.1.size)
          clear hw1 hu1 hpf hn1 hn2
          go_wp2_with fail
          refine (rwrite_any _ (gc + 1) s M L vk nk (by omega) HVK.out x1 HS1.out HQ1.out).mono ?_; rintro e2 x2 ⟨rfl, s1, hq2, hu2⟩
          have HV2 : Hid (Inv2 w.heap.size gc (gc + 1) (5000 * (k + 1)) w x2) := inv2_step (by omega) HB2.out HW2.out HQ2.out HA.out HS2.out HW1.out HU1.out hq2 hu2 (by have := HLK.out; have := wL_le L nk; omega)
          clear hq2 hu2 hn1' hn2'
          go_wp2_with fail
          go_meet
          exact ⟨rfl, HV2.out⟩
      case rest =>
        obtain ⟨rfl, M', L', r', s', hL', hw', hq', ha', hb'⟩ := hcut
        obtain ⟨A, c, k0⟩ := hq'.c0
        have hLL : L' ≤ 400000 := by omega
        have hgq := hq'.lt
        have HW' := Lib.hid hw'
        have HQ' := Lib.hid hq'
        have HA' := Lib.hid ha'
        have HB' := Lib.hid hb'
        have HLL := Lib.hid hL'
        clear hw' hq' ha' hb' hL'
        go_wp2_with fail
        have hL9 : L' ≤ 1000000000 := by omega
        go_region_held3 (fun w' => w'.cell? ⟨gc + 1, 0, none⟩ = some (.slice A L' c)) (first | exact k0 | exact k2 | exact k3) (first | (go_at_call 32; refine (wlen_any w.heap.size gc r' M' L' hL9 _ ?_).mono ?_; exact HW'.out; rintro e1 x1 ⟨rfl, d1, rfl⟩) | (go_at_call 33; refine (wdone_any w.heap.size gc r' M' L' hL9 _ ?_).mono ?_; exact HW'.out; rintro e2 x2 ⟨rfl, hb2⟩; have k2 : x2.cell? ⟨gc + 1, 0, none⟩ = some (.slice A L' c) := (hb2.cell (p := ⟨gc + 1, 0, none⟩) hgq).trans k0) | (go_at_call 34; refine (rdone_any w.heap.size (gc + 1) s' M' L' hL9 _ ?_).mono ?_; exact (Qr.below (by exact HQ'.out) hb2); rintro e3 x3 ⟨rfl, hb3⟩; have k3 : x3.cell? ⟨gc + 1, 0, none⟩ = some (.slice A L' c) := (hb3.cell (p := ⟨gc + 1, 0, none⟩) (Nat.lt_of_lt_of_le hgq hb2.size)).trans k2))
        all_goals
          have HV3 : Hid (Inv2 w.heap.size gc (gc + 1) (5000 * (k + 1)) w x3) := by
            have hw2 := Wr.below (by exact HW'.out) hb2
            have hq2 := Qr.below (by exact HQ'.out) hb2
            exact ⟨M', L', r', s', HLL.out, hw2.below hb3, hq2.below hb3, HA'.out, ((below_drewN HB'.out _).trans (hb2.mono (by exact HB'.out.size))).trans (hb3.mono (Nat.le_trans (by exact HB'.out.size) hb2.size))⟩
          clear k2 k3 hb2 hb3
          go_wp2_with fail
          go_roundw
          case rel => exact ⟨k + 1, by omega, by go_num, HV3.out⟩
          case measure => simp [intOf]; omega
    · obtain rfl : k = len := by omega
      go_wp2_with (first | (go_at_call 35; refine (HT.out _).mono ?_; rintro e w2 ⟨rfl, rfl⟩) | (go_at_call 36; refine (HRT.out _).mono ?_; rintro e w2 ⟨rfl, rfl⟩))
      go_ret
      obtain ⟨M, L, r, s, hL, hw, hq, ha, hb⟩ := HV.out
      exact ⟨rfl, hb⟩

set_option maxRecDepth 100000 in
set_option maxHeartbeats 1000000 in
theorem bitsWrites_none (p : Option Addr) (cap v : Nat) (n : Int) (hv : v < 4294967296) (w : World) :
    Calls Try.prog 4 #[.slice p 0 cap, .int .u32 v, .int .i64 n] w fun e w' => e = .returned (.bool true) ∧ Below w.heap.size w w' := by
  have HT := Lib.hid (fun w => turn_any v n hv w)
  have HRT := Lib.hid (fun w => rturn_any v n hv w)
  generalize turnN v n = tv at *
  go_enter Try.func4, Try.ntmps4
  go_wp2_with (first | (go_at_call 12; refine (awake3_any _).mono ?_; rintro r wA ⟨rfl, hbA⟩))
  have hbel : Below w.heap.size w ((wA.alloc (.cells #[.slice none 0 0, .int .u64 0, .int .i64 0] 45)).alloc (.cells #[.slice none 0 0] 48)) := (hbA.alloc hbA.size _).alloc (by have := hbA.size; simp; omega) _
  generalize (wA.alloc (.cells #[.slice none 0 0, .int .u64 0, .int .i64 0] 45)).alloc (.cells #[.slice none 0 0] 48) = W1 at *
  have HI := Lib.hid hbel
  clear hbel hbA
  go_loopw [22] (fun i wr => i = .int .i64 0 ∧ wr = W1) (fun _ _ => 0)
  case atStart => exact ⟨rfl, rfl⟩
  case round =>
    obtain ⟨rfl, rfl⟩ := hrel
    go_wp2_with (first | (go_at_call 35; refine (HT.out _).mono ?_; rintro e w2 ⟨rfl, rfl⟩) | (go_at_call 36; refine (HRT.out _).mono ?_; rintro e w2 ⟨rfl, rfl⟩))
    go_ret
    exact ⟨rfl, HI.out⟩

set_option maxRecDepth 100000 in
set_option maxHeartbeats 1000000 in
theorem bitsWrites_long (p : Option Addr) (len cap : Nat) (v n : Int) (h : 60 < len) (w : World) :
    Calls Try.prog 4 #[.slice p len cap, .int .u32 v, .int .i64 n] w fun e w' => e = .returned (.bool true) ∧ Below w.heap.size w w' := by
  go_enter Try.func4, Try.ntmps4
  go_wp2_with (go_at_call 12; refine (awake3_any _).mono ?_; rintro r wA ⟨rfl, hbA⟩)
  go_ret
  exact ⟨rfl, hbA⟩

/-- BitsWrites, over a script that came in. -/
theorem bitsWrites_walk (p : Option Addr) (len cap : Nat) (a1 a2 : Int) (f : Nat → Act) (w1 : (Lit.int .u32 a1).wf = true) (w : World) (hp : IsActs w p len f) :
    Calls Try.prog 4 #[.slice p len cap, .int .u32 a1, .int .i64 a2] w fun e w' => e = .returned (.bool true) ∧ Below w.heap.size w w' := by
  obtain ⟨v, rfl, hv⟩ := nat_u32 w1
  by_cases h60 : len ≤ 60
  · by_cases h0 : len = 0
    · subst h0
      exact bitsWrites_none p cap v a2 hv w
    · obtain ⟨b, off, rfl, hb, hf⟩ := hp (by omega)
      exact bitsWrites_main b off len cap f v a2 hv h60 w hb hf
  · exact bitsWrites_long p len cap v a2 (by omega) w
end Go.Proofs.Ytmmcolfeboammaa
