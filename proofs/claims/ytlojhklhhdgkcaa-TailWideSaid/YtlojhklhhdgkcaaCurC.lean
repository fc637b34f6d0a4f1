/-
  Contracts: the cursor's calls.
-/
import Derived.Test.YtlojhklhhdgkcaaCurB
import Derived.Deep.QuietTactic
import Derived.BigQuiet
namespace Go.Proofs.Ytlojhklhhdgkcaa
set_option maxRecDepth 100000
open Go.RowKit Go.Joins

/-- A block that is a cursor: its text, its place, its error. -/
def Cur (w : World) (g : Nat) (s : ByteArray) (a e : Nat) : Prop := w.heap[g]? = some (.cells #[.string s, .int .i64 (a : Nat), .int .i64 (e : Nat)] 76 (0, 0))
theorem Cur.c0 {w : World} {g : Nat} {s : ByteArray} {a e : Nat} (h : Cur w g s a e) : w.cell? ⟨g, 0, none⟩ = some (.string s) := by rw [cell_of_row w g 0 _ _ _ h]; rfl
theorem Cur.c1 {w : World} {g : Nat} {s : ByteArray} {a e : Nat} (h : Cur w g s a e) : w.cell? ⟨g, 1, none⟩ = some (.int .i64 (a : Nat)) := by rw [cell_of_row w g 1 _ _ _ h]; rfl
theorem Cur.c2 {w : World} {g : Nat} {s : ByteArray} {a e : Nat} (h : Cur w g s a e) : w.cell? ⟨g, 2, none⟩ = some (.int .i64 (e : Nat)) := by rw [cell_of_row w g 2 _ _ _ h]; rfl
theorem Cur.fr {w : World} {g : Nat} {s : ByteArray} {a e : Nat} (h : Cur w g s a e) (i : Nat) : w.frozen? ⟨g, i, none⟩ = false := frozen_of_row w g i _ _ h
theorem Cur.lt {w : World} {g : Nat} {s : ByteArray} {a e : Nat} (h : Cur w g s a e) : g < w.heap.size := by
  rcases Nat.lt_or_ge g w.heap.size with hlt | hge
  · exact hlt
  · unfold Cur at h; rw [Array.getElem?_eq_none hge] at h; cases h
theorem Cur.drewN {w : World} {g : Nat} {s : ByteArray} {a e : Nat} (h : Cur w g s a e) (n : Nat) : Cur (w.drewN n) g s a e := h
theorem Cur.setAt {w : World} {g : Nat} {s : ByteArray} {a e : Nat} (h : Cur w g s a e) (a' : Nat) : Cur (w.setCell ⟨g, 1, none⟩ (.int .i64 (a' : Nat))) g s a' e := heap_setCell_same w g 1 _ _ _ h
theorem Cur.setErr {w : World} {g : Nat} {s : ByteArray} {a e : Nat} (h : Cur w g s a e) (e' : Nat) : Cur (w.setCell ⟨g, 2, none⟩ (.int .i64 (e' : Nat))) g s a e' := heap_setCell_same w g 2 _ _ _ h
theorem Cur.grown {w w' : World} {g : Nat} {s : ByteArray} {a e : Nat} {row : Option Nat} (h : Cur w g s a e) (hg : w.grownBy w' row) (hne : some g ≠ row) : Cur w' g s a e := (hg.block g h.lt hne).trans h
theorem Cur.below {w w' : World} {B g : Nat} {s : ByteArray} {a e : Nat} (h : Cur w g s a e) (hb : Below B w w') (hg : g < B) : Cur w' g s a e := (hb.block g hg).trans h

theorem grown_drewN (w : World) (n : Nat) (row : Option Nat) : w.grownBy (w.drewN n) row := ⟨rfl, rfl, rfl, Nat.le_refl _, fun _ _ _ => rfl⟩
theorem grown_set (w : World) (g i : Nat) (v : Value) : w.grownBy (w.setCell ⟨g, i, none⟩ v) (some g) :=
  ⟨rfl, rfl, rfl, by simp [World.setCell], fun k _ hne => Below.heap_setCell _ _ _ _ (fun e => hne (by rw [e]))⟩
theorem grown_then {w w1 w2 : World} {row : Option Nat} (h : w.grownBy w1 row) (k : w1.grownBy w2 row) : w.grownBy w2 row :=
  ⟨k.os.trans h.os, k.tape.trans h.tape, k.output.trans h.output, Nat.le_trans h.size k.size, fun i hi hne => (k.block i (Nat.lt_of_lt_of_le hi h.size) hne).trans (h.block i hi hne)⟩

/-- Can the next n bytes be taken? -/
def mayB (s : ByteArray) (a e : Nat) (n : Int) : Bool := decide (e = 0 ∧ 0 ≤ n ∧ n ≤ (s.size : Int) - a)

theorem over_any (s : ByteArray) (w : World) :
    Calls Try.prog 26 #[.string s] w fun e w' => e = .returned (.pointer (some ⟨w.heap.size, 0, none⟩)) ∧ w.alloc (.cells #[.string s, .int .i64 0, .int .i64 0] 76) = w' := by
  go_enter Try.func26, Try.ntmps26
  go_wp2
  go_ret
  exact ⟨rfl, rfl⟩

theorem may_any (g : Nat) (s : ByteArray) (a e : Nat) (n : Int) (hs : s.size ≤ maxLen) (ha : a ≤ s.size) (hn : (Lit.int .i64 n).wf = true) (w : World) (hc : Cur w g s a e) :
    Calls Try.prog 37 #[.pointer (some ⟨g, 0, none⟩), .int .i64 n] w fun r w' => r = .returned (.bool (mayB s a e n)) ∧ ∃ d, w' = w.drewN d := by
  unfold maxLen at hs
  have hb := bounds_i64 hn
  have c0 := hc.c0
  have c1 := hc.c1
  have c2 := hc.c2
  clear hc hn
  by_cases he : e = 0
  · have he' : ((e : Int) == 0) = true := by subst he; rfl
    by_cases h0 : 0 ≤ n
    · have h0' : decide (0 ≤ n) = true := decide_eq_true h0
      have HM : Hid (mayB s a e n = decide (n ≤ (s.size : Int) - a)) := by
        show _ = _
        unfold mayB
        exact decide_eq_decide.mpr ⟨fun h => h.2.2, fun h => ⟨he, h0, h⟩⟩
      clear he
      go_enter Try.func37, Try.ntmps37
      go_wp2
      go_quiet (fail)
      go_wp2
      go_ret
      exact ⟨by rw [HM.out]; rfl, _, rfl⟩
    · have h0' : decide (0 ≤ n) = false := decide_eq_false h0
      have HM : Hid (mayB s a e n = false) := decide_eq_false fun h => h0 h.2.1
      clear he
      go_enter Try.func37, Try.ntmps37
      go_wp2
      go_quiet (fail)
      go_wp2
      go_ret
      exact ⟨by rw [HM.out]; rfl, _, rfl⟩
  · have he' : ((e : Int) == 0) = false := by rw [beq_eq_false_iff_ne]; omega
    have HM : Hid (mayB s a e n = false) := decide_eq_false fun h => he h.1
    clear he
    go_enter Try.func37, Try.ntmps37
    go_wp2
    go_quiet (fail)
    go_wp2
    go_ret
    exact ⟨by rw [HM.out]; rfl, _, rfl⟩

theorem may_no (g : Nat) (s : ByteArray) (a e : Nat) (n : Int) (hs : s.size ≤ maxLen) (ha : a ≤ s.size) (hn : (Lit.int .i64 n).wf = true) (w : World) (hc : Cur w g s a e) (hm : mayB s a e n = false) :
    Calls Try.prog 37 #[.pointer (some ⟨g, 0, none⟩), .int .i64 n] w fun r w' => r = .returned (.bool false) ∧ ∃ d, w' = w.drewN d := by
  have h := may_any g s a e n hs ha hn w hc
  rw [hm] at h
  exact h
theorem may_yes (g : Nat) (s : ByteArray) (a e : Nat) (n : Int) (hs : s.size ≤ maxLen) (ha : a ≤ s.size) (hn : (Lit.int .i64 n).wf = true) (w : World) (hc : Cur w g s a e) (hm : mayB s a e n = true) :
    Calls Try.prog 37 #[.pointer (some ⟨g, 0, none⟩), .int .i64 n] w fun r w' => r = .returned (.bool true) ∧ ∃ d, w' = w.drewN d := by
  have h := may_any g s a e n hs ha hn w hc
  rw [hm] at h
  exact h

/-- What can be taken. -/
def piece (s : ByteArray) (a e : Nat) (n : Int) : ByteArray := if mayB s a e n then s.extract a (a + n.toNat) else ⟨#[]⟩

theorem peek_any (g : Nat) (s : ByteArray) (a e : Nat) (n : Int) (hs : s.size ≤ maxLen) (ha : a ≤ s.size) (hn : (Lit.int .i64 n).wf = true) (w : World) (hc : Cur w g s a e) :
    Calls Try.prog 38 #[.pointer (some ⟨g, 0, none⟩), .int .i64 n] w fun r w' => r = .returned (.string (piece s a e n)) ∧ ∃ d, w' = w.drewN d := by
  by_cases hm : mayB s a e n = true
  · have hmay := may_yes g s a e n hs ha hn w hc hm
    have HMAY := Lib.hid hmay
    have HP : Hid (piece s a e n = s.extract a (a + n.toNat)) := if_pos hm
    have hd : 0 ≤ n ∧ n ≤ (s.size : Int) - a := by
      unfold mayB at hm
      exact (of_decide_eq_true hm).2
    obtain ⟨hn0, hn1⟩ := hd
    unfold maxLen at hs
    have c0 := hc.c0
    have c1 := hc.c1
    obtain ⟨m, rfl⟩ := Int.eq_ofNat_of_zero_le hn0
    rw [Int.toNat_natCast] at HP
    clear hc hmay hm hn
    go_enter Try.func38, Try.ntmps38
    go_wp2_with (go_at_call 37; refine (HMAY.out).mono ?_; rintro r w' ⟨rfl, d, rfl⟩)
    go_quiet (fail)
    go_wp2
    go_ret
    exact ⟨by rw [HP.out]; rfl, d + nq, by rw [World.drewN_drewN]⟩
  · have hm' : mayB s a e n = false := by simpa using hm
    have hmay := may_no g s a e n hs ha hn w hc hm'
    have HMAY := Lib.hid hmay
    have HP : Hid (piece s a e n = ⟨#[]⟩) := if_neg hm
    clear hc hmay hm hm' hn
    go_enter Try.func38, Try.ntmps38
    go_wp2_with (go_at_call 37; refine (HMAY.out).mono ?_; rintro r w' ⟨rfl, d, rfl⟩)
    go_ret
    exact ⟨by rw [HP.out]; rfl, _, rfl⟩

/-- The place and the error behind a taking. -/
def atB (s : ByteArray) (a e : Nat) (n : Int) : Nat := if mayB s a e n then a + n.toNat else a
def errB (s : ByteArray) (a e : Nat) (n : Int) : Nat := if mayB s a e n then e else 3
theorem atB_le (s : ByteArray) (a e : Nat) (n : Int) (ha : a ≤ s.size) : atB s a e n ≤ s.size := by
  unfold atB
  split
  · rename_i h
    unfold mayB at h
    have := of_decide_eq_true h
    omega
  · exact ha

theorem take_any (g : Nat) (s : ByteArray) (a e : Nat) (n : Int) (hs : s.size ≤ maxLen) (ha : a ≤ s.size) (hn : (Lit.int .i64 n).wf = true) (w : World) (hc : Cur w g s a e) :
    Calls Try.prog 29 #[.pointer (some ⟨g, 0, none⟩), .int .i64 n] w fun r w' => r = .returned (.string (piece s a e n)) ∧ Cur w' g s (atB s a e n) (errB s a e n) ∧ w.grownBy w' (some g) := by
  by_cases hm : mayB s a e n = true
  · have HC := Lib.hid hc
    have hpk := fun d => peek_any g s a e n hs ha hn (w.drewN d) (hc.drewN d)
    have HPK := Lib.hid hpk
    have HMAY := Lib.hid (may_yes g s a e n hs ha hn w hc hm)
    have HA : Hid (atB s a e n = a + n.toNat) := if_pos hm
    have HE : Hid (errB s a e n = e) := if_pos hm
    have hd : 0 ≤ n ∧ n ≤ (s.size : Int) - a := by
      unfold mayB at hm
      exact (of_decide_eq_true hm).2
    obtain ⟨hn0, hn1⟩ := hd
    unfold maxLen at hs
    have c1 := hc.c1
    have f1 := hc.fr 1
    obtain ⟨m, rfl⟩ := Int.eq_ofNat_of_zero_le hn0
    rw [Int.toNat_natCast] at HA
    clear hc hm hn hpk
    go_enter Try.func29, Try.ntmps29
    go_wp2_with (first | (go_at_call 37; refine (HMAY.out).mono ?_; rintro r w' ⟨rfl, d, rfl⟩) | (go_at_call 38; refine (HPK.out _).mono ?_; rintro r w' ⟨rfl, d2, rfl⟩))
    go_ret
    refine ⟨rfl, ?_, grown_then (grown_drewN w (d + d2) _) (grown_set _ g 1 _)⟩
    rw [HA.out, HE.out]
    exact (HC.out.drewN (d + d2)).setAt (a + m)
  · have hm' : mayB s a e n = false := by simpa using hm
    have HC := Lib.hid hc
    have HMAY := Lib.hid (may_no g s a e n hs ha hn w hc hm')
    have HP : Hid (piece s a e n = ⟨#[]⟩) := if_neg hm
    have HA : Hid (atB s a e n = a) := if_neg hm
    have HE : Hid (errB s a e n = 3) := if_neg hm
    have c2 := hc.c2
    have f2 := hc.fr 2
    clear hc hm hm' hn
    go_enter Try.func29, Try.ntmps29
    go_wp2_with (go_at_call 37; refine (HMAY.out).mono ?_; rintro r w' ⟨rfl, d, rfl⟩)
    go_ret
    refine ⟨by rw [HP.out]; rfl, ?_, grown_then (grown_drewN w d _) (grown_set _ g 2 _)⟩
    rw [HA.out, HE.out]
    exact (HC.out.drewN d).setErr 3

theorem piece_size (s : ByteArray) (a e : Nat) (n : Int) : (piece s a e n).size ≤ n.toNat := by
  unfold piece
  split
  · rw [ByteArray.size_extract]
    omega
  · exact Nat.zero_le _

/-- The number that the next bytes are. -/
def numB (s : ByteArray) (a e : Nat) (k : Nat) : Nat := numL (nums (piece s a e k))
theorem numB_lt (s : ByteArray) (a e k : Nat) : numB s a e k < 256 ^ k := by
  have h := numL_lt _ (nums_lt (piece s a e k))
  rw [nums_len] at h
  have h2 := piece_size s a e k
  exact Nat.lt_of_lt_of_le h (Nat.pow_le_pow_right (n := 256) (by omega) (by omega))

theorem number_of (g : Nat) (s : ByteArray) (a e k : Nat) (hs : s.size ≤ maxLen) (ha : a ≤ s.size) (hk : k ≤ 8) (w : World) (hc : Cur w g s a e) :
    Calls Try.prog 36 #[.pointer (some ⟨g, 0, none⟩), .int .i64 k] w fun r w' => r = .returned (.int .u64 (numB s a e k : Nat)) ∧ Cur w' g s (atB s a e k) (errB s a e k) ∧ w.grownBy w' (some g) := by
  have HT := Lib.hid (take_any g s a e k hs ha (WalkArith.wf_i64 (by omega)) w hc)
  have h8 : (piece s a e k).size ≤ 8 := by
    have := piece_size s a e k
    omega
  have HN := Lib.hid (fun w => number_any (piece s a e k) h8 w)
  clear hc h8
  go_enter Try.func36, Try.ntmps36
  go_wp2_with (first | (go_at_call 29; refine (HT.out).mono ?_; rintro r w1 ⟨rfl, hc1, hg1⟩) | (go_at_call 25; refine (HN.out _).mono ?_; rintro r w2 ⟨rfl, rfl⟩))
  go_ret
  exact ⟨rfl, hc1, hg1⟩

theorem two_of (g : Nat) (s : ByteArray) (a e : Nat) (hs : s.size ≤ maxLen) (ha : a ≤ s.size) (w : World) (hc : Cur w g s a e) :
    Calls Try.prog 27 #[.pointer (some ⟨g, 0, none⟩)] w fun r w' => r = .returned (.int .u16 (numB s a e 2 : Nat)) ∧ Cur w' g s (atB s a e (2 : Nat)) (errB s a e (2 : Nat)) ∧ w.grownBy w' (some g) := by
  have HT := Lib.hid (number_of g s a e 2 hs ha (by omega) w hc)
  have hl := numB_lt s a e 2
  clear hc
  go_enter Try.func27, Try.ntmps27
  go_wp2_with (go_at_call 36; refine (HT.out).mono ?_; rintro r w1 ⟨rfl, hc1, hg1⟩)
  go_ret
  exact ⟨ret_eq (by omega), hc1, hg1⟩
theorem four_of (g : Nat) (s : ByteArray) (a e : Nat) (hs : s.size ≤ maxLen) (ha : a ≤ s.size) (w : World) (hc : Cur w g s a e) :
    Calls Try.prog 28 #[.pointer (some ⟨g, 0, none⟩)] w fun r w' => r = .returned (.int .u32 (numB s a e 4 : Nat)) ∧ Cur w' g s (atB s a e (4 : Nat)) (errB s a e (4 : Nat)) ∧ w.grownBy w' (some g) := by
  have HT := Lib.hid (number_of g s a e 4 hs ha (by omega) w hc)
  have hl := numB_lt s a e 4
  clear hc
  go_enter Try.func28, Try.ntmps28
  go_wp2_with (go_at_call 36; refine (HT.out).mono ?_; rintro r w1 ⟨rfl, hc1, hg1⟩)
  go_ret
  exact ⟨ret_eq (by omega), hc1, hg1⟩
theorem eight_of (g : Nat) (s : ByteArray) (a e : Nat) (hs : s.size ≤ maxLen) (ha : a ≤ s.size) (w : World) (hc : Cur w g s a e) :
    Calls Try.prog 30 #[.pointer (some ⟨g, 0, none⟩)] w fun r w' => r = .returned (.int .u64 (numB s a e 8 : Nat)) ∧ Cur w' g s (atB s a e (8 : Nat)) (errB s a e (8 : Nat)) ∧ w.grownBy w' (some g) := by
  have HT := Lib.hid (number_of g s a e 8 hs ha (by omega) w hc)
  clear hc
  go_enter Try.func30, Try.ntmps30
  go_wp2_with (go_at_call 36; refine (HT.out).mono ?_; rintro r w1 ⟨rfl, hc1, hg1⟩)
  go_ret
  exact ⟨rfl, hc1, hg1⟩

theorem err_any (g : Nat) (s : ByteArray) (a e : Nat) (w : World) (hc : Cur w g s a e) :
    Calls Try.prog 39 #[.pointer (some ⟨g, 0, none⟩)] w fun r w' => r = .returned (.int .i64 (e : Nat)) ∧ w = w' := by
  have c2 := hc.c2
  clear hc
  go_enter Try.func39, Try.ntmps39
  go_wp2
  go_ret
  exact ⟨rfl, rfl⟩
end Go.Proofs.Ytlojhklhhdgkcaa
