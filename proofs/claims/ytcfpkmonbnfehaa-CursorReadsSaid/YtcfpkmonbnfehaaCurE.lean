/-
  Contracts: the document's cursor.
-/
import Derived.Test.YtcfpkmonbnfehaaCurD
namespace Go.Proofs.Ytcfpkmonbnfehaa
open Go.RowKit Go.Joins

/-- A block that is the document's cursor. -/
def RCur (w : World) (g : Nat) (s : ByteArray) (a e : Nat) : Prop := w.heap[g]? = some (.cells #[.string s, .int .i64 (a : Nat), .int .i64 (e : Nat)] 40 (0, 0))
theorem RCur.c0 {w : World} {g : Nat} {s : ByteArray} {a e : Nat} (h : RCur w g s a e) : w.cell? ⟨g, 0, none⟩ = some (.string s) := by rw [cell_of_row w g 0 _ _ _ h]; rfl
theorem RCur.c1 {w : World} {g : Nat} {s : ByteArray} {a e : Nat} (h : RCur w g s a e) : w.cell? ⟨g, 1, none⟩ = some (.int .i64 (a : Nat)) := by rw [cell_of_row w g 1 _ _ _ h]; rfl
theorem RCur.c2 {w : World} {g : Nat} {s : ByteArray} {a e : Nat} (h : RCur w g s a e) : w.cell? ⟨g, 2, none⟩ = some (.int .i64 (e : Nat)) := by rw [cell_of_row w g 2 _ _ _ h]; rfl
theorem RCur.fr {w : World} {g : Nat} {s : ByteArray} {a e : Nat} (h : RCur w g s a e) (i : Nat) : w.frozen? ⟨g, i, none⟩ = false := frozen_of_row w g i _ _ h
theorem RCur.lt {w : World} {g : Nat} {s : ByteArray} {a e : Nat} (h : RCur w g s a e) : g < w.heap.size := by
  rcases Nat.lt_or_ge g w.heap.size with hlt | hge
  · exact hlt
  · unfold RCur at h; rw [Array.getElem?_eq_none hge] at h; cases h
theorem RCur.drewN {w : World} {g : Nat} {s : ByteArray} {a e : Nat} (h : RCur w g s a e) (n : Nat) : RCur (w.drewN n) g s a e := h
theorem RCur.setAt {w : World} {g : Nat} {s : ByteArray} {a e : Nat} (h : RCur w g s a e) (a' : Nat) : RCur (w.setCell ⟨g, 1, none⟩ (.int .i64 (a' : Nat))) g s a' e := heap_setCell_same w g 1 _ _ _ h
theorem RCur.setErr {w : World} {g : Nat} {s : ByteArray} {a e : Nat} (h : RCur w g s a e) (e' : Nat) : RCur (w.setCell ⟨g, 2, none⟩ (.int .i64 (e' : Nat))) g s a e' := heap_setCell_same w g 2 _ _ _ h
theorem RCur.grown {w w' : World} {g : Nat} {s : ByteArray} {a e : Nat} {row : Option Nat} (h : RCur w g s a e) (hg : w.grownBy w' row) (hne : some g ≠ row) : RCur w' g s a e := (hg.block g h.lt hne).trans h
theorem RCur.alloc {w : World} {g : Nat} {s : ByteArray} {a e : Nat} (h : RCur w g s a e) (o : Obj) : RCur (w.alloc o) g s a e := (Below.heap_alloc w o g h.lt).trans h
theorem Cur.alloc {w : World} {g : Nat} {s : ByteArray} {a e : Nat} (h : Cur w g s a e) (o : Obj) : Cur (w.alloc o) g s a e := (Below.heap_alloc w o g h.lt).trans h

theorem rtake_any (g : Nat) (s : ByteArray) (a e : Nat) (n : Int) (hs : s.size ≤ maxLen) (ha : a ≤ s.size) (he : e = 0 ∨ e = 3) (hn : (Lit.int .i64 n).wf = true) (w : World) (hc : RCur w g s a e) :
    Calls Try.prog 26 #[.pointer (some ⟨g, 0, none⟩), .int .i64 n] w fun r w' => r = .returned (.string (piece s a e n)) ∧ RCur w' g s (atB s a e n) (errB s a e n) ∧ w.grownBy w' (some g) := by
  unfold maxLen at hs
  have hb := bounds_i64 hn
  have HC := Lib.hid hc
  have c0 := hc.c0
  have c1 := hc.c1
  have c2 := hc.c2
  have f1 := hc.fr 1
  have f2 := hc.fr 2
  clear hc hn
  by_cases he0 : e = 0
  · subst he0
    by_cases h0 : 0 ≤ n
    · obtain ⟨m, rfl⟩ := Int.eq_ofNat_of_zero_le h0
      have h0' : decide ((m : Int) < 0) = false := decide_eq_false (by omega)
      by_cases h1 : a + m ≤ s.size
      · have hm : mayB s a 0 (m : Nat) = true := decide_eq_true ⟨rfl, by omega, by omega⟩
        have HP : Hid (piece s a 0 (m : Nat) = s.extract a (a + m)) := if_pos hm
        have HA : Hid (atB s a 0 (m : Nat) = a + m) := if_pos hm
        have HE : Hid (errB s a 0 (m : Nat) = 0) := if_pos hm
        have h1' : decide ((s.size : Int) - a < m) = false := decide_eq_false (by omega)
        clear hm
        go_enter Try.func26, Try.ntmps26
        go_wp2
        go_quiet (fail)
        go_wp2
        go_quiet (fail)
        go_wp2
        go_ret
        refine ⟨by rw [HP.out]; rfl, ?_, grown_then (grown_drewN w _ _) (grown_set _ g 1 _)⟩
        rw [HA.out, HE.out]
        exact (HC.out.drewN _).setAt (a + m)
      · have hm : ¬ mayB s a 0 (m : Nat) = true := fun h => by
          have := (of_decide_eq_true h).2.2
          omega
        have HP : Hid (piece s a 0 (m : Nat) = ⟨#[]⟩) := if_neg hm
        have HA : Hid (atB s a 0 (m : Nat) = a) := if_neg hm
        have HE : Hid (errB s a 0 (m : Nat) = 3) := if_neg hm
        have h1' : decide ((s.size : Int) - a < m) = true := decide_eq_true (by omega)
        clear hm
        go_enter Try.func26, Try.ntmps26
        go_wp2
        go_quiet (fail)
        go_wp2
        go_ret
        refine ⟨by rw [HP.out]; rfl, ?_, grown_then (grown_drewN w _ _) (grown_set _ g 2 _)⟩
        rw [HA.out, HE.out]
        exact (HC.out.drewN _).setErr 3
    · have h0' : decide (n < 0) = true := decide_eq_true (by omega)
      have hm : ¬ mayB s a 0 n = true := fun h => h0 (of_decide_eq_true h).2.1
      have HP : Hid (piece s a 0 n = ⟨#[]⟩) := if_neg hm
      have HA : Hid (atB s a 0 n = a) := if_neg hm
      have HE : Hid (errB s a 0 n = 3) := if_neg hm
      clear hm
      go_enter Try.func26, Try.ntmps26
      go_wp2
      go_quiet (fail)
      go_wp2
      go_ret
      refine ⟨by rw [HP.out]; rfl, ?_, grown_then (grown_drewN w _ _) (grown_set _ g 2 _)⟩
      rw [HA.out, HE.out]
      exact (HC.out.drewN _).setErr 3
  · obtain rfl : e = 3 := by omega
    have hm : ¬ mayB s a 3 n = true := fun h => by
      have := (of_decide_eq_true h).1
      omega
    have HP : Hid (piece s a 3 n = ⟨#[]⟩) := if_neg hm
    have HA : Hid (atB s a 3 n = a) := if_neg hm
    have HE : Hid (errB s a 3 n = 3) := if_neg hm
    clear hm
    go_enter Try.func26, Try.ntmps26
    go_wp2
    go_ret
    refine ⟨by rw [HP.out]; rfl, ?_, World.grownBy.refl _ _⟩
    rw [HA.out, HE.out]
    exact HC.out

theorem rnum_any (g : Nat) (s : ByteArray) (a e k : Nat) (hs : s.size ≤ maxLen) (ha : a ≤ s.size) (he : e = 0 ∨ e = 3) (hk : k ≤ 8) (w : World) (hc : RCur w g s a e) :
    Calls Try.prog 22 #[.pointer (some ⟨g, 0, none⟩), .int .i64 k] w fun r w' => r = .returned (.int .u64 (numB s a e k : Nat)) ∧ RCur w' g s (atB s a e k) (errB s a e k) ∧ w.grownBy w' (some g) := by
  have HT := Lib.hid (rtake_any g s a e k hs ha he (WalkArith.wf_i64 (by omega)) w hc)
  have h8 : (piece s a e k).size ≤ 8 := by
    have := piece_size s a e k
    omega
  have HN := Lib.hid (fun w => rnumber_any (piece s a e k) h8 w)
  clear hc h8
  go_enter Try.func22, Try.ntmps22
  go_wp2_with (first | (go_at_call 26; refine (HT.out).mono ?_; rintro r w1 ⟨rfl, hc1, hg1⟩) | (go_at_call 14; refine (HN.out _).mono ?_; rintro r w2 ⟨rfl, rfl⟩))
  go_ret
  exact ⟨rfl, hc1, hg1⟩
end Go.Proofs.Ytcfpkmonbnfehaa
