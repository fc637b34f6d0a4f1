/-
  Put of a code; New of an open code that is none.
-/
import Derived.Test.YtfhbkidceombbaaPreL
import Derived.Test.YtfhbkidceombbaaBitsN
namespace Go.Proofs.Ytfhbkidceombbaa
set_option maxRecDepth 100000
open Go.RowKit Go.Joins

set_option maxRecDepth 100000 in
set_option maxHeartbeats 4000000 in
theorem new_open_no (A : Option Addr) (n cap : Nat) (ls : Nat → Nat) (hn : n ≤ 4096) (w : World) (hL : Lens w A n ls) (h15 : ∀ i, i < n → ls i ≤ 15) (hf : fillN ls n < 32768) (hs : 1 < sumN ls n) :
    Calls Try.prog 84 #[.slice A n cap, .bool true] w fun e w' => e = .returned (.tuple #[.pointer none, .int .i64 10]) ∧ Below w.heap.size w w' := by
  have HW := Lib.hid (words_ok A n cap ls hn w hL h15 (by omega))
  have HF := Lib.hid (fun w' (h : Below w.heap.size w w') => fill_ok A n cap ls hn w' (hL.below (Nat.le_refl _) h) h15)
  have HO := Lib.hid (fun w' (h : Below w.heap.size w w') => open_any A n cap ls hn w' (hL.below (Nat.le_refl _) h) h15)
  have hd1 : decide (sumN ls n ≤ 1) = false := decide_eq_false (by omega)
  rw [hd1] at HO
  clear hL h15 hs hd1
  go_enter Try.func84, Try.ntmps84
  go_wp2_with fail
  refine (HW.out).mono ?_; rintro e w1 ⟨rfl, hr1, hb1⟩
  have HB1 := Lib.hid hb1
  have hd2 : decide ((fillN ls n : Int) < 32768) = true := decide_eq_true (by omega)
  clear hr1 hb1 HW
  generalize fillN ls n = F at *
  go_wp2_with (first | (go_at_call 101; refine (HF.out _ HB1.out).mono ?_; rintro e w' ⟨rfl, rfl⟩) | (go_at_call 102; refine (HO.out _ HB1.out).mono ?_; rintro e w' ⟨rfl, rfl⟩))
  go_ret2
  exact ⟨rfl, HB1.out⟩

theorem put_no (B g bm n mx k gw : Nat) (ls W : Nat → Nat) (hk : k < n) (hl : ls k = 0) (w : World) (hcd : Cd0 w B g bm ls W n mx) :
    Calls Try.prog 62 #[.pointer (some ⟨g, 0, none⟩), .pointer (some ⟨gw, 0, none⟩), .int .i64 (k : Nat)] w fun e w' => e = .returned (.int .i64 2) ∧ w = w' := by
  have HL := Lib.hid (length_any B g bm n mx k ls W hk (by omega) w hcd)
  rw [hl] at HL
  clear hcd
  go_enter Try.func62, Try.ntmps62
  go_wp2_with (go_at_call 86; refine (HL.out).mono ?_; rintro e w1 ⟨rfl, rfl⟩)
  go_ret
  exact ⟨rfl, rfl⟩

set_option maxRecDepth 100000 in
set_option maxHeartbeats 4000000 in
theorem put_ok (B g bm n mx k Bw gw M L : Nat) (r : Option Nat) (ls W : Nat → Nat) (hk : k < n) (hl1 : 1 ≤ ls k) (hl15 : ls k ≤ 15) (hW : W k < 4294967296) (hL : L ≤ 900000000) (w : World) (hB : Bw ≤ w.heap.size) (hcd : Cd0 w B g bm ls W n mx) (hw : Wr w Bw gw r M L) :
    Calls Try.prog 62 #[.pointer (some ⟨g, 0, none⟩), .pointer (some ⟨gw, 0, none⟩), .int .i64 (k : Nat)] w fun e w' => e = .returned (.int .i64 0) ∧ ∃ r', Wr w' Bw gw r' (M + rev (W k) (ls k) * 2 ^ L) (L + ls k) ∧ Upd gw r r' w w' := by
  have HLN := Lib.hid (length_any B g bm n mx k ls W hk (by omega) w hcd)
  have HT := Lib.hid (turn_ok (W k) (ls k) hW hl1 (by omega) w)
  have hrl := rev_lt (W k) (ls k)
  have hr32 : rev (W k) (ls k) < 4294967296 := Nat.lt_of_lt_of_le hrl (Nat.pow_le_pow_right (n := 2) (by omega) (show ls k ≤ 32 by omega))
  have hwr := write_any Bw gw r M L (rev (W k) (ls k)) ((ls k : Nat) : Int) (by omega) hr32 w hB hw
  have e1 : wM M L (rev (W k) (ls k)) ((ls k : Nat) : Int) = M + rev (W k) (ls k) * 2 ^ L := by
    unfold wM
    rw [if_pos (by omega), Int.toNat_natCast, Nat.mod_eq_of_lt hrl]
  have e2 : wL L ((ls k : Nat) : Int) = L + ls k := by
    unfold wL
    rw [if_pos (by omega), Int.toNat_natCast]
  rw [e1, e2] at hwr
  have HWR := Lib.hid hwr
  obtain ⟨A, c, hb0, ho, _⟩ := hcd
  have k0 : w.cell? ⟨g, 0, none⟩ = some (.slice A n c) := by rw [cell_of_row w g 0 _ _ _ hb0]; rfl
  clear hb0 e1 e2 hwr hw hrl hr32
  rcases ho.2 with ⟨h0, _⟩ | ⟨g2, cap2, cur, h0, hg2, hb2, h3⟩
  · injection h0 with _ e _
    omega
  · have k1 : w.cell? ⟨g2, k * 2 + 1, none⟩ = some (.int .u32 (W k : Nat)) := by
      rw [cell_of_row w g2 (k * 2 + 1) _ _ _ hb2, ← (wcells_at ls W n k hk).2, ← h3.2.2.2, List.getElem?_take_of_lt (by omega), Array.getElem?_toList]
    clear hb2 h3
    generalize ls k = l at *
    have hl0 : ((l : Int) == 0) = false := by rw [beq_eq_false_iff_ne]; omega
    go_enter Try.func62, Try.ntmps62
    go_wp2_with (first | (go_at_call 86; refine (HLN.out).mono ?_; rintro e w1 ⟨rfl, rfl⟩) | (go_at_call 87; refine (HT.out).mono ?_; rintro e w1 ⟨rfl, rfl⟩) | (go_at_call 25; refine (HWR.out).mono ?_; rintro e w1 ⟨rfl, hw1⟩))
    go_ret
    exact ⟨rfl, hw1⟩
end Go.Proofs.Ytfhbkidceombbaa
