/-
  Signs, Length of a code; New where a code is not whole.
-/
import Derived.Test.YtfhbkidceombbaaPreG
namespace Go.Proofs.Ytfhbkidceombbaa
set_option maxRecDepth 100000
open Go.RowKit Go.Joins

set_option maxRecDepth 100000 in
set_option maxHeartbeats 4000000 in
theorem new_part (A : Option Addr) (n cap : Nat) (ls : Nat → Nat) (hn : n ≤ 4096) (w : World) (hL : Lens w A n ls) (h15 : ∀ i, i < n → ls i ≤ 15) (hf : fillN ls n < 32768) :
    Calls Try.prog 84 #[.slice A n cap, .bool false] w fun e w' => e = .returned (.tuple #[.pointer none, .int .i64 10]) ∧ Below w.heap.size w w' := by
  have HW := Lib.hid (words_ok A n cap ls hn w hL h15 (by omega))
  have HF := Lib.hid (fun w' (h : Below w.heap.size w w') => fill_ok A n cap ls hn w' (hL.below (Nat.le_refl _) h) h15)
  clear hL h15
  go_enter Try.func84, Try.ntmps84
  go_wp2_with fail
  refine (HW.out).mono ?_; rintro e w1 ⟨rfl, hr1, hb1⟩
  have HB1 := Lib.hid hb1
  have hd2 : decide ((fillN ls n : Int) < 32768) = true := decide_eq_true (by omega)
  clear hr1 hb1 HW
  generalize fillN ls n = F at *
  go_wp2_with (first | (go_at_call 101; refine (HF.out _ HB1.out).mono ?_; rintro e w' ⟨rfl, rfl⟩))
  go_ret2
  exact ⟨rfl, HB1.out⟩

theorem signs_any (B g bm n mx : Nat) (ls W : Nat → Nat) (w : World) (hcd : Cd0 w B g bm ls W n mx) :
    Calls Try.prog 104 #[.pointer (some ⟨g, 0, none⟩)] w fun e w' => e = .returned (.int .i64 (n : Nat)) ∧ w = w' := by
  obtain ⟨A, c, hb0, _⟩ := hcd
  have k0 : w.cell? ⟨g, 0, none⟩ = some (.slice A n c) := by rw [cell_of_row w g 0 _ _ _ hb0]; rfl
  clear hb0
  go_enter Try.func104, Try.ntmps104
  go_wp2
  go_ret
  exact ⟨rfl, rfl⟩

theorem length_any (B g bm n mx i : Nat) (ls W : Nat → Nat) (hi : i < n) (hls : ls i < 256) (w : World) (hcd : Cd0 w B g bm ls W n mx) :
    Calls Try.prog 86 #[.pointer (some ⟨g, 0, none⟩), .int .i64 (i : Nat)] w fun e w' => e = .returned (.int .i64 (ls i : Nat)) ∧ w = w' := by
  have HS := Lib.hid (signs_any B g bm n mx ls W w hcd)
  obtain ⟨A, c, hb0, ho, _⟩ := hcd
  have k0 : w.cell? ⟨g, 0, none⟩ = some (.slice A n c) := by rw [cell_of_row w g 0 _ _ _ hb0]; rfl
  clear hb0
  rcases ho.2 with ⟨h0, _⟩ | ⟨g2, cap2, cur, h0, hg2, hb2, h3⟩
  · injection h0 with _ e _
    omega
  · have k1 : w.cell? ⟨g2, i * 2, none⟩ = some (.int .u8 (ls i : Nat)) := by
      rw [cell_of_row w g2 (i * 2) _ _ _ hb2, ← (wcells_at ls W n i hi).1, ← h3.2.2.2, List.getElem?_take_of_lt (by omega), Array.getElem?_toList]
    clear hb2 h3
    go_enter Try.func86, Try.ntmps86
    go_wp2_with (go_at_call 104; refine (HS.out).mono ?_; rintro e w' ⟨rfl, rfl⟩)
    go_ret
    exact ⟨rfl, rfl⟩
end Go.Proofs.Ytfhbkidceombbaa
