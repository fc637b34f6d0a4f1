/-
 The walk of DeflateBack.
-/
import Derived.Test.YtmkeicfklbepnaaGreatRfP
import Derived.Test.YtmkeicfklbepnaaGreatDbA
import Derived.Test.YtmkeicfklbepnaaGreatPkDB
namespace Go.Proofs.YtmkeicfklbepnaaGreat
set_option maxRecDepth 100000
set_option linter.unusedVariables false
set_option linter.unusedSimpArgs false
open Go.RowKit Go.Deep Go.Joins
set_option maxHeartbeats 16000000 in
theorem deflateBack_walk (s : ByteArray) (level : Int) (_w0 : s.size ≤ maxLen) (_w1 : (Lit.int .i64 level).wf = true) (w : World) :
  Calls Tryz.prog 3 #[.string s, .int .i64 level] w fun e w' => e = .returned (.bool true) ∧ Below w.heap.size w w' := by
 unfold maxLen at *
 by_cases hbig : 4000 < s.size
 ·have g1 : decide ((4000 : Int) < (s.size : Int)) = true := decide_eq_true (by omega)
  have g2 : decide (4000 < s.size) = true := decide_eq_true hbig
  go_enter Tryz.func3, Tryz.ntmps3
  go_wp2_with fail
  refine (awake9_any _).mono ?_; rintro e w1 ⟨rfl, rfl⟩
  go_wp2_with fail
  go_ret
  exact ⟨rfl, Below.refl _ _⟩
 have g1 : decide ((4000 : Int) < (s.size : Int)) = false := decide_eq_false (by omega)
 have g2 : decide (4000 < s.size) = false := decide_eq_false hbig
 by_cases hlv : level < 0 ∨ 9 < level
 ·have HD := Lib.hid (deflate_arg s level hlv w)
  have HE : Hid ((decide (level < 0) = true) ∨ (decide (level < 0) = false ∧ decide (9 < level) = true)) := by
   rcases hlv with h | h
   ·exact .inl (decide_eq_true h)
   ·by_cases h2 : level < 0
    ·exact .inl (decide_eq_true h2)
    ·exact .inr ⟨decide_eq_false h2, decide_eq_true h⟩
  clear hlv
  rcases HE.out with h1 | ⟨h1, h2⟩
  ·go_enter Tryz.func3, Tryz.ntmps3
   go_wp2_with fail
   refine (awake9_any _).mono ?_; rintro e w1 ⟨rfl, rfl⟩
   go_wp2_with fail
   refine HD.out.mono ?_; rintro e w1 ⟨rfl, hb⟩
   have HB := Lib.hid hb
   clear hb
   go_wp2_with fail
   go_ret
   exact ⟨rfl, HB.out⟩
  ·go_enter Tryz.func3, Tryz.ntmps3
   go_wp2_with fail
   refine (awake9_any _).mono ?_; rintro e w1 ⟨rfl, rfl⟩
   go_wp2_with fail
   refine HD.out.mono ?_; rintro e w1 ⟨rfl, hb⟩
   have HB := Lib.hid hb
   clear hb
   go_wp2_with fail
   go_ret
   exact ⟨rfl, HB.out⟩
 obtain ⟨lv, rfl⟩ := Int.eq_ofNat_of_zero_le (show 0 ≤ level by omega)
 have hl9 : lv ≤ 9 := by omega
 have l1 : decide (((lv : Nat) : Int) < 0) = false := decide_eq_false (by omega)
 have l2 : decide ((9 : Int) < ((lv : Nat) : Int)) = false := decide_eq_false (by omega)
 have l3 : decide (9 < lv) = false := decide_eq_false (by omega)
 have HD := Lib.hid (deflate_any s lv (by omega) hl9 w)
 have HS : Hid (s.size ≤ 4000) := Nat.le_of_not_lt hbig
 have HCL : Hid (bndN (clampN ((s.size : Nat) : Int)) = s.size + 5 * ((s.size + 32767) / 32768 + 1)) := by
  show bndN (clampN ((s.size : Nat) : Int)) = _
  unfold bndN
  have hc : clampN ((s.size : Nat) : Int) = s.size := by
   unfold clampN
   split <;> omega
  rw [hc]
 clear hlv hbig
 go_enter Tryz.func3, Tryz.ntmps3
 go_wp2_with fail
 refine (awake9_any _).mono ?_; rintro e w1 ⟨rfl, rfl⟩
 go_wp2_with fail
 refine HD.out.mono ?_; rintro e w1 ⟨rfl, ⟨k, hfd⟩, hb1⟩
 obtain ⟨hin, hsz, hbd⟩ := dfl_infl s lv k (by have := HS.out; omega) hfd
 obtain ⟨Z, hZ⟩ : ∃ Z, Z = dflT s lv := ⟨_, rfl⟩
 rw [← hZ] at hin hsz hbd
 rw [← hZ]
 have hZ1 : Z.size ≤ 1000000 := by have := HS.out; omega
 have hs4 : s.size ≤ 4000 := HS.out
 have HP := Lib.hid (fun w2 => inflate_all Z ((s.size : Nat) : Int) hZ1 (by omega) w2)
 have HR := Lib.hid (fun w2 => rinflate_any Z ((s.size : Nat) : Int) hZ1 (by omega) w2)
 rw [hin] at HR
 have hin2 : inflM (srcOf Z (((s.size : Nat) : Int)).toNat) 0 [] = .ok ((), (dflB s lv).2, nums s) := hin
 rw [hin2] at HP
 have HP2 : Hid (∀ w2, Calls Tryz.prog 6 #[.string Z, .int .i64 ((s.size : Nat) : Int)] w2 fun e w' => e = .returned (.tuple #[.string s, .int .i64 ((Z.size : Nat) : Int), .int .i64 0]) ∧ Below w2.heap.size w2 w') := fun w2 => by
  have h : Calls Tryz.prog 6 #[.string Z, .int .i64 ((s.size : Nat) : Int)] w2 fun e w' => e = .returned (.tuple #[.string (text (nums s)), .int .i64 ((((dflB s lv).2 + 7) / 8 : Nat) : Int), .int .i64 0]) ∧ Below w2.heap.size w2 w' := HP.out w2
  rw [text_nums, ← hsz] at h
  exact h
 have HR2 : Hid (∀ w2, Calls Tryz.prog 7 #[.string Z, .int .i64 ((s.size : Nat) : Int)] w2 fun e w' => e = .returned (.tuple #[.string s, .int .i64 ((Z.size : Nat) : Int), .int .i64 0]) ∧ Below w2.heap.size w2 w') := fun w2 => by
  have h : Calls Tryz.prog 7 #[.string Z, .int .i64 ((s.size : Nat) : Int)] w2 fun e w' => e = .returned (.tuple #[.string (text (nums s)), .int .i64 ((((dflB s lv).2 + 7) / 8 : Nat) : Int), .int .i64 0]) ∧ Below w2.heap.size w2 w' := HR.out w2
  rw [text_nums, ← hsz] at h
  exact h
 have HBN := Lib.hid (fun w2 => bound_any ((s.size : Nat) : Int) w2)
 rw [HCL.out] at HBN
 obtain ⟨bd, hbd2⟩ : ∃ bd : Nat, bd = s.size + 5 * ((s.size + 32767) / 32768 + 1) := ⟨_, rfl⟩
 rw [← hbd2] at HBN
 have hcmp : decide (((Z.size : Nat) : Int) ≤ ((bd : Nat) : Int)) = true := decide_eq_true (by omega)
 have hcmp2 : decide (Z.size ≤ bd) = true := decide_eq_true (by omega)
 have HB1 := Lib.hid hb1
 clear hfd hin hin2 hsz hbd hZ hb1 HP HR hbd2 HD HCL
 go_wp2_with fail
 refine (HP2.out _).mono ?_; rintro e w2 ⟨rfl, hb2⟩
 have HB2 := Lib.hid (HB1.out.trans (hb2.mono HB1.out.size))
 clear hb2
 go_wp2_with fail
 refine (HR2.out _).mono ?_; rintro e w3 ⟨rfl, hb3⟩
 have HB3 := Lib.hid (HB2.out.trans (hb3.mono HB2.out.size))
 clear hb3 HP2 HR2
 go_wp2_with fail
 refine (HBN.out _).mono ?_; rintro e w4 ⟨rfl, rfl⟩
 go_wp2_with fail
 go_ret
 exact ⟨rfl, HB3.out⟩
end Go.Proofs.YtmkeicfklbepnaaGreat
