/-
  Contracts: ToDOS on both sides, Fits.
-/
import Derived.Test.YtmbifoockenniaaDoorStH
namespace Go.Proofs.YtmbifoockenniaaDoor
set_option maxRecDepth 100000
open Go.RowKit Go.Joins Go.Deep

/-- The date that a time is as DOS has it: the clamped one. -/
structure Dos (t : Int) (y m d s : Nat) : Prop where
  dt : IsDate y m d s
  eq : (if t < 315532800 then 315532800 else if 4354819199 < t then 4354819199 else t) = tI y m d s
  lo : 1980 ≤ y
  hi : y ≤ 2107
theorem date_first : IsDate 1980 1 1 0 ∧ tI 1980 1 1 0 = 315532800 := ⟨⟨by omega, by omega, by omega, by omega, by omega, by decide, by omega⟩, by decide⟩
theorem date_last : IsDate 2107 12 31 86399 ∧ tI 2107 12 31 86399 = 4354819199 := ⟨⟨by omega, by omega, by omega, by omega, by omega, by decide, by omega⟩, by decide⟩
theorem tI_inj {y m d s : Nat} {x : Int} (h : x = tI y m d s) : (timeN y m d s : Int) = x + 62135596800 := by
  unfold tI at h
  omega
theorem dos_ex (t : Int) : ∃ y m d s, Dos t y m d s := by
  by_cases h1 : t < 315532800
  · exact ⟨1980, 1, 1, 0, date_first.1, by rw [if_pos h1, date_first.2], by omega, by omega⟩
  · by_cases h2 : 4354819199 < t
    · exact ⟨2107, 12, 31, 86399, date_last.1, by rw [if_neg h1, if_pos h2, date_last.2], by omega, by omega⟩
    · obtain ⟨y, m, d, s, hd, ht⟩ := date_ex (t + 62135596800).toNat (by omega)
      have e : t = tI y m d s := by unfold tI; omega
      have a := tI_inj (show (315532800 : Int) = tI 1980 1 1 0 from date_first.2.symm)
      have b := tI_inj (show (4354819199 : Int) = tI 2107 12 31 86399 from date_last.2.symm)
      have l1 := date_le date_first.1 hd (by omega)
      have l2 := date_le hd date_last.1 (by omega)
      exact ⟨y, m, d, s, hd, by rw [if_neg h1, if_neg h2, ← e], by omega, by omega⟩
theorem toDOS_any (t : Int) (y m d s : Nat) (D : Dos t y m d s) (w : World) :
    Calls Tryd.prog 17 #[.int .i64 t] w fun e w' => e = .returned (.int .u32 (dosN y m d s : Nat)) ∧ Below w.heap.size w w' := by
  obtain ⟨hd, he, hl, hh⟩ := D
  have HO := Lib.hid (fun w => of_y y m d s hd w)
  have h1 := hd.m2; have h2 := hd.d2; have h3 := hd.s2; have hml := ml_bd y m
  obtain ⟨Y, rfl⟩ : ∃ Y, y = Y + 1980 := ⟨y - 1980, by omega⟩
  have HDO := Lib.hid (dos_or Y m d (s / 3600) (s / 60 % 60) (s % 60) (by omega) (by omega) (by omega) (by omega) (by omega) (by omega))
  have HDN : Hid (dosN (Y + 1980) m d s = Y * 33554432 + m * 2097152 + d * 65536 + s / 3600 * 2048 + s / 60 % 60 * 32 + s % 60 / 2) := by show _ = _; unfold dosN; rw [Nat.add_sub_cancel]
  rw [← he] at HO
  have b1 : s / 3600 ≤ 23 := by omega
  have b2 : s / 60 % 60 ≤ 59 := by omega
  have b3 : s % 60 ≤ 59 := by omega
  have b4 : d ≤ 31 := by omega
  have b5 : Y ≤ 127 := by omega
  clear he hl hh h2 h3 hml hd
  generalize s / 3600 = h at *
  generalize s / 60 % 60 = mi at *
  generalize s % 60 = sc at *
  by_cases t1 : t < 315532800
  · rw [if_pos t1] at HO
    have c1 : ¬ 315532800 < t := by omega
    go_enter Tryd.func17, Tryd.ntmps17
    go_wp2_with fail
    refine (HO.out _).mono ?_; rintro e w1 ⟨rfl, hb⟩
    have HB := Lib.hid (hb.alloc hb.size (.cells #[.int .i64 (Y + 1980 : Nat), .int .i64 (m : Nat), .int .i64 (d : Nat), .int .i64 (h : Nat), .int .i64 (mi : Nat), .int .i64 (sc : Nat)] 23))
    clear hb
    go_wp2_with fail
    go_ret
    refine ⟨?_, HB.out⟩
    rw [HDN.out, ← HDO.out]
    rfl
  · rw [if_neg t1] at HO
    by_cases t2 : 4354819199 < t
    · rw [if_pos t2] at HO
      go_enter Tryd.func17, Tryd.ntmps17
      go_wp2_with fail
      refine (HO.out _).mono ?_; rintro e w1 ⟨rfl, hb⟩
      have HB := Lib.hid (hb.alloc hb.size (.cells #[.int .i64 (Y + 1980 : Nat), .int .i64 (m : Nat), .int .i64 (d : Nat), .int .i64 (h : Nat), .int .i64 (mi : Nat), .int .i64 (sc : Nat)] 23))
      clear hb
      go_wp2_with fail
      go_ret
      refine ⟨?_, HB.out⟩
      rw [HDN.out, ← HDO.out]
      rfl
    · rw [if_neg t2] at HO
      go_enter Tryd.func17, Tryd.ntmps17
      go_wp2_with fail
      refine (HO.out _).mono ?_; rintro e w1 ⟨rfl, hb⟩
      have HB := Lib.hid (hb.alloc hb.size (.cells #[.int .i64 (Y + 1980 : Nat), .int .i64 (m : Nat), .int .i64 (d : Nat), .int .i64 (h : Nat), .int .i64 (mi : Nat), .int .i64 (sc : Nat)] 23))
      clear hb
      go_wp2_with fail
      go_ret
      refine ⟨?_, HB.out⟩
      rw [HDN.out, ← HDO.out]
      rfl

theorem dos_lo {t : Int} {y m d s : Nat} (D : Dos t y m d s) (h : t < 315532800) : dosN y m d s = 2162688 := by
  obtain ⟨hd, he, _, _⟩ := D
  rw [if_pos h] at he
  obtain ⟨rfl, rfl, rfl, rfl⟩ := date_uniq hd date_first.1 (by have a := tI_inj he; have b := tI_inj date_first.2.symm; omega)
  decide
theorem dos_hi {t : Int} {y m d s : Nat} (D : Dos t y m d s) (h : 4354819199 < t) : dosN y m d s = 4288659325 := by
  obtain ⟨hd, he, _, _⟩ := D
  rw [if_neg (by omega), if_pos h] at he
  obtain ⟨rfl, rfl, rfl, rfl⟩ := date_uniq hd date_last.1 (by have a := tI_inj he; have b := tI_inj date_last.2.symm; omega)
  decide
theorem rtoDOS_any (t : Int) (y m d s : Nat) (D : Dos t y m d s) (w : World) :
    Calls Tryd.prog 18 #[.int .i64 t] w fun e w' => e = .returned (.int .u32 (dosN y m d s : Nat)) ∧ Below w.heap.size w w' := by
  by_cases t1 : t < 315532800
  · have HD := Lib.hid (dos_lo D t1)
    go_enter Tryd.func18, Tryd.ntmps18
    go_wp2_with fail
    go_ret
    exact ⟨by rw [HD.out]; rfl, Below.refl _ _⟩
  · by_cases t2 : 4354819199 < t
    · have HD := Lib.hid (dos_hi D t2)
      have t3 : 4354819200 ≤ t := by omega
      go_enter Tryd.func18, Tryd.ntmps18
      go_wp2_with fail
      go_ret
      exact ⟨by rw [HD.out]; rfl, Below.refl _ _⟩
    · obtain ⟨hd, he, hl, hh⟩ := D
      rw [if_neg t1, if_neg t2] at he
      have HO := Lib.hid (fun w => rof_y y m d s hd w)
      have h1 := hd.m2; have h2 := hd.d2; have h3 := hd.s2; have hml := ml_bd y m
      obtain ⟨Y, rfl⟩ : ∃ Y, y = Y + 1980 := ⟨y - 1980, by omega⟩
      have HDN : Hid (dosN (Y + 1980) m d s = Y * 33554432 + m * 2097152 + d * 65536 + s / 3600 * 2048 + s / 60 % 60 * 32 + s % 60 / 2) := by show _ = _; unfold dosN; rw [Nat.add_sub_cancel]
      rw [← he] at HO
      have b1 : s / 3600 ≤ 23 := by omega
      have b2 : s / 60 % 60 ≤ 59 := by omega
      have b3 : s % 60 ≤ 59 := by omega
      have b4 : d ≤ 31 := by omega
      have b5 : Y ≤ 127 := by omega
      have t3 : t < 4354819200 := by omega
      clear he hl hh h2 h3 hml hd t2
      generalize s / 3600 = h at *
      generalize s / 60 % 60 = mi at *
      generalize s % 60 = sc at *
      go_enter Tryd.func18, Tryd.ntmps18
      go_wp2_with fail
      refine (HO.out _).mono ?_; rintro e w1 ⟨rfl, hb⟩
      have HB := Lib.hid (hb.alloc hb.size (.cells #[.int .i64 (Y + 1980 : Nat), .int .i64 (m : Nat), .int .i64 (d : Nat), .int .i64 (h : Nat), .int .i64 (mi : Nat), .int .i64 (sc : Nat)] 28))
      clear hb
      go_wp2_with fail
      go_ret
      exact ⟨ret_eq (by rw [HDN.out]; omega), HB.out⟩
theorem fits_any (t : Int) (w : World) :
    Calls Tryd.prog 19 #[.int .i64 t] w fun e w' => e = .returned (.bool (decide (-2147483648 ≤ t) && decide (t ≤ 2147483647))) ∧ w = w' := by
  generalize h1 : decide (-2147483648 ≤ t) = b1
  generalize h2 : decide (t ≤ 2147483647) = b2
  go_enter Tryd.func19, Tryd.ntmps19
  cases b1 <;> cases b2
  all_goals
    go_wp2_with fail
    go_ret
    exact ⟨rfl, rfl⟩
end Go.Proofs.YtmbifoockenniaaDoor
