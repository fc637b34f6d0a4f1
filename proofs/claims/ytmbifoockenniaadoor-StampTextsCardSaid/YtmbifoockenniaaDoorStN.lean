/-
  Of at anything, awake.
-/
import Derived.Test.YtmbifoockenniaaDoorStL
namespace Go.Proofs.YtmbifoockenniaaDoor
set_option maxRecDepth 100000
open Go.RowKit Go.Joins Go.Deep

/-- What Of answers: the date, its error. -/
inductive OfIs (t : Int) : Nat → Nat → Nat → Nat → Nat → Nat → Nat → Prop
  | yes (y m d s : Nat) (hd : IsDate y m d s) (ht : t = tI y m d s) : OfIs t y m d (s / 3600) (s / 60 % 60) (s % 60) 0
  | no (h : t < -62135596800 ∨ 253402300799 < t) : OfIs t 0 0 0 0 0 0 23
theorem of_ex (t : Int) : ∃ y m d h mi s z, OfIs t y m d h mi s z := by
  by_cases h : t < -62135596800 ∨ 253402300799 < t
  · exact ⟨_, _, _, _, _, _, _, .no h⟩
  · obtain ⟨y, m, d, s, hd, ht⟩ := date_ex (t + 62135596800).toNat (by omega)
    exact ⟨_, _, _, _, _, _, _, .yes y m d s hd (by unfold tI; omega)⟩
theorem OfIs.bd {t : Int} {y m d h mi s z : Nat} (H : OfIs t y m d h mi s z) : y < 10000 ∧ m < 100 ∧ d < 100 ∧ h < 100 ∧ mi < 100 ∧ s < 100 ∧ z ≤ 23 := by
  cases H with
  | yes y m d s hd ht =>
    have h1 := hd.y2; have h2 := hd.m2; have h3 := hd.d2; have h4 := hd.s2; have h5 := ml_bd y m
    omega
  | no h => omega
theorem of_any {t : Int} {y m d h mi s z : Nat} (H : OfIs t y m d h mi s z) (w : World) :
    Calls Tryd.prog 11 #[.int .i64 t] w fun e w' => e = .returned (.tuple #[.agg #[.int .i64 (y : Nat), .int .i64 (m : Nat), .int .i64 (d : Nat), .int .i64 (h : Nat), .int .i64 (mi : Nat), .int .i64 (s : Nat)], .int .i64 (z : Nat)]) ∧ Below w.heap.size w w' := by
  cases H with
  | yes y m d s hd ht => rw [ht]; exact of_y y m d s hd w
  | no h => exact of_n t h w
theorem rof_any {t : Int} {y m d h mi s z : Nat} (H : OfIs t y m d h mi s z) (hw : (Lit.int .i64 t).wf = true) (w : World) :
    Calls Tryd.prog 12 #[.int .i64 t] w fun e w' => e = .returned (.tuple #[.agg #[.int .i64 (y : Nat), .int .i64 (m : Nat), .int .i64 (d : Nat), .int .i64 (h : Nat), .int .i64 (mi : Nat), .int .i64 (s : Nat)], .int .i64 (z : Nat)]) ∧ Below w.heap.size w w' := by
  cases H with
  | yes y m d s hd ht => rw [ht]; exact rof_y y m d s hd w
  | no h => exact rof_no t h hw w

theorem txt_first : txt 1970 1 1 0 0 0 = ⟨#[49, 57, 55, 48, 45, 48, 49, 45, 48, 49, 84, 48, 48, 58, 48, 48, 58, 48, 48]⟩ := by decide
theorem first_of : OfIs 0 1970 1 1 0 0 0 0 := by
  have := OfIs.yes (t := 0) 1970 1 1 0 ⟨by omega, by omega, by omega, by omega, by omega, by decide, by omega⟩ (by decide)
  exact this
theorem first_dos : Dos 0 1980 1 1 0 := ⟨date_first.1, by rw [if_pos (by omega), date_first.2], by omega, by omega⟩
theorem awake12_any (w : World) (hp : Pow w) :
    Calls Tryd.prog 10 #[] w fun e w' => e = .returned (.bool true) ∧ Below w.heap.size w w' := by
  have HO := Lib.hid (fun w => of_any first_of w)
  have HT : Hid (∀ w : World, Pow w → Calls Tryd.prog 20 #[.agg #[.int .i64 (1970 : Nat), .int .i64 (1 : Nat), .int .i64 (1 : Nat), .int .i64 (0 : Nat), .int .i64 (0 : Nat), .int .i64 (0 : Nat)]] w fun e w' => e = .returned (.string ⟨#[49, 57, 55, 48, 45, 48, 49, 45, 48, 49, 84, 48, 48, 58, 48, 48, 58, 48, 48]⟩) ∧ Below w.heap.size w w') := fun w hp => by
    rw [← txt_first]
    exact text_any 1970 1 1 0 0 0 (by omega) (by omega) (by omega) (by omega) (by omega) (by omega) w hp
  have HD : Hid (∀ w : World, Calls Tryd.prog 17 #[.int .i64 0] w fun e w' => e = .returned (.int .u32 2162688) ∧ Below w.heap.size w w') := fun w => by
    have h := toDOS_any 0 1980 1 1 0 first_dos w
    rw [show dosN 1980 1 1 0 = 2162688 from by decide] at h
    exact h
  have HP := Lib.hid hp
  clear hp
  go_enter Tryd.func10, Tryd.ntmps10
  go_wp2_with fail
  refine (HO.out _).mono ?_; rintro e w1 ⟨rfl, hb⟩
  have hp1 := HP.out.below hb
  have hb1 := hb.alloc hb.size (.cells #[.int .i64 (1970 : Nat), .int .i64 (1 : Nat), .int .i64 (1 : Nat), .int .i64 (0 : Nat), .int .i64 (0 : Nat), .int .i64 (0 : Nat)] 23)
  have hp2 := Lib.hid (hp1.below ((Below.refl w1.heap.size w1).alloc (Nat.le_refl _) (.cells #[.int .i64 (1970 : Nat), .int .i64 (1 : Nat), .int .i64 (1 : Nat), .int .i64 (0 : Nat), .int .i64 (0 : Nat), .int .i64 (0 : Nat)] 23)))
  have hx := heap_alloc_new w1 (.cells #[.int .i64 (1970 : Nat), .int .i64 (1 : Nat), .int .i64 (1 : Nat), .int .i64 (0 : Nat), .int .i64 (0 : Nat), .int .i64 (0 : Nat)] 23)
  have HB1 := Lib.hid hb1
  clear hb hb1 hp1 HO
  go_wp2_with fail
  refine (HT.out _ hp2.out).mono ?_; rintro e w2 ⟨rfl, hb⟩
  have HB2 := Lib.hid (below_then HB1.out hb)
  clear hb HT
  go_wp2_with fail
  refine (HD.out _).mono ?_; rintro e w3 ⟨rfl, hb⟩
  have HB3 := Lib.hid (below_then HB2.out hb)
  clear hb HD
  go_wp2_with fail
  go_ret
  exact ⟨rfl, HB3.out⟩
end Go.Proofs.YtmbifoockenniaaDoor
