/-
  Contracts: leaps, monthDays, daysAhead, yearOf, within.
  Contracts: exists, Seconds, Of.
  Contracts: Seconds, Of.
  Contracts: Of.
  Contracts: the document's leap, year, First, Long.
  Contracts: the document's Of.
  Contracts: the document's Seconds.
  Contracts: Seconds at anything, FromDOS, ToDOS on both sides, Fits.
  An entry's times.
  Meta: an entry's path and node, as one function of the entry.
  How long the text of an entry's name may be.
-/
import Derived.Test.YtijfcmlgohbndaaGreatDoorPkBA
import Derived.Deep.QuietTactic
import Derived.BigQuiet
import Derived.Lib.SmallJoins
import Derived.Laws.ResultCell
import Derived.Laws.Rows
import Derived.Deep.DeepCutAuto
import Derived.Deep.CutBlock
import Derived.Deep.RegionHeld3
import Derived.Deep.DrawnRows
import Derived.Test.YtijfcmlgohbndaaGreatDoorPkAF
import Derived.Test.YtijfcmlgohbndaaGreatDoorPkAG

namespace Go.Proofs.YtijfcmlgohbndaaGreatDoor
set_option maxRecDepth 100000
open Go.RowKit Go.Joins

theorem leaps_any (y : Nat) (hy : y ≤ 20000) (w : World) :
    Calls Tryz.prog 116 #[.int .i64 y] w fun e w' => e = .returned (.bool (leapB y)) ∧ w = w' := by
  have h4 : (((y : Nat) : Int) % 4 == 0) = decide (y % 4 = 0) := by rw [Bool.eq_iff_iff, beq_iff_eq, decide_eq_true_iff]; omega
  have h100 : (((y : Nat) : Int) % 100 != 0) = !decide (y % 100 = 0) := by rw [Bool.eq_iff_iff, bne_iff_ne, Bool.not_eq_true', decide_eq_false_iff_not]; omega
  have h400 : (((y : Nat) : Int) % 400 == 0) = decide (y % 400 = 0) := by rw [Bool.eq_iff_iff, beq_iff_eq, decide_eq_true_iff]; omega
  have HB : Hid (leapB y = (decide (y % 4 = 0) && !decide (y % 100 = 0) || decide (y % 400 = 0))) := by
    show _ = _
    rw [Bool.eq_iff_iff, leap_iff]
    simp
  generalize decide (y % 4 = 0) = b4 at *
  generalize decide (y % 100 = 0) = b100 at *
  generalize decide (y % 400 = 0) = b400 at *
  go_enter Tryz.func116, Tryz.ntmps116
  cases b4 <;> cases b100 <;> cases b400
  all_goals
    go_wp2_with fail
    go_ret
    exact ⟨by rw [HB.out]; rfl, rfl⟩

theorem leaps_y (y : Nat) (hy : y ≤ 20000) (h : leapB y = true) (w : World) :
    Calls Tryz.prog 116 #[.int .i64 y] w fun e w' => e = .returned (.bool true) ∧ w = w' := by
  have := leaps_any y hy w
  rw [h] at this
  exact this
theorem leaps_n (y : Nat) (hy : y ≤ 20000) (h : leapB y = false) (w : World) :
    Calls Tryz.prog 116 #[.int .i64 y] w fun e w' => e = .returned (.bool false) ∧ w = w' := by
  have := leaps_any y hy w
  rw [h] at this
  exact this
theorem ml_two (y : Nat) : ml y 2 = 28 + lpN y := rfl
theorem monthDays_any (y m : Nat) (hy : y ≤ 20000) (h1 : 1 ≤ m) (h2 : m ≤ 12) (w : World) :
    Calls Tryz.prog 96 #[.int .i64 y, .int .i64 m] w fun e w' => e = .returned (.int .i64 (ml y m : Nat)) ∧ w = w' := by
  by_cases e2 : m = 2
  · subst e2
    cases hl : leapB y with
    | true =>
      have HM : Hid (ml y 2 = 29) := by show ml y 2 = _; rw [ml_two]; unfold lpN; rw [if_pos hl]
      have HL := Lib.hid (fun w => leaps_y y hy hl w)
      clear hl
      go_enter Tryz.func96, Tryz.ntmps96
      go_wp2_with fail
      refine (HL.out _).mono ?_; rintro r w1 ⟨rfl, rfl⟩
      go_wp2_with fail
      go_ret
      exact ⟨by rw [HM.out]; rfl, rfl⟩
    | false =>
      have HM : Hid (ml y 2 = 28) := by show ml y 2 = _; rw [ml_two]; unfold lpN; rw [if_neg (by rw [hl]; decide)]
      have HL := Lib.hid (fun w => leaps_n y hy hl w)
      clear hl
      go_enter Tryz.func96, Tryz.ntmps96
      go_wp2_with fail
      refine (HL.out _).mono ?_; rintro r w1 ⟨rfl, rfl⟩
      go_wp2_with fail
      go_ret
      exact ⟨by rw [HM.out]; rfl, rfl⟩
  · have hm : ml y m = if m = 4 ∨ m = 6 ∨ m = 9 ∨ m = 11 then 30 else 31 := if_neg e2
    have : m = 1 ∨ m = 3 ∨ m = 4 ∨ m = 5 ∨ m = 6 ∨ m = 7 ∨ m = 8 ∨ m = 9 ∨ m = 10 ∨ m = 11 ∨ m = 12 := by omega
    have HM := Lib.hid hm
    clear hm h1 h2
    go_enter Tryz.func96, Tryz.ntmps96
    rcases this with rfl | rfl | rfl | rfl | rfl | rfl | rfl | rfl | rfl | rfl | rfl
    all_goals
      clear e2
      go_wp2_with fail
      go_ret
      exact ⟨by rw [HM.out]; rfl, rfl⟩

theorem dbf_int (y : Nat) (h1 : 1 ≤ y) : ((dbf y : Nat) : Int) = 365 * ((y : Int) - 1) + ((y : Int) - 1) / 4 - ((y : Int) - 1) / 100 + ((y : Int) - 1) / 400 := by
  obtain ⟨n, rfl⟩ : ∃ n, y = n + 1 := ⟨y - 1, by omega⟩
  unfold dbf
  rw [Nat.add_sub_cancel]
  have h1 : n / 100 ≤ 365 * n + n / 4 := by omega
  have e : ((n + 1 : Nat) : Int) - 1 = (n : Nat) := by omega
  have a4 : ((n : Nat) : Int) / 4 = ((n / 4 : Nat) : Int) := by omega
  have a100 : ((n : Nat) : Int) / 100 = ((n / 100 : Nat) : Int) := by omega
  have a400 : ((n : Nat) : Int) / 400 = ((n / 400 : Nat) : Int) := by omega
  rw [e, a4, a100, a400]
  generalize n / 4 = a at *
  generalize n / 100 = b at *
  generalize n / 400 = c at *
  clear e a4 a100 a400
  omega
theorem daysAhead_any (y : Nat) (h1 : 1 ≤ y) (h2 : y ≤ 20000) (w : World) :
    Calls Tryz.prog 97 #[.int .i64 y] w fun e w' => e = .returned (.int .i64 (dbf y : Nat)) ∧ w = w' := by
  have HD := Lib.hid (dbf_int y h1)
  go_enter Tryz.func97, Tryz.ntmps97
  go_wp2_with fail
  go_ret
  exact ⟨ret_eq (by rw [HD.out]), rfl⟩

theorem within_y (n a b : Int) (h : a ≤ n ∧ n ≤ b) (w : World) :
    Calls Tryz.prog 115 #[.int .i64 n, .int .i64 a, .int .i64 b] w fun e w' => e = .returned (.bool true) ∧ w' = w := by
  obtain ⟨h1, h2⟩ := h
  have d1 : decide (a ≤ n) = true := decide_eq_true h1
  have d2 : decide (n ≤ b) = true := decide_eq_true h2
  go_enter Tryz.func115, Tryz.ntmps115
  go_wp2_with fail
  go_ret
  exact ⟨rfl, rfl⟩
theorem within_n (n a b : Int) (h : ¬ (a ≤ n ∧ n ≤ b)) (w : World) :
    Calls Tryz.prog 115 #[.int .i64 n, .int .i64 a, .int .i64 b] w fun e w' => e = .returned (.bool false) ∧ w' = w := by
  by_cases h1 : a ≤ n
  · have d1 : decide (a ≤ n) = true := decide_eq_true h1
    have h2 : ¬ n ≤ b := fun k => h ⟨h1, k⟩
    have d2 : decide (n ≤ b) = false := decide_eq_false h2
    clear h
    go_enter Tryz.func115, Tryz.ntmps115
    go_wp2_with fail
    go_ret
    exact ⟨rfl, rfl⟩
  · have d1 : decide (a ≤ n) = false := decide_eq_false h1
    clear h
    go_enter Tryz.func115, Tryz.ntmps115
    go_wp2_with fail
    go_ret
    exact ⟨rfl, rfl⟩
end Go.Proofs.YtijfcmlgohbndaaGreatDoor

namespace Go.Proofs.YtijfcmlgohbndaaGreatDoor
set_option maxRecDepth 100000
open Go.RowKit Go.Joins

theorem results_ct_rowS {P : Program} {fn : Func} {p u : Tmp} {ty : TypeId} (h : fn.results = #[.cell p ty, .tmp u]) (tmps : Array Value) (w : World) (g : Nat) (t : TypeId) (cs : Array Value) (fr : Nat × Nat) (d : TypeDesc)
    (hp : tmps.getD p undef = .pointer (some ⟨g, 0, none⟩)) (hg : w.heap[g]? = some (.cells cs t fr))
    (hu : P.underlying ty = some d) (hd : (match d with | .struct _ | .array _ _ => true | _ => false) = true) (hi : (P.info? ty).map (·.size) = some cs.size) :
    (results fn tmps).run P w = .ok (.tuple #[.agg cs, tmps.getD u undef]) w := by
  rw [results_cell_tmp h, hp]
  simp [asAddr, run_loadVar_row w g t ty cs fr d hg hu hd hi, Result.andThen]

/-- Six numbers as a date. -/
def dateV (Y M D h mi s : Int) : Value := .agg #[.int .i64 Y, .int .i64 M, .int .i64 D, .int .i64 h, .int .i64 mi, .int .i64 s]
/-- Is there such a date? -/
def RightS (Y M D h mi s : Int) : Prop := (1 ≤ Y ∧ Y ≤ 9999) ∧ (1 ≤ M ∧ M ≤ 12) ∧ (1 ≤ D ∧ D ≤ (ml Y.toNat M.toNat : Nat)) ∧ (0 ≤ h ∧ h ≤ 23) ∧ (0 ≤ mi ∧ mi ≤ 59) ∧ (0 ≤ s ∧ s ≤ 59)

theorem md_int (Y M : Int) (hY : 1 ≤ Y ∧ Y ≤ 9999) (hM : 1 ≤ M ∧ M ≤ 12) (w : World) :
    Calls Tryz.prog 96 #[.int .i64 Y, .int .i64 M] w fun e w' => e = .returned (.int .i64 (ml Y.toNat M.toNat : Nat)) ∧ w' = w := by
  obtain ⟨y, rfl⟩ := Int.eq_ofNat_of_zero_le (show 0 ≤ Y by omega)
  obtain ⟨m, rfl⟩ := Int.eq_ofNat_of_zero_le (show 0 ≤ M by omega)
  exact (monthDays_any y m (by omega) (by omega) (by omega) w).mono fun _ _ h => ⟨h.1, h.2.symm⟩

theorem info_date : (Tryz.prog.info? 148).map (·.size) = some 6 := by kernel_rfl
theorem zero_date (w : World) : (zeroValue 148).run Tryz.prog w = .ok (.agg #[.int .i64 0, .int .i64 0, .int .i64 0, .int .i64 0, .int .i64 0, .int .i64 0]) w := by kernel_rfl
theorem six_one (a b c d e f : Int) : (#[Value.int .i64 a, .int .i64 b, .int .i64 c, .int .i64 d, .int .i64 e, .int .i64 f] : Array Value).all (·.oneCell') = true := by simp [Value.oneCell']

theorem exists_y (Y M D h mi s : Int) (hr : RightS Y M D h mi s) (w : World) :
    Calls Tryz.prog 95 #[.agg #[.int .i64 Y, .int .i64 M, .int .i64 D, .int .i64 h, .int .i64 mi, .int .i64 s]] w fun e w' => e = .returned (.bool true) ∧ Below w.heap.size w w' := by
  obtain ⟨hY, hM, hD, hh, hmi, hs⟩ := hr
  have HB := Lib.hid ((Below.refl w.heap.size w).alloc (Nat.le_refl _) (.cells #[.int .i64 Y, .int .i64 M, .int .i64 D, .int .i64 h, .int .i64 mi, .int .i64 s] 148))
  go_enter Tryz.func95, Tryz.ntmps95
  go_wp2_with fail
  go_quiet ((first | (go_at_call 115; exact Calls.quiet_of_same (within_y _ _ _ (by assumption) _)) | (go_at_call 96; exact Calls.quiet_of_same (md_int _ _ (by assumption) (by assumption) _))))
  go_wp2_with fail
  go_ret
  exact ⟨rfl, below_drewN HB.out _⟩
theorem exists_n (Y M D h mi s : Int) (hr : ¬ RightS Y M D h mi s) (w : World) :
    Calls Tryz.prog 95 #[.agg #[.int .i64 Y, .int .i64 M, .int .i64 D, .int .i64 h, .int .i64 mi, .int .i64 s]] w fun e w' => e = .returned (.bool false) ∧ Below w.heap.size w w' := by
  have HB := Lib.hid ((Below.refl w.heap.size w).alloc (Nat.le_refl _) (.cells #[.int .i64 Y, .int .i64 M, .int .i64 D, .int .i64 h, .int .i64 mi, .int .i64 s] 148))
  by_cases hY : 1 ≤ Y ∧ Y ≤ 9999
  case neg =>
    clear hr
    go_enter Tryz.func95, Tryz.ntmps95
    go_wp2_with fail
    go_quiet ((first | (go_at_call 115; first | exact Calls.quiet_of_same (within_y _ _ _ (by assumption) _) | exact Calls.quiet_of_same (within_n _ _ _ (by assumption) _)) | (go_at_call 96; exact Calls.quiet_of_same (md_int _ _ (by assumption) (by assumption) _))))
    go_wp2_with fail
    go_ret
    exact ⟨rfl, below_drewN HB.out _⟩
  by_cases hM : 1 ≤ M ∧ M ≤ 12
  case neg =>
    clear hr
    go_enter Tryz.func95, Tryz.ntmps95
    go_wp2_with fail
    go_quiet ((first | (go_at_call 115; first | exact Calls.quiet_of_same (within_y _ _ _ (by assumption) _) | exact Calls.quiet_of_same (within_n _ _ _ (by assumption) _)) | (go_at_call 96; exact Calls.quiet_of_same (md_int _ _ (by assumption) (by assumption) _))))
    go_wp2_with fail
    go_ret
    exact ⟨rfl, below_drewN HB.out _⟩
  by_cases hD : 1 ≤ D ∧ D ≤ (ml Y.toNat M.toNat : Nat)
  case neg =>
    clear hr
    go_enter Tryz.func95, Tryz.ntmps95
    go_wp2_with fail
    go_quiet ((first | (go_at_call 115; first | exact Calls.quiet_of_same (within_y _ _ _ (by assumption) _) | exact Calls.quiet_of_same (within_n _ _ _ (by assumption) _)) | (go_at_call 96; exact Calls.quiet_of_same (md_int _ _ (by assumption) (by assumption) _))))
    go_wp2_with fail
    go_ret
    exact ⟨rfl, below_drewN HB.out _⟩
  by_cases hh : 0 ≤ h ∧ h ≤ 23
  case neg =>
    clear hr
    go_enter Tryz.func95, Tryz.ntmps95
    go_wp2_with fail
    go_quiet ((first | (go_at_call 115; first | exact Calls.quiet_of_same (within_y _ _ _ (by assumption) _) | exact Calls.quiet_of_same (within_n _ _ _ (by assumption) _)) | (go_at_call 96; exact Calls.quiet_of_same (md_int _ _ (by assumption) (by assumption) _))))
    go_wp2_with fail
    go_ret
    exact ⟨rfl, below_drewN HB.out _⟩
  by_cases hmi : 0 ≤ mi ∧ mi ≤ 59
  case neg =>
    clear hr
    go_enter Tryz.func95, Tryz.ntmps95
    go_wp2_with fail
    go_quiet ((first | (go_at_call 115; first | exact Calls.quiet_of_same (within_y _ _ _ (by assumption) _) | exact Calls.quiet_of_same (within_n _ _ _ (by assumption) _)) | (go_at_call 96; exact Calls.quiet_of_same (md_int _ _ (by assumption) (by assumption) _))))
    go_wp2_with fail
    go_ret
    exact ⟨rfl, below_drewN HB.out _⟩
  by_cases hs : 0 ≤ s ∧ s ≤ 59
  · exact (hr ⟨hY, hM, hD, hh, hmi, hs⟩).elim
  · clear hr
    go_enter Tryz.func95, Tryz.ntmps95
    go_wp2_with fail
    go_quiet ((first | (go_at_call 115; first | exact Calls.quiet_of_same (within_y _ _ _ (by assumption) _) | exact Calls.quiet_of_same (within_n _ _ _ (by assumption) _)) | (go_at_call 96; exact Calls.quiet_of_same (md_int _ _ (by assumption) (by assumption) _))))
    go_wp2_with fail
    go_ret
    exact ⟨rfl, below_drewN HB.out _⟩

theorem right_nat {Y M D h mi s : Int} (hr : RightS Y M D h mi s) : ∃ y m d t : Nat, IsDate y m d t ∧ Y = (y : Nat) ∧ M = (m : Nat) ∧ D = (d : Nat) ∧ h = (t / 3600 : Nat) ∧ mi = (t / 60 % 60 : Nat) ∧ s = (t % 60 : Nat) := by
  obtain ⟨hY, hM, hD, hh, hmi, hs⟩ := hr
  obtain ⟨y, rfl⟩ := Int.eq_ofNat_of_zero_le (show 0 ≤ Y by omega)
  obtain ⟨m, rfl⟩ := Int.eq_ofNat_of_zero_le (show 0 ≤ M by omega)
  obtain ⟨d, rfl⟩ := Int.eq_ofNat_of_zero_le (show 0 ≤ D by omega)
  obtain ⟨a, rfl⟩ := Int.eq_ofNat_of_zero_le hh.1
  obtain ⟨b, rfl⟩ := Int.eq_ofNat_of_zero_le hmi.1
  obtain ⟨c, rfl⟩ := Int.eq_ofNat_of_zero_le hs.1
  rw [Int.toNat_natCast, Int.toNat_natCast] at hD
  exact ⟨y, m, d, a * 3600 + b * 60 + c, ⟨by omega, by omega, by omega, by omega, by omega, by omega, by omega⟩, rfl, rfl, rfl, by omega, by omega, by omega⟩
theorem right_of {y m d t : Nat} (h : IsDate y m d t) : RightS (y : Nat) (m : Nat) (d : Nat) (t / 3600 : Nat) (t / 60 % 60 : Nat) (t % 60 : Nat) := by
  have h1 := h.y1; have h2 := h.y2; have h3 := h.m1; have h4 := h.m2; have h5 := h.d1; have h6 := h.d2; have h7 := h.s2
  refine ⟨by omega, by omega, ⟨by omega, ?_⟩, by omega, by omega, by omega⟩
  rw [Int.toNat_natCast, Int.toNat_natCast]
  omega
end Go.Proofs.YtijfcmlgohbndaaGreatDoor

namespace Go.Proofs.YtijfcmlgohbndaaGreatDoor
set_option maxRecDepth 100000
open Go.RowKit Go.Joins

/-- A date's time. -/
def tI (y m d t : Nat) : Int := (timeN y m d t : Nat) - 62135596800
theorem tI_eq {y m d t : Nat} (h : IsDate y m d t) : (((dbf y : Nat) : Int) + (((d : Nat) : Int) - 1 + (mb y m : Nat)) - 719162) * 86400 + ((t / 3600 : Nat) * 3600 + (t / 60 % 60 : Nat) * 60 + (t % 60 : Nat)) = tI y m d t := by
  have h1 := h.d1
  unfold tI timeN
  generalize dbf y = a
  generalize mb y m = b
  omega
theorem tI_bd {y m d t : Nat} (h : IsDate y m d t) : -62135596800 ≤ tI y m d t ∧ tI y m d t ≤ 253402300799 := by
  have := h.time
  unfold tI
  omega
theorem lt_of_heapS {w : World} {g : Nat} {o : Obj} (h : w.heap[g]? = some o) : g < w.heap.size := by
  rcases Nat.lt_or_ge g w.heap.size with hlt | hge
  · exact hlt
  · rw [Array.getElem?_eq_none hge] at h; cases h

theorem seconds_n (Y M D h mi s : Int) (hr : ¬ RightS Y M D h mi s) (w : World) :
    Calls Tryz.prog 66 #[.agg #[.int .i64 Y, .int .i64 M, .int .i64 D, .int .i64 h, .int .i64 mi, .int .i64 s]] w fun e w' => e = .returned (.tuple #[.int .i64 0, .int .i64 23]) ∧ Below w.heap.size w w' := by
  have HE := Lib.hid (fun w => exists_n Y M D h mi s hr w)
  have HB := Lib.hid ((Below.refl w.heap.size w).alloc (Nat.le_refl _) (.cells #[.int .i64 Y, .int .i64 M, .int .i64 D, .int .i64 h, .int .i64 mi, .int .i64 s] 148))
  clear hr
  go_enter Tryz.func66, Tryz.ntmps66
  go_wp2_with fail
  refine (HE.out _).mono ?_; rintro r w1 ⟨rfl, h1⟩
  have HC := Lib.hid (below_then HB.out h1)
  clear h1
  go_wp2_with fail
  go_ret2
  exact ⟨rfl, HC.out⟩

set_option maxHeartbeats 1000000 in
theorem seconds_y (y m d t : Nat) (hd : IsDate y m d t) (w : World) :
    Calls Tryz.prog 66 #[.agg #[.int .i64 (y : Nat), .int .i64 (m : Nat), .int .i64 (d : Nat), .int .i64 (t / 3600 : Nat), .int .i64 (t / 60 % 60 : Nat), .int .i64 (t % 60 : Nat)]] w fun e w' => e = .returned (.tuple #[.int .i64 (tI y m d t), .int .i64 0]) ∧ Below w.heap.size w w' := by
  have HE := Lib.hid (fun w => exists_y _ _ _ _ _ _ (right_of hd) w)
  have HT := Lib.hid (tI_eq hd)
  have HTB := tI_bd hd
  have y1 := hd.y1; have y2 := hd.y2; have m1 := hd.m1; have m2 := hd.m2; have d1 := hd.d1; have d2 := hd.d2; have s2 := hd.s2
  have hml := ml_bd y m
  have hmle := mb_le y m m1 m2
  have hdb := (dbf_ge y y1).2
  have hdb2 : dbf y ≤ 3700000 := by omega
  have hA : t / 3600 ≤ 23 := by omega
  have hBb : t / 60 % 60 ≤ 59 := by omega
  have hCc : t % 60 ≤ 59 := by omega
  have HMB : Hid (∀ k, 1 ≤ k → k < m → mb y (k + 1) = mb y k + ml y k) := fun k a _ => mb_succ y k a
  have HML : Hid (∀ k, 1 ≤ k → k ≤ m → mb y k ≤ 366 ∧ ml y k ≤ 31) := fun k a b => ⟨by have := mb_le y k a (by omega); omega, (ml_bd y k).2⟩
  have HMD : Hid (∀ (k : Nat) (w : World), 1 ≤ k → k ≤ 12 → Calls Tryz.prog 96 #[.int .i64 (y : Nat), .int .i64 (k : Nat)] w fun e w' => e = .returned (.int .i64 (ml y k : Nat)) ∧ w = w') := fun k w a b => monthDays_any y k (by omega) a b w
  have HDA := Lib.hid (fun w => daysAhead_any y y1 (by omega) w)
  have HM1 : Hid (mb y 1 = 0) := mb_one y
  have HB := Lib.hid ((Below.refl w.heap.size w).alloc (Nat.le_refl _) (.cells #[.int .i64 (y : Nat), .int .i64 (m : Nat), .int .i64 (d : Nat), .int .i64 (t / 3600 : Nat), .int .i64 (t / 60 % 60 : Nat), .int .i64 (t % 60 : Nat)] 148))
  have HR := Lib.hid (heap_alloc_new w (.cells #[.int .i64 (y : Nat), .int .i64 (m : Nat), .int .i64 (d : Nat), .int .i64 (t / 3600 : Nat), .int .i64 (t / 60 % 60 : Nat), .int .i64 (t % 60 : Nat)] 148))
  generalize tI y m d t = TT at *
  clear hd s2
  generalize t / 3600 = a at *
  generalize t / 60 % 60 = b at *
  generalize t % 60 = c at *
  go_enter Tryz.func66, Tryz.ntmps66
  go_wp2_with fail
  refine (HE.out _).mono ?_; rintro r w1 ⟨rfl, h1⟩
  have hb1 := below_then HB.out h1
  have hr1 := (h1.block _ (lt_of_heapS HR.out)).trans HR.out
  clear h1 HB HR HE
  have c0 : w1.cell? ⟨w.heap.size, 0, none⟩ = some (.int .i64 (y : Nat)) := by rw [cell_of_row _ _ 0 _ _ _ hr1]; rfl
  have c1 : w1.cell? ⟨w.heap.size, 1, none⟩ = some (.int .i64 (m : Nat)) := by rw [cell_of_row _ _ 1 _ _ _ hr1]; rfl
  have c2 : w1.cell? ⟨w.heap.size, 2, none⟩ = some (.int .i64 (d : Nat)) := by rw [cell_of_row _ _ 2 _ _ _ hr1]; rfl
  have c3 : w1.cell? ⟨w.heap.size, 3, none⟩ = some (.int .i64 (a : Nat)) := by rw [cell_of_row _ _ 3 _ _ _ hr1]; rfl
  have c4 : w1.cell? ⟨w.heap.size, 4, none⟩ = some (.int .i64 (b : Nat)) := by rw [cell_of_row _ _ 4 _ _ _ hr1]; rfl
  have c5 : w1.cell? ⟨w.heap.size, 5, none⟩ = some (.int .i64 (c : Nat)) := by rw [cell_of_row _ _ 5 _ _ _ hr1]; rfl
  have HB1 := Lib.hid hb1
  clear hb1 hr1
  go_wp2_with fail
  go_loop [4, 5] (fun v i => ∃ k : Nat, 1 ≤ k ∧ k ≤ m ∧ i = .int .i64 (k : Nat) ∧ v = .int .i64 (((d : Nat) : Int) - 1 + (mb y k : Nat))) (fun _ i => m - (intOf i).toNat)
  case atStart => exact ⟨1, by omega, m1, rfl, by rw [HM1.out]; go_num⟩
  case round =>
    obtain ⟨k, k1, k2, rfl, rfl⟩ := hrel
    obtain ⟨b1, b2⟩ := HML.out k k1 k2
    by_cases hk : k < m
    · have HMS := Lib.hid (HMB.out k k1 hk)
      generalize mb y k = B at *
      go_wp2_with fail
      refine (HMD.out k _ k1 (by omega)).mono ?_; rintro e w2 ⟨rfl, rfl⟩
      generalize ml y k = L at *
      go_wp2_with fail
      go_round
      case rel => exact ⟨k + 1, by omega, by omega, by go_num, by rw [HMS.out]; go_num⟩
      case measure => simp [intOf]; omega
    · obtain rfl : k = m := by omega
      generalize mb y k = B at *
      generalize dbf y = F at *
      clear HMB HML HMD
      go_wp2_with fail
      refine (HDA.out _).mono ?_; rintro e w2 ⟨rfl, rfl⟩
      go_wp2_with fail
      go_ret2
      exact ⟨by rw [← HT.out]; rfl, HB1.out⟩
end Go.Proofs.YtijfcmlgohbndaaGreatDoor

namespace Go.Proofs.YtijfcmlgohbndaaGreatDoor
set_option maxRecDepth 100000
open Go.RowKit Go.Joins

end Go.Proofs.YtijfcmlgohbndaaGreatDoor

namespace Go.Proofs.YtijfcmlgohbndaaGreatDoor
set_option maxRecDepth 100000
open Go.RowKit Go.Joins

theorem dbf_small (y : Nat) (h : y ≤ 10001) : dbf y ≤ 3700000 := by
  by_cases h1 : 1 ≤ y
  · have := (dbf_ge y h1).2
    omega
  · obtain rfl : y = 0 := by omega
    decide
end Go.Proofs.YtijfcmlgohbndaaGreatDoor

namespace Go.Proofs.YtijfcmlgohbndaaGreatDoor
set_option maxRecDepth 100000
open Go.RowKit Go.Joins

theorem tdiv_neg (t : Int) (h : t < 0) : 86400 * t.tdiv 86400 + t.tmod 86400 = t ∧ t.tmod 86400 ≤ 0 ∧ -86400 < t.tmod 86400 ∧ t.tdiv 86400 ≤ 0 := by
  obtain ⟨n, rfl⟩ : ∃ n : Nat, t = -(n : Int) := ⟨t.natAbs, by omega⟩
  rw [Int.neg_tdiv, Int.neg_tmod]
  have h1 : ((n : Nat) : Int).tdiv 86400 = ((n / 86400 : Nat) : Int) := by
    rw [Int.tdiv_eq_ediv_of_nonneg (by omega)]
    omega
  have h2 : ((n : Nat) : Int).tmod 86400 = ((n % 86400 : Nat) : Int) := by
    rw [Int.tmod_eq_emod_of_nonneg (by omega)]
    omega
  rw [h1, h2]
  omega

theorem tdiv_all (t : Int) : 86400 * t.tdiv 86400 + t.tmod 86400 = t ∧ t.tmod 86400 < 86400 ∧ -86400 < t.tmod 86400 := by
  by_cases h : t < 0
  · obtain ⟨h1, h2, h3, _⟩ := tdiv_neg t h
    exact ⟨h1, by omega, h3⟩
  · rw [Int.tdiv_eq_ediv_of_nonneg (by omega), Int.tmod_eq_emod_of_nonneg (by omega)]
    omega

end Go.Proofs.YtijfcmlgohbndaaGreatDoor

namespace Go.Proofs.YtijfcmlgohbndaaGreatDoor
set_option maxRecDepth 100000
open Go.RowKit Go.Joins Go.Deep
attribute [local go_sem ↓] Go.wp_at_zero Go.wp_at_succ

end Go.Proofs.YtijfcmlgohbndaaGreatDoor

namespace Go.Proofs.YtijfcmlgohbndaaGreatDoor
set_option maxRecDepth 100000
open Go.RowKit Go.Joins Go.Deep

/-- What Seconds answers: the time, its error. -/
def SecIs (Y M D h mi s : Int) (x : Int) (z : Nat) : Prop :=
  (∃ y m d t : Nat, IsDate y m d t ∧ Y = (y : Nat) ∧ M = (m : Nat) ∧ D = (d : Nat) ∧ h = (t / 3600 : Nat) ∧ mi = (t / 60 % 60 : Nat) ∧ s = (t % 60 : Nat) ∧ x = tI y m d t ∧ z = 0) ∨ (¬ RightS Y M D h mi s ∧ x = 0 ∧ z = 23)
theorem sec_ex (Y M D h mi s : Int) : ∃ x z, SecIs Y M D h mi s x z := by
  by_cases hr : RightS Y M D h mi s
  · obtain ⟨y, m, d, t, h0, h1, h2, h3, h4, h5, h6⟩ := right_nat hr
    exact ⟨_, _, .inl ⟨y, m, d, t, h0, h1, h2, h3, h4, h5, h6, rfl, rfl⟩⟩
  · exact ⟨_, _, .inr ⟨hr, rfl, rfl⟩⟩
theorem sec_any {Y M D h mi s x : Int} {z : Nat} (H : SecIs Y M D h mi s x z) (w : World) :
    Calls Tryz.prog 66 #[.agg #[.int .i64 Y, .int .i64 M, .int .i64 D, .int .i64 h, .int .i64 mi, .int .i64 s]] w fun e w' => e = .returned (.tuple #[.int .i64 x, .int .i64 (z : Nat)]) ∧ Below w.heap.size w w' := by
  rcases H with ⟨y, m, d, t, hd, rfl, rfl, rfl, rfl, rfl, rfl, rfl, rfl⟩ | ⟨hr, rfl, rfl⟩
  · exact seconds_y y m d t hd w
  · exact seconds_n _ _ _ _ _ _ hr w
/-! ### FromDOS -/
def fY (n : Nat) : Nat := 1980 + n / 33554432
def fM (n : Nat) : Nat := n / 2097152 % 16
def fD (n : Nat) : Nat := n / 65536 % 32
def fh (n : Nat) : Nat := n / 2048 % 32
def fm (n : Nat) : Nat := n / 32 % 64
def fs (n : Nat) : Nat := n % 32 * 2
def FdIs (n : Nat) (x : Int) (z : Nat) : Prop := SecIs (fY n : Nat) (fM n : Nat) (fD n : Nat) (fh n : Nat) (fm n : Nat) (fs n : Nat) x z
theorem mask (a k : Nat) (ha : a < 4294967296) (hk : k ≤ 8) : bits .and .u32 (a : Int) ((2 ^ k - 1 : Nat) : Int) = ((a % 2 ^ k : Nat) : Int) := by
  have : 2 ^ k ≤ 2 ^ 8 := Nat.pow_le_pow_right (by omega) hk
  rw [u32_and_nat a (2 ^ k - 1) ha (by omega), Nat.and_two_pow_sub_one_eq_mod]
theorem fromDOS_any {n : Nat} {x : Int} {z : Nat} (hn : n < 4294967296) (H : FdIs n x z) (w : World) :
    Calls Tryz.prog 40 #[.int .u32 (n : Nat)] w fun e w' => e = .returned (.tuple #[.int .i64 x, .int .i64 (z : Nat)]) ∧ Below w.heap.size w w' := by
  have HH := Lib.hid (fun w => sec_any H w)
  have e1 : bits .and .u32 (((n : Nat) : Int) / 2097152) 15 = ((fM n : Nat) : Int) := mask (n / 2097152) 4 (by omega) (by omega)
  have e2 : bits .and .u32 (((n : Nat) : Int) / 65536) 31 = ((fD n : Nat) : Int) := mask (n / 65536) 5 (by omega) (by omega)
  have e3 : bits .and .u32 (((n : Nat) : Int) / 2048) 31 = ((fh n : Nat) : Int) := mask (n / 2048) 5 (by omega) (by omega)
  have e4 : bits .and .u32 (((n : Nat) : Int) / 32) 63 = ((fm n : Nat) : Int) := mask (n / 32) 6 (by omega) (by omega)
  have e5 : bits .and .u32 ((n : Nat) : Int) 31 = ((n % 32 : Nat) : Int) := mask n 5 (by omega) (by omega)
  have EY : Hid ((1980 : Int) + ((n : Nat) : Int) / 33554432 = ((fY n : Nat) : Int)) := by show _ = _; unfold fY; omega
  have ES : Hid (((n % 32 : Nat) : Int) * 2 = ((fs n : Nat) : Int)) := by show _ = _; unfold fs; omega
  have l1 : fM n ≤ 15 := by unfold fM; omega
  have l2 : fD n ≤ 31 := by unfold fD; omega
  have l3 : fh n ≤ 31 := by unfold fh; omega
  have l4 : fm n ≤ 63 := by unfold fm; omega
  have l5 : n % 32 ≤ 31 := by omega
  clear H
  generalize fY n = F0 at *
  generalize fM n = F1 at *
  generalize fD n = F2 at *
  generalize fh n = F3 at *
  generalize fm n = F4 at *
  generalize fs n = F5 at *
  generalize n % 32 = r at *
  go_enter Tryz.func40, Tryz.ntmps40
  go_wp2_with fail
  rw [EY.out, ES.out]
  refine (HH.out _).mono ?_; rintro e w1 ⟨rfl, hb⟩
  go_wp2_with fail
  go_ret2
  exact ⟨rfl, hb⟩
/-! ### ToDOS -/
def dosN (y m d t : Nat) : Nat := (y - 1980) * 33554432 + m * 2097152 + d * 65536 + t / 3600 * 2048 + t / 60 % 60 * 32 + t % 60 / 2
theorem i64_or_nat (a b : Nat) (ha : a < 9223372036854775808) (hb : b < 9223372036854775808) : bits .or .i64 (a : Int) (b : Int) = ((a ||| b : Nat) : Int) := by
  have hx : a ||| b < 2 ^ 63 := Nat.or_lt_two_pow (by omega) (by omega)
  show IntKind.i64.wrap ((BitVec.ofInt 64 (a : Int) ||| BitVec.ofInt 64 (b : Int)).toNat : Int) = _
  have e : ∀ c : Nat, c < 9223372036854775808 → (BitVec.ofInt 64 (c : Int)).toNat = c := fun c hc => by
    rw [BitVec.ofInt_natCast, BitVec.toNat_ofNat]
    exact Nat.mod_eq_of_lt (by omega)
  rw [BitVec.toNat_or, e a ha, e b hb, IntKind.wrap_i64]
  omega
theorem or_add (a b k : Nat) (hb : b < 2 ^ k) : a * 2 ^ k ||| b = a * 2 ^ k + b := by
  have h := Nat.shiftLeft_add_eq_or_of_lt hb a
  rw [Nat.shiftLeft_eq] at h
  exact h.symm
theorem dos_or (Y m d h mi s : Nat) (hY : Y ≤ 127) (hm : m ≤ 12) (hd : d ≤ 31) (hh : h ≤ 23) (hmi : mi ≤ 59) (hs : s ≤ 59) :
    bits .or .i64 (bits .or .i64 (bits .or .i64 (bits .or .i64 (bits .or .i64 (((Y : Nat) : Int) * 33554432) ((m : Nat) * 2097152)) ((d : Nat) * 65536)) ((h : Nat) * 2048)) ((mi : Nat) * 32)) (((s : Nat) : Int) / 2) % 4294967296
      = ((Y * 33554432 + m * 2097152 + d * 65536 + h * 2048 + mi * 32 + s / 2 : Nat) : Int) := by
  have a1 : bits .or .i64 (((Y : Nat) : Int) * 33554432) ((m : Nat) * 2097152) = ((Y * 33554432 + m * 2097152 : Nat) : Int) := by
    rw [show ((Y : Nat) : Int) * 33554432 = ((Y * 33554432 : Nat) : Int) by omega, show ((m : Nat) : Int) * 2097152 = ((m * 2097152 : Nat) : Int) by omega, i64_or_nat _ _ (by omega) (by omega)]
    have := or_add Y (m * 2097152) 25 (by omega)
    rw [show (2 : Nat) ^ 25 = 33554432 from rfl] at this
    rw [this]
  have a2 : bits .or .i64 ((Y * 33554432 + m * 2097152 : Nat) : Int) ((d : Nat) * 65536) = ((Y * 33554432 + m * 2097152 + d * 65536 : Nat) : Int) := by
    rw [show ((d : Nat) : Int) * 65536 = ((d * 65536 : Nat) : Int) by omega, i64_or_nat _ _ (by omega) (by omega)]
    have := or_add (Y * 16 + m) (d * 65536) 21 (by omega)
    rw [show (2 : Nat) ^ 21 = 2097152 from rfl, show (Y * 16 + m) * 2097152 = Y * 33554432 + m * 2097152 by omega] at this
    rw [this]
  have a3 : bits .or .i64 ((Y * 33554432 + m * 2097152 + d * 65536 : Nat) : Int) ((h : Nat) * 2048) = ((Y * 33554432 + m * 2097152 + d * 65536 + h * 2048 : Nat) : Int) := by
    rw [show ((h : Nat) : Int) * 2048 = ((h * 2048 : Nat) : Int) by omega, i64_or_nat _ _ (by omega) (by omega)]
    have := or_add (Y * 512 + m * 32 + d) (h * 2048) 16 (by omega)
    rw [show (2 : Nat) ^ 16 = 65536 from rfl, show (Y * 512 + m * 32 + d) * 65536 = Y * 33554432 + m * 2097152 + d * 65536 by omega] at this
    rw [this]
  have a4 : bits .or .i64 ((Y * 33554432 + m * 2097152 + d * 65536 + h * 2048 : Nat) : Int) ((mi : Nat) * 32) = ((Y * 33554432 + m * 2097152 + d * 65536 + h * 2048 + mi * 32 : Nat) : Int) := by
    rw [show ((mi : Nat) : Int) * 32 = ((mi * 32 : Nat) : Int) by omega, i64_or_nat _ _ (by omega) (by omega)]
    have := or_add (Y * 16384 + m * 1024 + d * 32 + h) (mi * 32) 11 (by omega)
    rw [show (2 : Nat) ^ 11 = 2048 from rfl, show (Y * 16384 + m * 1024 + d * 32 + h) * 2048 = Y * 33554432 + m * 2097152 + d * 65536 + h * 2048 by omega] at this
    rw [this]
  have a5 : bits .or .i64 ((Y * 33554432 + m * 2097152 + d * 65536 + h * 2048 + mi * 32 : Nat) : Int) (((s : Nat) : Int) / 2) = ((Y * 33554432 + m * 2097152 + d * 65536 + h * 2048 + mi * 32 + s / 2 : Nat) : Int) := by
    rw [show ((s : Nat) : Int) / 2 = ((s / 2 : Nat) : Int) by omega, i64_or_nat _ _ (by omega) (by omega)]
    have := or_add (Y * 1048576 + m * 65536 + d * 2048 + h * 64 + mi) (s / 2) 5 (by omega)
    rw [show (2 : Nat) ^ 5 = 32 from rfl, show (Y * 1048576 + m * 65536 + d * 2048 + h * 64 + mi) * 32 = Y * 33554432 + m * 2097152 + d * 65536 + h * 2048 + mi * 32 by omega] at this
    rw [this]
  rw [a1, a2, a3, a4, a5]
  omega
end Go.Proofs.YtijfcmlgohbndaaGreatDoor

namespace Go.Proofs.YtijfcmlgohbndaaGreatDoor
set_option maxRecDepth 100000
set_option linter.unusedSimpArgs false
set_option linter.unusedVariables false
open Go.RowKit Go.Joins Go.Deep
theorem dos_ex (n : Nat) : ∃ p : Int × Nat, FdIs n p.1 p.2 := by
  obtain ⟨x, z, h⟩ := sec_ex (fY n : Nat) (fM n : Nat) (fD n : Nat) (fh n : Nat) (fm n : Nat) (fs n : Nat)
  exact ⟨(x, z), h⟩
/-- What a DOS number tells: seconds, an error. -/
noncomputable def dosT (n : Nat) : Int × Nat := Classical.choose (dos_ex n)
theorem dosT_is (n : Nat) : FdIs n (dosT n).1 (dosT n).2 := Classical.choose_spec (dos_ex n)
/-- The two times. -/
def acV (S : StT) (m : Int) : Int × Int × Int := if bits .and .u8 S.f 2 = 0 then (m, m, 0) else (m, wrap64 S.b, 0)
noncomputable def timV (S : StT) (n : Nat) : Int × Int × Int :=
  if S.z = 0 then (if bits .and .u8 S.f 1 = 0 then (if (dosT n).2 = 0 then acV S (dosT n).1 else (0, 0, ((dosT n).2 : Nat))) else acV S (wrap64 S.a)) else (0, 0, S.z)
set_option maxHeartbeats 8000000 in
theorem times_any (F : Array Value) (l1 l2 : List Fd) (n : Nat) (hn : n < 4294967296) (h1 : l1.length ≤ 16384) (h2 : l2.length ≤ 16384) (w : World) (hF : FsV w F l1 l2) (hD1 : (fndD l1 21589).size ≤ maxLen) (hD2 : (fndD l2 21589).size ≤ maxLen) :
    Calls Tryz.prog 24 #[.agg F, .int .u32 (n : Nat)] w fun e w' => e = .returned (.tuple #[.int .i64 (timV (tolV l1 l2) n).1, .int .i64 (timV (tolV l1 l2) n).2.1, .int .i64 (timV (tolV l1 l2) n).2.2]) ∧ Below w.heap.size w w' := by
  have HTO := Lib.hid (fun w1 (hb : Below w.heap.size w w1) => told_any F l1 l2 h1 h2 w1 (hF.below hb) hD1 hD2)
  have HDO := Lib.hid (fun w1 => fromDOS_any hn (dosT_is n) w1)
  obtain ⟨A1, c1, A2, c2, rfl, hf1, hn1, hf2, hn2⟩ := hF
  obtain ⟨V, hV⟩ : ∃ V, V = timV (tolV l1 l2) n := ⟨_, rfl⟩
  rw [← hV]
  unfold timV at hV
  have HV := Lib.hid hV
  clear hV hf1 hf2 hn1 hn2 hD1 hD2
  generalize tolV l1 l2 = S at *
  generalize dosT n = P at *
  generalize l1.length = n1 at *
  generalize l2.length = n2 at *
  obtain ⟨w1, hw1⟩ : ∃ w1, w1 = w.alloc (.cells #[.slice A1 n1 c1, .slice A2 n2 c2] 69) := ⟨_, rfl⟩
  have HB1 : Hid (Below w.heap.size w w1) := by show Below _ _ _; rw [hw1]; exact (Below.refl _ _).alloc (Nat.le_refl _) _
  have HX1 : Hid (w1.heap[w.heap.size]? = some (.cells #[.slice A1 n1 c1, .slice A2 n2 c2] 69 (0, 0))) := by show _ = _; rw [hw1]; exact heap_alloc_new w _
  have HW1 := Lib.hid hw1
  clear hw1
  unfold StT.val at HTO
  go_enter Tryz.func24, Tryz.ntmps24
  go_upto_region 1 with fail
  rw [← HW1.out]
  clear HW1
  go_wp2_with (refine wpList_load_row rfl 69 (.tmp 2) rfl w.heap.size rfl 69 _ (0, 0) _ HX1.out Tryz.underlying69 rfl info_fields ?_)
  refine (HTO.out w1 HB1.out).mono ?_; rintro e w3 ⟨rfl, hb3⟩
  have HB3 := Lib.hid (below_then HB1.out hb3)
  obtain ⟨w4, hw4⟩ : ∃ w4, w4 = w3.alloc (.cells #[.int .u8 S.f, .int .i32 S.a, .int .i32 S.b, .int .i32 S.c] 112) := ⟨_, rfl⟩
  have hb4 : Below w3.heap.size w3 w4 := by rw [hw4]; exact (Below.refl _ _).alloc (Nat.le_refl _) _
  have hx4 : w4.heap[w3.heap.size]? = some (.cells #[.int .u8 S.f, .int .i32 S.a, .int .i32 S.b, .int .i32 S.c] 112 (0, 0)) := by rw [hw4]; exact heap_alloc_new w3 _
  have HX4 := Lib.hid hx4
  have HB4 := Lib.hid (below_then HB3.out hb4)
  have HW4 := Lib.hid hw4
  clear hb3 hb4 hx4 hw4 HTO HB1 HB3
  by_cases hz : S.z = 0
  case neg =>
    have bz : (S.z != 0) = true := bne_iff_ne.2 hz
    have HVV : Hid (V = (0, 0, S.z)) := by show _ = _; rw [HV.out, if_neg hz]
    clear HV HDO
    go_wp2_with fail
    rw [← HW4.out]
    go_ret3
    rw [HVV.out]
    exact ⟨rfl, HB4.out⟩
  have HV2 : Hid (V = if bits .and .u8 S.f 1 = 0 then (if P.2 = 0 then acV S P.1 else (0, 0, (P.2 : Nat))) else acV S (wrap64 S.a)) := by show _ = _; rw [HV.out, if_pos hz]
  clear HV
  have x0 : w4.cell? ⟨w3.heap.size, 0, none⟩ = some (.int .u8 S.f) := cell_of_row _ _ 0 _ _ _ HX4.out
  have x1 : w4.cell? ⟨w3.heap.size, 1, none⟩ = some (.int .i32 S.a) := cell_of_row _ _ 1 _ _ _ HX4.out
  have x2 : w4.cell? ⟨w3.heap.size, 2, none⟩ = some (.int .i32 S.b) := cell_of_row _ _ 2 _ _ _ HX4.out
  go_upto_region 4 with fail
  rw [← HW4.out]
  clear HW4
  by_cases h1b : bits .and .u8 S.f 1 = 0
  · have b1 : (bits .and .u8 S.f 1 == 0) = true := beq_iff_eq.2 h1b
    have HV3 : Hid (V = if P.2 = 0 then acV S P.1 else (0, 0, (P.2 : Nat))) := by show _ = _; rw [HV2.out, if_pos h1b]
    have H1B := Lib.hid h1b
    clear HV2 h1b
    go_wp2_with fail
    refine (HDO.out w4).mono ?_; rintro e w5 ⟨rfl, hb5⟩
    have HB5 := Lib.hid (below_then HB4.out hb5)
    have hx5 := (hb5.block _ (lt_of_block HX4.out)).trans HX4.out
    have x0 : w5.cell? ⟨w3.heap.size, 0, none⟩ = some (.int .u8 S.f) := cell_of_row _ _ 0 _ _ _ hx5
    have x2 : w5.cell? ⟨w3.heap.size, 2, none⟩ = some (.int .i32 S.b) := cell_of_row _ _ 2 _ _ _ hx5
    clear hb5 hx5 HB4 HX4 HDO x1
    obtain ⟨p, q⟩ := P
    by_cases hq : q = 0
    · subst hq
      have HV4 : Hid (V = acV S p) := by show _ = _; rw [HV3.out]; rfl
      clear HV3
      by_cases h2b : bits .and .u8 S.f 2 = 0
      · have b2 : (bits .and .u8 S.f 2 == 0) = true := beq_iff_eq.2 h2b
        have HVV : Hid (V = (p, p, 0)) := by show _ = _; rw [HV4.out]; unfold acV; rw [if_pos h2b]
        have H2B := Lib.hid h2b
        clear HV4 h2b
        go_wp2_with fail
        go_ret3
        rw [HVV.out]
        exact ⟨rfl, HB5.out⟩
      · have b2 : (bits .and .u8 S.f 2 == 0) = false := beq_eq_false_iff_ne.2 h2b
        have HVV : Hid (V = (p, wrap64 S.b, 0)) := by show _ = _; rw [HV4.out]; unfold acV; rw [if_neg h2b]
        clear HV4
        go_upto_region 11 with fail
        go_quiet (fail)
        go_wp2_with fail
        go_ret3
        rw [HVV.out]
        exact ⟨rfl, below_drewN HB5.out _⟩
    · have bq : (((q : Nat) : Int) != 0) = true := by rw [bne_iff_ne]; omega
      have HVV : Hid (V = (0, 0, ((q : Nat) : Int))) := by show _ = _; rw [HV3.out]; exact if_neg hq
      clear HV3
      go_wp2_with fail
      go_ret3
      rw [HVV.out]
      exact ⟨rfl, HB5.out⟩
  · have b1 : (bits .and .u8 S.f 1 == 0) = false := beq_eq_false_iff_ne.2 h1b
    have HV4 : Hid (V = acV S (wrap64 S.a)) := by show _ = _; rw [HV2.out, if_neg h1b]
    clear HV2 HDO
    by_cases h2b : bits .and .u8 S.f 2 = 0
    · have b2 : (bits .and .u8 S.f 2 == 0) = true := beq_iff_eq.2 h2b
      have HVV : Hid (V = (wrap64 S.a, wrap64 S.a, 0)) := by show _ = _; rw [HV4.out]; unfold acV; rw [if_pos h2b]
      have H2B := Lib.hid h2b
      clear HV4 h2b
      go_wp2_with fail
      go_ret3
      rw [HVV.out]
      exact ⟨rfl, HB4.out⟩
    · have b2 : (bits .and .u8 S.f 2 == 0) = false := beq_eq_false_iff_ne.2 h2b
      have HVV : Hid (V = (wrap64 S.a, wrap64 S.b, 0)) := by show _ = _; rw [HV4.out]; unfold acV; rw [if_neg h2b]
      clear HV4
      go_upto_region 11 with fail
      go_quiet (fail)
      go_wp2_with fail
      go_ret3
      rw [HVV.out]
      exact ⟨rfl, below_drewN HB4.out _⟩
end Go.Proofs.YtijfcmlgohbndaaGreatDoor

namespace Go.Proofs.YtijfcmlgohbndaaGreatDoor
set_option maxRecDepth 100000
set_option linter.unusedSimpArgs false
set_option linter.unusedVariables false
open Go.RowKit Go.Joins Go.Deep
/-! ### sizes of fields -/
theorem prs_d (s : ByteArray) (a : Nat) (acc l : List Fd) (h : prs s a acc = some l) (ha : ∀ x ∈ acc, x.d.size ≤ s.size) : ∀ x ∈ l, x.d.size ≤ s.size := by
  fun_induction prs s a acc with
  | case1 a acc h1 => injection h with h; subst h; exact ha
  | case2 a acc h1 h2 ih =>
    refine ih h fun x hx => ?_
    rcases List.mem_append.1 hx with hx | hx
    · exact ha x hx
    · rw [List.mem_singleton] at hx
      subst hx
      show (s.extract _ _).size ≤ _
      rw [ByteArray.size_extract]
      omega
  | case3 => cases h
theorem parL_d (s : ByteArray) : ∀ x ∈ parL s, x.d.size ≤ s.size := by
  unfold parL
  split
  · intro x hx; cases hx
  · cases h : prs s 0 [] with
    | none => intro x hx; cases hx
    | some l => exact prs_d s 0 [] l h (fun x hx => by cases hx)
theorem flL_d (E : Ent) : ∀ x ∈ flL E, x.d.size ≤ E.loc.size := by
  unfold flL
  split
  · exact parL_d _
  · intro x hx; cases hx
theorem flC_d (E : Ent) : ∀ x ∈ flC E, x.d.size ≤ E.ext.size := by
  unfold flC
  split
  · exact parL_d _
  · intro x hx; cases hx
theorem fndD_sz (l : List Fd) (id m : Nat) (h : ∀ x ∈ l, x.d.size ≤ m) : (fndD l id).size ≤ m := by
  unfold fndD
  cases e : l[fx id l]? with
  | none => exact Nat.zero_le _
  | some x => exact h x (List.mem_of_getElem? e)
theorem barV_forms (E : Ent) (d : Bool) : ∃ (k m z : Int), barV E d = .tuple #[.agg #[.int .i64 k, .int .u32 m, .int .u32 0, .int .u32 0, .int .i64 0, .int .i64 0, .string ⟨#[]⟩], .int .i64 z] := by
  unfold barV
  split
  · exact ⟨_, _, _, rfl⟩
  · exact ⟨_, _, _, rfl⟩
theorem fl_sz (E : Ent) (hE : EntOk E) : (∀ id, (fndD (flL E ++ flC E) id).size ≤ maxLen) ∧ (∀ id, (fndD (flL E) id).size ≤ maxLen) ∧ (∀ id, (fndD (flC E) id).size ≤ maxLen) := by
  obtain ⟨_, h1, h2, _⟩ := hE
  have a : ∀ x ∈ flL E, x.d.size ≤ maxLen := fun x hx => Nat.le_trans (flL_d E x hx) (by unfold maxLen; omega)
  have b : ∀ x ∈ flC E, x.d.size ≤ maxLen := fun x hx => Nat.le_trans (flC_d E x hx) (by unfold maxLen; omega)
  refine ⟨fun id => fndD_sz _ _ _ fun x hx => ?_, fun id => fndD_sz _ _ _ a, fun id => fndD_sz _ _ _ b⟩
  rcases List.mem_append.1 hx with hx | hx
  · exact a x hx
  · exact b x hx
/-- What Meta answers: a path, a node, an error. -/
structure MeT where
  p : ByteArray
  k : Int
  m : Int
  u : Int
  g : Int
  t : Int
  a : Int
  z : Int
def meE (z : Int) : MeT := ⟨⟨#[]⟩, 0, 0, 0, 0, 0, 0, z⟩
noncomputable def metV (E : Ent) : MeT :=
  if flB E = true then
    (if (patV (flL E ++ flC E) E).2.2 = 0 then
      (if barB E (patV (flL E ++ flC E) E).2.1 = true then
        (if (timV (tolV (flL E) (flC E)) E.time).2.2 = 0 then
          (if (ownTri (flL E ++ flC E)).2.2 = 0 then ⟨(patV (flL E ++ flC E) E).1, barK E (patV (flL E ++ flC E) E).2.1, barM E (patV (flL E ++ flC E) E).2.1, (ownTri (flL E ++ flC E)).1, (ownTri (flL E ++ flC E)).2.1, (timV (tolV (flL E) (flC E)) E.time).1, (timV (tolV (flL E) (flC E)) E.time).2.1, 0⟩
          else meE (ownTri (flL E ++ flC E)).2.2)
        else meE (timV (tolV (flL E) (flC E)) E.time).2.2)
      else meE 42)
    else meE (patV (flL E ++ flC E) E).2.2)
  else meE 24
def MeT.val (x : MeT) : Value := .tuple #[.string x.p, .agg #[.int .i64 x.k, .int .u32 x.m, .int .u32 x.u, .int .u32 x.g, .int .i64 x.t, .int .i64 x.a, .string ⟨#[]⟩], .int .i64 x.z]
end Go.Proofs.YtijfcmlgohbndaaGreatDoor

namespace Go.Proofs.YtijfcmlgohbndaaGreatDoor
set_option maxRecDepth 100000
set_option linter.unusedSimpArgs false
set_option linter.unusedVariables false
open Go.RowKit Go.Joins Go.Deep
open Go.Lib hiding intOf
theorem encN_len (n : Nat) : (encN n).length ≤ 4 := by
  unfold encN encodeRuneZ
  repeat' split
  all_goals simp
theorem decL_len4 : ∀ l : List Nat, (decL l).length ≤ 4 * l.length
  | [] => Nat.le_refl _
  | b :: l => by
    have h := decL_len4 l
    have h2 := encN_len (cpN b)
    unfold decL at h ⊢
    rw [List.flatMap_cons, List.length_append, List.length_cons]
    omega
theorem txC_sz (s : ByteArray) : (txC s).1.size ≤ 4 * s.size := by
  show (text (decL (nums s))).size ≤ _
  rw [text_size]
  have := decL_len4 (nums s)
  rw [nums_len] at this
  exact this
theorem txtV_sz (l : List Fd) (E : Ent) (hnm : E.nm.size ≤ 100000) (hD : (fndD l 28789).size ≤ maxLen) : (txtV l E).1.size ≤ 9223372036854775807 := by
  have h1 := txC_sz E.nm
  have h0 : (⟨#[]⟩ : ByteArray).size = 0 := rfl
  unfold maxLen at hD
  unfold txtV
  split
  · unfold txU
    split
    · exact Nat.zero_le _
    · show E.nm.size ≤ _; omega
  · split
    · omega
    · unfold txP
      split
      · exact Nat.zero_le _
      · split
        · omega
        · split
          · exact Nat.zero_le _
          · show (ByteArray.extract _ _ _).size ≤ _
            rw [ByteArray.size_extract]
            omega
end Go.Proofs.YtijfcmlgohbndaaGreatDoor
