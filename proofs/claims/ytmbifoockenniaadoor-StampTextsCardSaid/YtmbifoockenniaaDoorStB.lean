/-
  Contracts: exists, Seconds, Of.
-/
import Derived.Test.YtmbifoockenniaaDoorStA
import Derived.Laws.ResultCell
import Derived.Laws.Rows
namespace Go.Proofs.YtmbifoockenniaaDoor
set_option maxRecDepth 100000
open Go.RowKit Go.Joins

theorem results_ct_row {P : Program} {fn : Func} {p u : Tmp} {ty : TypeId} (h : fn.results = #[.cell p ty, .tmp u]) (tmps : Array Value) (w : World) (g : Nat) (t : TypeId) (cs : Array Value) (fr : Nat × Nat) (d : TypeDesc)
    (hp : tmps.getD p undef = .pointer (some ⟨g, 0, none⟩)) (hg : w.heap[g]? = some (.cells cs t fr))
    (hu : P.underlying ty = some d) (hd : (match d with | .struct _ | .array _ _ => true | _ => false) = true) (hi : (P.info? ty).map (·.size) = some cs.size) :
    (results fn tmps).run P w = .ok (.tuple #[.agg cs, tmps.getD u undef]) w := by
  rw [results_cell_tmp h, hp]
  simp [asAddr, run_loadVar_row w g t ty cs fr d hg hu hd hi, Result.andThen]

/-- Six numbers as a date. -/
def dateV (Y M D h mi s : Int) : Value := .agg #[.int .i64 Y, .int .i64 M, .int .i64 D, .int .i64 h, .int .i64 mi, .int .i64 s]
/-- Is there such a date? -/
def Right (Y M D h mi s : Int) : Prop := (1 ≤ Y ∧ Y ≤ 9999) ∧ (1 ≤ M ∧ M ≤ 12) ∧ (1 ≤ D ∧ D ≤ (ml Y.toNat M.toNat : Nat)) ∧ (0 ≤ h ∧ h ≤ 23) ∧ (0 ≤ mi ∧ mi ≤ 59) ∧ (0 ≤ s ∧ s ≤ 59)

theorem md_int (Y M : Int) (hY : 1 ≤ Y ∧ Y ≤ 9999) (hM : 1 ≤ M ∧ M ≤ 12) (w : World) :
    Calls Tryd.prog 35 #[.int .i64 Y, .int .i64 M] w fun e w' => e = .returned (.int .i64 (ml Y.toNat M.toNat : Nat)) ∧ w' = w := by
  obtain ⟨y, rfl⟩ := Int.eq_ofNat_of_zero_le (show 0 ≤ Y by omega)
  obtain ⟨m, rfl⟩ := Int.eq_ofNat_of_zero_le (show 0 ≤ M by omega)
  exact (monthDays_any y m (by omega) (by omega) (by omega) w).mono fun _ _ h => ⟨h.1, h.2.symm⟩

theorem info_date : (Tryd.prog.info? 23).map (·.size) = some 6 := by kernel_rfl
theorem zero_date (w : World) : (zeroValue 23).run Tryd.prog w = .ok (.agg #[.int .i64 0, .int .i64 0, .int .i64 0, .int .i64 0, .int .i64 0, .int .i64 0]) w := by kernel_rfl
theorem six_one (a b c d e f : Int) : (#[Value.int .i64 a, .int .i64 b, .int .i64 c, .int .i64 d, .int .i64 e, .int .i64 f] : Array Value).all (·.oneCell') = true := by simp [Value.oneCell']

theorem exists_y (Y M D h mi s : Int) (hr : Right Y M D h mi s) (w : World) :
    Calls Tryd.prog 38 #[.agg #[.int .i64 Y, .int .i64 M, .int .i64 D, .int .i64 h, .int .i64 mi, .int .i64 s]] w fun e w' => e = .returned (.bool true) ∧ Below w.heap.size w w' := by
  obtain ⟨hY, hM, hD, hh, hmi, hs⟩ := hr
  have HB := Lib.hid ((Below.refl w.heap.size w).alloc (Nat.le_refl _) (.cells #[.int .i64 Y, .int .i64 M, .int .i64 D, .int .i64 h, .int .i64 mi, .int .i64 s] 23))
  go_enter Tryd.func38, Tryd.ntmps38
  go_wp2_with fail
  go_quiet ((first | (go_at_call 63; exact Calls.quiet_of_same (within_y _ _ _ (by assumption) _)) | (go_at_call 35; exact Calls.quiet_of_same (md_int _ _ (by assumption) (by assumption) _))))
  go_wp2_with fail
  go_ret
  exact ⟨rfl, below_drewN HB.out _⟩
theorem exists_n (Y M D h mi s : Int) (hr : ¬ Right Y M D h mi s) (w : World) :
    Calls Tryd.prog 38 #[.agg #[.int .i64 Y, .int .i64 M, .int .i64 D, .int .i64 h, .int .i64 mi, .int .i64 s]] w fun e w' => e = .returned (.bool false) ∧ Below w.heap.size w w' := by
  have HB := Lib.hid ((Below.refl w.heap.size w).alloc (Nat.le_refl _) (.cells #[.int .i64 Y, .int .i64 M, .int .i64 D, .int .i64 h, .int .i64 mi, .int .i64 s] 23))
  by_cases hY : 1 ≤ Y ∧ Y ≤ 9999
  case neg =>
    clear hr
    go_enter Tryd.func38, Tryd.ntmps38
    go_wp2_with fail
    go_quiet ((first | (go_at_call 63; first | exact Calls.quiet_of_same (within_y _ _ _ (by assumption) _) | exact Calls.quiet_of_same (within_n _ _ _ (by assumption) _)) | (go_at_call 35; exact Calls.quiet_of_same (md_int _ _ (by assumption) (by assumption) _))))
    go_wp2_with fail
    go_ret
    exact ⟨rfl, below_drewN HB.out _⟩
  by_cases hM : 1 ≤ M ∧ M ≤ 12
  case neg =>
    clear hr
    go_enter Tryd.func38, Tryd.ntmps38
    go_wp2_with fail
    go_quiet ((first | (go_at_call 63; first | exact Calls.quiet_of_same (within_y _ _ _ (by assumption) _) | exact Calls.quiet_of_same (within_n _ _ _ (by assumption) _)) | (go_at_call 35; exact Calls.quiet_of_same (md_int _ _ (by assumption) (by assumption) _))))
    go_wp2_with fail
    go_ret
    exact ⟨rfl, below_drewN HB.out _⟩
  by_cases hD : 1 ≤ D ∧ D ≤ (ml Y.toNat M.toNat : Nat)
  case neg =>
    clear hr
    go_enter Tryd.func38, Tryd.ntmps38
    go_wp2_with fail
    go_quiet ((first | (go_at_call 63; first | exact Calls.quiet_of_same (within_y _ _ _ (by assumption) _) | exact Calls.quiet_of_same (within_n _ _ _ (by assumption) _)) | (go_at_call 35; exact Calls.quiet_of_same (md_int _ _ (by assumption) (by assumption) _))))
    go_wp2_with fail
    go_ret
    exact ⟨rfl, below_drewN HB.out _⟩
  by_cases hh : 0 ≤ h ∧ h ≤ 23
  case neg =>
    clear hr
    go_enter Tryd.func38, Tryd.ntmps38
    go_wp2_with fail
    go_quiet ((first | (go_at_call 63; first | exact Calls.quiet_of_same (within_y _ _ _ (by assumption) _) | exact Calls.quiet_of_same (within_n _ _ _ (by assumption) _)) | (go_at_call 35; exact Calls.quiet_of_same (md_int _ _ (by assumption) (by assumption) _))))
    go_wp2_with fail
    go_ret
    exact ⟨rfl, below_drewN HB.out _⟩
  by_cases hmi : 0 ≤ mi ∧ mi ≤ 59
  case neg =>
    clear hr
    go_enter Tryd.func38, Tryd.ntmps38
    go_wp2_with fail
    go_quiet ((first | (go_at_call 63; first | exact Calls.quiet_of_same (within_y _ _ _ (by assumption) _) | exact Calls.quiet_of_same (within_n _ _ _ (by assumption) _)) | (go_at_call 35; exact Calls.quiet_of_same (md_int _ _ (by assumption) (by assumption) _))))
    go_wp2_with fail
    go_ret
    exact ⟨rfl, below_drewN HB.out _⟩
  by_cases hs : 0 ≤ s ∧ s ≤ 59
  · exact (hr ⟨hY, hM, hD, hh, hmi, hs⟩).elim
  · clear hr
    go_enter Tryd.func38, Tryd.ntmps38
    go_wp2_with fail
    go_quiet ((first | (go_at_call 63; first | exact Calls.quiet_of_same (within_y _ _ _ (by assumption) _) | exact Calls.quiet_of_same (within_n _ _ _ (by assumption) _)) | (go_at_call 35; exact Calls.quiet_of_same (md_int _ _ (by assumption) (by assumption) _))))
    go_wp2_with fail
    go_ret
    exact ⟨rfl, below_drewN HB.out _⟩

theorem right_nat {Y M D h mi s : Int} (hr : Right Y M D h mi s) : ∃ y m d t : Nat, IsDate y m d t ∧ Y = (y : Nat) ∧ M = (m : Nat) ∧ D = (d : Nat) ∧ h = (t / 3600 : Nat) ∧ mi = (t / 60 % 60 : Nat) ∧ s = (t % 60 : Nat) := by
  obtain ⟨hY, hM, hD, hh, hmi, hs⟩ := hr
  obtain ⟨y, rfl⟩ := Int.eq_ofNat_of_zero_le (show 0 ≤ Y by omega)
  obtain ⟨m, rfl⟩ := Int.eq_ofNat_of_zero_le (show 0 ≤ M by omega)
  obtain ⟨d, rfl⟩ := Int.eq_ofNat_of_zero_le (show 0 ≤ D by omega)
  obtain ⟨a, rfl⟩ := Int.eq_ofNat_of_zero_le hh.1
  obtain ⟨b, rfl⟩ := Int.eq_ofNat_of_zero_le hmi.1
  obtain ⟨c, rfl⟩ := Int.eq_ofNat_of_zero_le hs.1
  rw [Int.toNat_natCast, Int.toNat_natCast] at hD
  exact ⟨y, m, d, a * 3600 + b * 60 + c, ⟨by omega, by omega, by omega, by omega, by omega, by omega, by omega⟩, rfl, rfl, rfl, by omega, by omega, by omega⟩
theorem right_of {y m d t : Nat} (h : IsDate y m d t) : Right (y : Nat) (m : Nat) (d : Nat) (t / 3600 : Nat) (t / 60 % 60 : Nat) (t % 60 : Nat) := by
  have h1 := h.y1; have h2 := h.y2; have h3 := h.m1; have h4 := h.m2; have h5 := h.d1; have h6 := h.d2; have h7 := h.s2
  refine ⟨by omega, by omega, ⟨by omega, ?_⟩, by omega, by omega, by omega⟩
  rw [Int.toNat_natCast, Int.toNat_natCast]
  omega
end Go.Proofs.YtmbifoockenniaaDoor
