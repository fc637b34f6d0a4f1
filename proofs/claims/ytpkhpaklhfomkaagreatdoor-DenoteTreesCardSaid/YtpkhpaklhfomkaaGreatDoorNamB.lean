/-
  Contracts: rank, Order.
-/
import Derived.Test.YtpkhpaklhfomkaaGreatDoorNamA
import Derived.Test.YtpkhpaklhfomkaaGreatDoorNamM
import Derived.StillTailTactics
import Derived.Deep.QuietTactic
import Derived.BigQuiet
import Derived.Deep.DeepMust
namespace Go.Proofs.YtpkhpaklhfomkaaGreatDoor
set_option maxRecDepth 100000
open Go.RowKit Go.Deep Go.Joins

theorem rank_any (b : Nat) (hb : b < 256) (w : World) :
    Calls Tryz.prog 84 #[.int .u8 (b : Nat)] w fun e w' => e = .returned (.int .i64 ((rk b : Int) - 1)) ∧ w' = w := by
  by_cases h : b = 47
  · subst h
    have e1 : ((47 : Nat) : Int) = 47 := rfl
    go_enter Tryz.func84, Tryz.ntmps84
    go_wp2
    go_ret
    exact ⟨rfl, rfl⟩
  · have h1 : ((b : Int) == 47) = false := by rw [beq_eq_false_iff_ne]; omega
    have h2 : IntKind.i64.wrap (b : Int) = (b : Int) := by rw [IntKind.wrap_i64]; omega
    have h3 : Hid (((rk b : Nat) : Int) - 1 = (b : Int)) := by show _ = _; unfold rk; rw [if_neg h]; omega
    clear h
    go_enter Tryz.func84, Tryz.ntmps84
    go_wp2
    go_ret
    rw [h3.out]
    exact ⟨rfl, rfl⟩

def ordT (a b : ByteArray) : Int := ordL (nums a) (nums b)
theorem nums_drop (s : ByteArray) (k : Nat) (h : k < s.size) : (nums s).drop k = s[k].toNat :: (nums s).drop (k + 1) := by
  have hl : k < (nums s).length := by rw [nums_len]; exact h
  rw [List.drop_eq_getElem_cons hl]
  have := nums_get s k h
  rw [List.getElem?_eq_getElem hl] at this
  rw [Option.some.inj this]
theorem compare_rank (x y : Nat) (h : x ≠ y) : Lib.compareInt ((rk x : Int) - 1) ((rk y : Int) - 1) = if rk x < rk y then -1 else 1 := by
  have hr : rk x ≠ rk y := fun e => h (rk_inj e)
  unfold Lib.compareInt
  by_cases l : rk x < rk y
  · rw [if_pos (by omega), if_pos l]
  · rw [if_neg (by omega), if_pos (by omega), if_neg l]

set_option maxHeartbeats 4000000 in
theorem order_any (a b : ByteArray) (w : World) (ha : a.size ≤ 4611686018427387904) :
    Calls Tryz.prog 48 #[.string a, .string b] w fun e w' => e = .returned (.int .i64 (ordT a b)) ∧ ∃ n, w' = w.drewN n := by
  have HRK := Lib.hid (fun b hb w => rank_any b hb w)
  generalize hM : min a.size b.size = M
  have HM := Lib.hid hM
  have hMI : min (a.size : Int) (b.size : Int) = (M : Int) := by
    rcases Nat.le_total a.size b.size with h | h
    · rw [Nat.min_eq_left h] at hM; rw [Int.min_eq_left (a := (a.size : Int)) (b := (b.size : Int)) (by omega), hM]
    · rw [Nat.min_eq_right h] at hM; rw [Int.min_eq_right (a := (a.size : Int)) (b := (b.size : Int)) (by omega), hM]
  have HMA : Hid (M ≤ a.size ∧ M ≤ b.size ∧ (M = a.size ∨ M = b.size)) := by
    rcases Nat.le_total a.size b.size with h | h
    · rw [Nat.min_eq_left h] at hM; exact ⟨by omega, by omega, .inl hM.symm⟩
    · rw [Nat.min_eq_right h] at hM; exact ⟨by omega, by omega, .inr hM.symm⟩
  clear hM
  go_enter Tryz.func48, Tryz.ntmps48
  go_wp2_with fail
  go_loopw [11] (fun i wr => ∃ k : Nat, k ≤ M ∧ i = .int .i64 (k : Nat) ∧ Hid (ordL ((nums a).drop k) ((nums b).drop k) = ordT a b) ∧ Hid (∃ n, wr = w.drewN n)) (fun i _ => M - (intOf i).toNat)
  case atStart => exact ⟨0, Nat.zero_le _, rfl, rfl, 0, rfl⟩
  case round =>
    obtain ⟨k, hk, rfl, HO, HD⟩ := hrel
    by_cases hkM : k < M
    · have hka : k < a.size := by have := HMA.out; omega
      have hkb : k < b.size := by have := HMA.out; omega
      have HS : Hid (ordL ((nums a).drop k) ((nums b).drop k) = if a[k].toNat = b[k].toNat then ordL ((nums a).drop (k + 1)) ((nums b).drop (k + 1)) else if rk a[k].toNat < rk b[k].toNat then -1 else 1) := by
        show _ = _
        rw [nums_drop a k hka, nums_drop b k hkb, ordL]
      have hwk : k < 4611686018427387904 := by omega
      have hx : a[k].toNat < 256 := a[k].toNat_lt
      have hy : b[k].toNat < 256 := b[k].toNat_lt
      by_cases hxy : a[k].toNat = b[k].toNat
      · have hne : ((a[k].toNat : Int) != (b[k].toNat : Int)) = false := by rw [hxy]; simp
        have HO1 : Hid (ordL ((nums a).drop (k + 1)) ((nums b).drop (k + 1)) = ordT a b) := by
          show _ = _
          rw [← HO.out, HS.out, if_pos hxy]
        clear hxy
        go_wp2_with fail
        go_quiet (fail)
        go_wp2_with fail
        go_roundw
        case rel => 
          obtain ⟨nd, hd⟩ := HD.out
          exact ⟨k + 1, by omega, by go_num, HO1, nd + _, by rw [hd, World.drewN_drewN]⟩
        case measure => simp [intOf]; omega
      · have hne : ((a[k].toNat : Int) != (b[k].toNat : Int)) = true := by rw [bne_iff_ne]; omega
        have HE : Hid (Lib.compareInt ((rk a[k].toNat : Int) - 1) ((rk b[k].toNat : Int) - 1) = ordT a b) := by
          show _ = _
          rw [← HO.out, HS.out, if_neg hxy, compare_rank _ _ hxy]
        clear hxy
        go_wp2_with fail
        go_quiet (fail)
        have HD2 : Hid (∃ n, wr.drewN nq = w.drewN n) := by
          obtain ⟨nd, hd⟩ := HD.out
          exact ⟨nd + nq, by rw [hd, World.drewN_drewN]⟩
        generalize wr.drewN nq = w2 at *
        go_wp2_with fail
        go_quiet (first
          | (go_at_call 84; exact Calls.quiet_of_same (HRK.out _ hx _))
          | (go_at_call 84; exact Calls.quiet_of_same (HRK.out _ hy _))
          | (go_at_call 83; exact Calls.quiet_of_same (sh_cmp_Compare_int _ _ _)))
        rw [HE.out]
        go_wp2
        go_ret
        obtain ⟨m, hm⟩ := HD2.out
        exact ⟨rfl, m + nq, by rw [hm, World.drewN_drewN]⟩
    · obtain rfl : k = M := by omega
      have HE : Hid (Lib.compareInt (a.size : Int) (b.size : Int) = ordT a b) := by
        show _ = _
        rw [← HO.out]
        have hm := HMA.out
        unfold Lib.compareInt
        by_cases h1 : a.size < b.size
        · have e : k = a.size := by omega
          subst e
          rw [if_pos (by omega), show (nums a).drop a.size = [] from List.drop_eq_nil_of_le (by rw [nums_len]; exact Nat.le_refl _), nums_drop b _ h1]
          rfl
        · by_cases h2 : b.size < a.size
          · have e : k = b.size := by omega
            subst e
            rw [if_neg (by omega), if_pos (by omega), show (nums b).drop b.size = [] from List.drop_eq_nil_of_le (by rw [nums_len]; exact Nat.le_refl _), nums_drop a _ h2]
            rfl
          · have e : k = b.size := by omega
            have e2 : k = a.size := by omega
            rw [if_neg (by omega), if_neg (by omega), show (nums b).drop k = [] from List.drop_eq_nil_of_le (by rw [nums_len]; omega), show (nums a).drop k = [] from List.drop_eq_nil_of_le (by rw [nums_len]; omega)]
            rfl
      go_wp2_with fail
      refine (sh_cmp_Compare_int _ _ _).mono ?_
      rintro e w1 ⟨rfl, rfl⟩
      rw [HE.out]
      go_wp2
      go_ret
      exact ⟨rfl, HD.out⟩

/-! ### the last slash, the parent, the last part -/
/-- Behind the last slash. -/
def spl (s : ByteArray) : Int := Lib.lastIndexByte s 47 + 1
theorem last_le (s : ByteArray) : -1 ≤ Lib.lastIndexByte s 47 ∧ Lib.lastIndexByte s 47 < s.size := by
  rcases Lib.lastIdx_spec s 47 s.size with ⟨h, _⟩ | ⟨i, h, hi, _⟩
  · unfold Lib.lastIndexByte; omega
  · unfold Lib.lastIndexByte; omega
theorem spl_any (s : ByteArray) (w : World) (hs : s.size < 4611686018427387904) :
    Calls Tryz.prog 91 #[.string s] w fun e w' => e = .returned (.int .i64 (spl s)) ∧ w' = w := by
  have HL := Lib.hid (fun w => sh_strings_LastIndex_one s ⟨#[47]⟩ rfl hs w)
  have hb : Hid (-1 ≤ Lib.lastIndexByte s 47 ∧ Lib.lastIndexByte s 47 < s.size) := last_le s
  have h1 := hb.out.1
  have h2 := hb.out.2
  have he : Hid (spl s = Lib.lastIndexByte s 47 + 1) := rfl
  go_enter Tryz.func91, Tryz.ntmps91
  go_wp2_with fail
  refine (HL.out _).mono ?_
  rintro e w1 ⟨rfl, rfl⟩
  have e47 : (((⟨#[47]⟩ : ByteArray)[0]'(by decide)).toNat : Int) = 47 := rfl
  rw [e47]
  generalize Lib.lastIndexByte s 47 = L at *
  go_wp2
  go_ret
  rw [he.out]
  exact ⟨rfl, rfl⟩
end Go.Proofs.YtpkhpaklhfomkaaGreatDoor
