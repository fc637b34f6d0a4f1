/-
  The document's New, of codes.
-/
import Derived.Test.YtabpcipfijakjaaPreU
import Derived.Test.YtabpcipfijakjaaPreP
namespace Go.Proofs.Ytabpcipfijakjaa
set_option maxRecDepth 100000
open Go.RowKit Go.Deep Go.Joins

theorem sumN_ge (ls : Nat → Nat) (k : Nat) : ∀ n, k < n → ls k ≤ sumN ls n
  | 0, h => by omega
  | n + 1, h => by
    rw [sumN]
    by_cases e : k = n
    · subst e
      omega
    · have := sumN_ge ls k n (by omega)
      omega
theorem sumN_le1 (ls : Nat → Nat) : ∀ n, (∀ j, j < n → ls j ≤ 1) → sumN ls n ≤ n
  | 0, _ => Nat.le_refl _
  | n + 1, h => by
    rw [sumN]
    have := sumN_le1 ls n (fun j hj => h j (by omega))
    have := h n (by omega)
    omega

theorem rnew_err (A : Option Addr) (n cap : Nat) (open_ : Bool) (x : Int) (hx : x ≠ 0) (w : World) (h : Calls Try.prog 43 #[.slice A n cap] w fun e w' => e = .returned (.tuple #[.slice none 0 0, .int .i64 x]) ∧ w = w') :
    Calls Try.prog 11 #[.slice A n cap, .bool open_] w fun e w' => e = .returned (.tuple #[.slice none 0 0, .int .i64 x]) ∧ w = w' := by
  have H := Lib.hid h
  have hx' : (x == 0) = false := by rw [beq_eq_false_iff_ne]; exact hx
  clear h
  go_enter Try.func11, Try.ntmps11
  go_wp2_with fail
  refine (H.out).mono ?_; rintro e w' ⟨rfl, rfl⟩
  go_wp2
  go_ret2
  exact ⟨rfl, rfl⟩

theorem rnew_whole (A : Option Addr) (n cap : Nat) (open_ : Bool) (ls : Nat → Nat) (hn : n ≤ 4096) (w : World) (hL : Lens w A n ls) (h15 : ∀ i, i < n → ls i ≤ 15) (hf : fillN ls n = 32768) :
    Calls Try.prog 11 #[.slice A n cap, .bool open_] w fun e w' => e = .returned (.tuple #[.slice (some ⟨w.heap.size, 0, none⟩) n n, .int .i64 0]) ∧ IsRowS w' w.heap.size n (fun i => tx (wordN ls n i) (ls i)) ∧ Below w.heap.size w w' := by
  have HW := Lib.hid (rwords_ok A n cap ls hn w hL h15 (by omega))
  have HF := Lib.hid (fun w' (h : Below w.heap.size w w') => rfill_ok A n cap ls hn w' (hL.below (Nat.le_refl _) h) h15)
  rw [hf] at HF
  clear hL h15 hf
  go_enter Try.func11, Try.ntmps11
  go_wp2_with fail
  refine (HW.out).mono ?_; rintro e w1 ⟨rfl, hr, hb⟩
  have HR := Lib.hid hr
  have HB := Lib.hid hb
  clear hr hb
  go_wp2_with fail
  refine (HF.out w1 HB.out).mono ?_; rintro e w' ⟨rfl, rfl⟩
  go_wp2
  go_ret2
  exact ⟨rfl, HR.out, HB.out⟩

theorem rnew_part (A : Option Addr) (n cap : Nat) (ls : Nat → Nat) (hn : n ≤ 4096) (w : World) (hL : Lens w A n ls) (h15 : ∀ i, i < n → ls i ≤ 15) (hf : fillN ls n < 32768) :
    Calls Try.prog 11 #[.slice A n cap, .bool false] w fun e w' => e = .returned (.tuple #[.slice none 0 0, .int .i64 10]) ∧ Below w.heap.size w w' := by
  have HW := Lib.hid (rwords_ok A n cap ls hn w hL h15 (by omega))
  have HF := Lib.hid (fun w' (h : Below w.heap.size w w') => rfill_ok A n cap ls hn w' (hL.below (Nat.le_refl _) h) h15)
  generalize fillN ls n = F at *
  have hne : ((F : Int) == 32768) = false := by rw [beq_eq_false_iff_ne]; omega
  clear hL h15
  go_enter Try.func11, Try.ntmps11
  go_wp2_with fail
  refine (HW.out).mono ?_; rintro e w1 ⟨rfl, hr, hb⟩
  have HB := Lib.hid hb
  clear hr hb
  go_wp2_with fail
  refine (HF.out w1 HB.out).mono ?_; rintro e w' ⟨rfl, rfl⟩
  go_wp2
  go_ret2
  exact ⟨rfl, HB.out⟩

set_option maxHeartbeats 2000000 in
theorem rnew_open (A : Option Addr) (n cap : Nat) (ls : Nat → Nat) (hn : n ≤ 4096) (w : World) (hL : Lens w A n ls) (h15 : ∀ i, i < n → ls i ≤ 15) (hf : fillN ls n < 32768)
    (V : Value) (E : Int) (hv : (sumN ls n ≤ 1 ∧ V = .slice (some ⟨w.heap.size, 0, none⟩) n n ∧ E = 0) ∨ (¬ sumN ls n ≤ 1 ∧ V = .slice none 0 0 ∧ E = 10)) :
    Calls Try.prog 11 #[.slice A n cap, .bool true] w fun e w' => e = .returned (.tuple #[V, .int .i64 E]) ∧ Hid (sumN ls n ≤ 1 → IsRowS w' w.heap.size n (fun i => tx (wordN ls n i) (ls i))) ∧ Below w.heap.size w w' := by
  have HW := Lib.hid (rwords_ok A n cap ls hn w hL h15 (by omega))
  have HF := Lib.hid (fun w' (h : Below w.heap.size w w') => rfill_ok A n cap ls hn w' (hL.below (Nat.le_refl _) h) h15)
  have HL := Lib.hid (fun w' (h : Below w.heap.size w w') => hL.below (Nat.le_refl _) h)
  have HG := Lib.hid (fun k (h : k < n) => sumN_ge ls k n h)
  have HS1 := Lib.hid (fun k => sumN_le1 ls k)
  have HV := Lib.hid hv
  clear hv
  generalize fillN ls n = F at *
  have hne : ((F : Int) == 32768) = false := by rw [beq_eq_false_iff_ne]; omega
  clear hL h15
  go_enter Try.func11, Try.ntmps11
  go_wp2_with fail
  refine (HW.out).mono ?_; rintro e w1 ⟨rfl, hr, hb⟩
  have HR := Lib.hid hr
  have HB := Lib.hid hb
  have HL1 := Lib.hid (HL.out w1 hb)
  clear hr hb
  go_wp2_with fail
  refine (HF.out w1 HB.out).mono ?_; rintro e w' ⟨rfl, rfl⟩
  go_wp2_with fail
  go_loop [10, 33] (fun x i => ∃ k : Nat, k ≤ n ∧ i = .int .i64 (k : Nat) ∧ x = .int .i64 (sumN ls k : Nat) ∧ ∀ j, j < k → ls j ≤ 1) (fun _ i => n - (intOf i).toNat)
  case atStart => exact ⟨0, Nat.zero_le _, rfl, rfl, fun j hj => by omega⟩
  case round =>
    obtain ⟨k, hk, rfl, rfl, hall⟩ := hrel
    have hsk := HS1.out k hall
    have HALL := Lib.hid hall
    clear hall
    by_cases hlt : k < n
    · obtain ⟨b, off, rfl, hbl, hc⟩ := HL1.out (by omega)
      have hcell := (hc k hlt).1
      have hge := HG.out k hlt
      have HSS : Hid (sumN ls (k + 1) = sumN ls k + ls k) := rfl
      clear hc
      by_cases h2 : 1 < ls k
      · have HN : Hid (¬ sumN ls n ≤ 1) := by show ¬ _; omega
        generalize ls k = l at *
        generalize sumN ls k = s at *
        go_wp2_with fail
        go_ret2
        rcases HV.out with ⟨h, _, _⟩ | ⟨_, rfl, rfl⟩
        · exact absurd h HN.out
        · exact ⟨rfl, Lib.hid (fun _ => HR.out), HB.out⟩
      · have HLK : Hid (ls k ≤ 1) := by show _ ≤ _; omega
        have HJ : Hid (∀ j, j < k + 1 → ls j ≤ 1) := fun j hj => by
          by_cases e : j = k
          · subst e; exact HLK.out
          · exact HALL.out j (by omega)
        by_cases h1 : ls k = 1
        · rw [h1] at hcell HSS
          generalize sumN ls k = s at *
          clear hge h2 h1
          go_wp2_with fail
          go_round
          case rel => exact ⟨k + 1, by omega, by go_num, by rw [HSS.out]; go_num, HJ.out⟩
          case measure => simp [intOf]; omega
        · have h0 : ls k = 0 := by omega
          rw [h0] at hcell HSS
          generalize sumN ls k = s at *
          clear hge h2 h1 h0
          go_wp2_with fail
          go_round
          case rel => exact ⟨k + 1, by omega, by go_num, by rw [HSS.out]; rfl, HJ.out⟩
          case measure => simp [intOf]; omega
    · obtain rfl : k = n := by omega
      by_cases h1 : sumN ls k ≤ 1
      · have HE : Hid (V = .slice (some ⟨w.heap.size, 0, none⟩) k k ∧ E = 0) := by
          rcases HV.out with ⟨_, h⟩ | ⟨h, _⟩
          · exact h
          · exact absurd h1 h
        obtain ⟨rfl, rfl⟩ := HE.out
        have g0 : ¬ 1 < sumN ls k := by omega
        generalize sumN ls k = s at *
        have g1 : decide (1 < s) = false := decide_eq_false g0
        have g2 : decide ((1 : Int) < (s : Int)) = false := decide_eq_false (by omega)
        clear HV h1
        go_wp2_with fail
        go_ret2
        exact ⟨rfl, Lib.hid (fun _ => HR.out), HB.out⟩
      · have HE : Hid (V = .slice none 0 0 ∧ E = 10) := by
          rcases HV.out with ⟨h, _⟩ | ⟨_, h⟩
          · exact absurd h h1
          · exact h
        obtain ⟨rfl, rfl⟩ := HE.out
        have g0 : 1 < sumN ls k := by omega
        generalize sumN ls k = s at *
        have g1 : (1 : Int) < (s : Int) := by omega
        have g2 : decide (1 < s) = true := decide_eq_true g0
        clear HV h1
        go_wp2_with fail
        go_ret2
        exact ⟨rfl, Lib.hid (fun _ => HR.out), HB.out⟩
end Go.Proofs.Ytabpcipfijakjaa
