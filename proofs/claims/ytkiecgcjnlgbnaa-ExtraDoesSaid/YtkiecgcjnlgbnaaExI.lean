/-
  Contracts: Same of one and the same fields, few, awake.
-/
import Derived.Test.YtkiecgcjnlgbnaaExH
import Derived.Laws.StructEq
namespace Go.Proofs.Ytkiecgcjnlgbnaa
set_option maxRecDepth 100000
open Go.RowKit Go.Joins Go.Deep

set_option maxHeartbeats 2000000 in
theorem same_any (A B : Option Addr) (cA cB : Nat) (l : List Fd) (w : World) (hA : Fds w A l) (hB : Fds w B l) (hl : l.length ≤ 1000000) :
    Calls Try.prog 12 #[.slice A l.length cA, .slice B l.length cB] w fun e w' => e = .returned (.bool true) ∧ ∃ d, w' = w.drewN d := by
  have hit := info_fd2
  have HA := Lib.hid hA
  have HB := Lib.hid hB
  clear hA hB
  go_enter Try.func12, Try.ntmps12
  go_wp2_with fail
  go_loopw [13] (fun i wr => ∃ (k d : Nat), k ≤ l.length ∧ i = .int .i64 (k : Nat) ∧ wr = w.drewN d) (fun i _ => l.length - (intOf i).toNat)
  case atStart => exact ⟨0, 0, Nat.zero_le _, rfl, rfl⟩
  case round =>
    obtain ⟨k, d, hk, rfl, rfl⟩ := hrel
    by_cases hkn : k < l.length
    · obtain ⟨b, off, rfl, hbl, hc⟩ := HA.out (by omega)
      obtain ⟨b2, off2, rfl, hbl2, hc2⟩ := HB.out (by omega)
      obtain ⟨c0, c1⟩ := hc k hkn
      obtain ⟨e0, e1⟩ := hc2 k hkn
      clear hc hc2
      generalize l[k] = t at *
      obtain ⟨tid, td⟩ := t
      dsimp only at c0 c1 e0 e1
      have hki : (k : Int) < (l.length : Int) := by omega
      go_wp2_with fail
      go_quiet (fail)
      go_wp2_with fail
      go_roundw
      case rel => exact ⟨k + 1, d + nq, by omega, by go_num, by first | rfl | rw [World.drewN_drewN]⟩
      case measure => simp [intOf]; omega
    · obtain rfl : k = l.length := by omega
      go_wp2_with fail
      go_ret
      exact ⟨rfl, d, rfl⟩
def fewB (l : List Fd) : Bool := decide (∀ f ∈ l, l.length ≤ 60 ∧ f.d.size ≤ 70000)
theorem fewB_true {l : List Fd} (h : ∀ i (hi : i < l.length), l.length ≤ 60 ∧ l[i].d.size ≤ 70000) : fewB l = true := decide_eq_true fun f hf => by
  obtain ⟨i, hi, rfl⟩ := List.mem_iff_getElem.1 hf
  exact h i hi
theorem fewB_false {l : List Fd} {i : Nat} (hi : i < l.length) (h : ¬ (l.length ≤ 60 ∧ l[i].d.size ≤ 70000)) : fewB l = false := decide_eq_false fun k => h (k _ (List.getElem_mem hi))
set_option maxHeartbeats 4000000 in
theorem few_any (A : Option Addr) (cap : Nat) (l : List Fd) (w : World) (hF : Fds w A l) :
    Calls Try.prog 7 #[.slice A l.length cap] w fun e w' => e = .returned (.bool (fewB l)) ∧ Below w.heap.size w w' := by
  have hit := info_fd2
  have HF := Lib.hid hF
  have HX := Lib.hid (@fewB_true l)
  have HZ := Lib.hid (fun (i : Nat) (hi : i < l.length) h => @fewB_false l i hi h)
  clear hF
  go_enter Try.func7, Try.ntmps7
  go_wp2_with fail
  go_loopw [7] (fun i wr => ∃ (k : Nat), k ≤ l.length ∧ i = .int .i64 (k : Nat) ∧ Hid (∀ j (hj : j < l.length), j < k → l.length ≤ 60 ∧ l[j].d.size ≤ 70000) ∧ Hid (Below w.heap.size w wr)) (fun i _ => l.length - (intOf i).toNat)
  case atStart => exact ⟨0, Nat.zero_le _, rfl, fun j _ h => absurd h (by omega), Below.refl _ _⟩
  case round =>
    obtain ⟨k, hk, rfl, HP, HB⟩ := hrel
    by_cases hkn : k < l.length
    · obtain ⟨b, off, rfl, hbl, hc⟩ := (HF.out.below (Nat.le_refl _) HB.out) (by omega)
      obtain ⟨c0, c1⟩ := hc k hkn
      have HZ2 := Lib.hid (HZ.out k hkn)
      have HP2 : Hid (l.length ≤ 60 ∧ l[k].d.size ≤ 70000 → ∀ j (hj : j < l.length), j < k + 1 → l.length ≤ 60 ∧ l[j].d.size ≤ 70000) := fun h j hj hjk => by
        by_cases e : j = k
        · subst e; exact h
        · exact HP.out j hj (by omega)
      clear hc
      have hbox := fd_box l[k] wr
      generalize l[k] = t at *
      obtain ⟨tid, td⟩ := t
      dsimp only at c0 c1 hbox
      obtain ⟨d0, d1⟩ := hbox
      have HB1 := Lib.hid (HB.out.alloc HB.out.size (.cells #[.int .u16 (tid : Nat), .string td] 38))
      by_cases h60 : l.length ≤ 60
      · have hb1 : decide (60 < (l.length : Int)) = false := decide_eq_false (by omega)
        by_cases h7 : td.size ≤ 70000
        · have hb2 : decide (70000 < (td.size : Int)) = false := decide_eq_false (by omega)
          have HP3 := Lib.hid (HP2.out ⟨h60, h7⟩)
          clear HP HP2 HZ2
          go_wp2_with fail
          go_roundw
          case rel => exact ⟨k + 1, by omega, by go_num, HP3.out, HB1.out⟩
          case measure => simp [intOf]; omega
        · have hb2 : decide (70000 < (td.size : Int)) = true := decide_eq_true (by omega)
          have HR := Lib.hid (HZ2.out fun h => h7 h.2)
          clear HP HP2 HZ2
          go_wp2_with fail
          go_ret
          exact ⟨by rw [HR.out]; rfl, HB1.out⟩
      · have hb1 : decide (60 < (l.length : Int)) = true := decide_eq_true (by omega)
        have HR := Lib.hid (HZ2.out fun h => h60 h.1)
        clear HP HP2 HZ2
        go_wp2_with fail
        go_ret
        exact ⟨by rw [HR.out]; rfl, HB1.out⟩
    · obtain rfl : k = l.length := by omega
      have HR := Lib.hid (HX.out fun i hi => HP.out i hi hi)
      go_wp2_with fail
      go_ret
      exact ⟨by rw [HR.out]; rfl, HB.out⟩
def ex13 : ByteArray := ⟨#[1, 0, 2, 0, 97, 98]⟩
theorem ex13_parL : parL ex13 = [⟨1, ⟨#[97, 98]⟩⟩] ∧ parE ex13 = 0 := by
  have e : prs ex13 0 [] = some [⟨1, ⟨#[97, 98]⟩⟩] := by
    have h1 : idA ex13 (0 + 2) = 2 := by decide +kernel
    rw [prs_step (by rw [h1]; decide), h1, prs_end (by decide)]
    congr 2
  unfold parL parE
  rw [e]
  exact ⟨rfl, rfl⟩
set_option maxHeartbeats 2000000 in
theorem awake13_any (w : World) :
    Calls Try.prog 6 #[] w fun e w' => e = .returned (.bool true) ∧ Below w.heap.size w w' := by
  have HP := Lib.hid (parse_any ex13 (by decide) w)
  rw [ex13_parL.1, ex13_parL.2] at HP
  go_enter Try.func6, Try.ntmps6
  go_wp2_with fail
  refine (HP.out).mono ?_
  rintro e w1 ⟨A, cap, rfl, hf, hb⟩
  obtain ⟨b, off, rfl, hbl, hc⟩ := hf (by decide)
  obtain ⟨c0, c1⟩ := hc 0 (by decide)
  have c0' : w1.cell? ⟨b, off, none⟩ = some (.int .u16 1) := c0
  have c1' : w1.cell? ⟨b, off + 1, none⟩ = some (.string ⟨#[97, 98]⟩) := c1
  clear hc c0 c1
  go_wp2
  go_ret
  exact ⟨rfl, hb⟩
end Go.Proofs.Ytkiecgcjnlgbnaa
