/-
  The document's Put.
-/
import Derived.Test.YtabpcipfijakjaaPreW
import Derived.Test.YtabpcipfijakjaaBitsP
namespace Go.Proofs.Ytabpcipfijakjaa
set_option maxRecDepth 100000
open Go.RowKit Go.Deep Go.Joins

theorem tx_get (v : Nat) : ∀ l i, i < l → (nums (tx v l))[i]? = some (48 + v / 2 ^ (l - 1 - i) % 2)
  | 0, i, h => by omega
  | l + 1, 0, _ => by rw [nums_tx]; rfl
  | l + 1, i + 1, h => by
    rw [nums_tx, List.getElem?_cons_succ, tx_get v l i (by omega), show l + 1 - 1 - (i + 1) = l - 1 - i by omega]
theorem tx_at (v l i : Nat) (h : i < (tx v l).size) : (tx v l)[i].toNat = 48 + v / 2 ^ (l - 1 - i) % 2 := by
  have h2 := h
  rw [tx_size] at h2
  have e := nums_get (tx v l) i h
  rw [tx_get v l i h2] at e
  injection e with e
  exact e.symm
theorem rev_at (v l i : Nat) (h : i < l) : rev v l / 2 ^ i % 2 = v / 2 ^ (l - 1 - i) % 2 := by
  have e := rev_bit v l i
  rw [decide_eq_true h, Bool.true_and, Nat.testBit_eq_decide_div_mod_eq, Nat.testBit_eq_decide_div_mod_eq] at e
  have e2 := decide_eq_decide.1 e
  omega

theorem qr_ge {w : World} {B g M L : Nat} {r : Option Nat} (h : Qr w B g r M L) : B ≤ g := by
  obtain ⟨_, v, _, _, _, hg⟩ := h
  exact hg
theorem qr_row_ge {w : World} {B g M L : Nat} {r : Option Nat} (h : Qr w B g r M L) : ∀ i, some i = r → B ≤ i := by
  obtain ⟨_, v, _, ho, hr, _⟩ := h
  intro i e
  rcases ho.2 with ⟨rfl, _⟩ | ⟨g', cap, cur, rfl, hg, _⟩
  · rw [← hr] at e
    simp [Value.ownBlock] at e
  · rw [← hr] at e
    simp [Value.ownBlock] at e
    omega
set_option maxHeartbeats 2000000 in
theorem rput_ok (B g gW n k : Nat) (r : Option Nat) (M L : Nat) (ls W : Nat → Nat) (hk : k < n) (hl1 : 1 ≤ ls k) (hl15 : ls k ≤ 15) (hL : L ≤ 900000000) (w : World) (hB : B ≤ w.heap.size) (hgW : gW < B)
    (hr : IsRowS w gW n (fun i => tx (W i) (ls i))) (hc : Qr w B g r M L) :
    Calls Try.prog 17 #[.slice (some ⟨gW, 0, none⟩) n n, .pointer (some ⟨g, 0, none⟩), .int .i64 (k : Nat)] w fun e w' => e = .returned (.int .i64 0) ∧ ∃ r', Qr w' B g r' (M + rev (W k) (ls k) * 2 ^ L) (L + ls k) ∧ Upd g r r' w w' := by
  have HC := Lib.hid hc
  have hcell := hr.cell k hk
  have hsz := tx_size (W k) (ls k)
  have HAT := Lib.hid (fun i h => tx_at (W k) (ls k) i h)
  have HRV := Lib.hid (fun i h => rev_at (W k) (ls k) i h)
  have HRL := Lib.hid (rev_lt (W k) (ls k))
  have HR := Lib.hid hr
  replace hcell : w.cell? ⟨gW, k, none⟩ = some (.string (tx (W k) (ls k))) := hcell
  clear hc hr
  generalize htt : tx (W k) (ls k) = T at *
  have HROW := Lib.hid (fun (x : World) (h : IsRowS x gW n (fun i => tx (W i) (ls i))) => show x.cell? ⟨gW, k, none⟩ = some (.string T) from (h.cell k hk).trans (congrArg (fun t => some (Value.string t)) htt))
  clear htt
  generalize W k = v at *
  generalize ls k = l at *
  have HCELL := Lib.hid hcell
  have f1 : decide ((k : Int) < 0) = false := decide_eq_false (by omega)
  have f2 : decide ((n : Int) ≤ (k : Int)) = false := decide_eq_false (by omega)
  have f3 : ((l : Int) == 0) = false := by rw [beq_eq_false_iff_ne]; omega
  have f4 : decide (n ≤ k) = false := decide_eq_false (by omega)
  have f5 : (k : Int) < (n : Int) := by omega
  go_enter Try.func17, Try.ntmps17
  go_wp2_with fail
  go_loopw [7] (fun x wr => ∃ (i : Nat) (r' : Option Nat), i ≤ l ∧ x = .int .i64 (i : Nat) ∧ Qr wr B g r' (M + rev v l % 2 ^ i * 2 ^ L) (L + i) ∧ Upd g r r' w wr) (fun x _ => l - (intOf x).toNat)
  case atStart => exact ⟨0, r, Nat.zero_le _, rfl, by simpa [Nat.mod_one] using HC.out, Upd.refl _ _ _⟩
  case round =>
    obtain ⟨i, r1, hi, rfl, hq, hu⟩ := hrel
    have HU := Lib.hid hu
    have hcr : wr.cell? ⟨gW, k, none⟩ = some (.string T) := by
      have hgw : wr.heap[gW]? = w.heap[gW]? := hu.1.block gW (Nat.lt_of_lt_of_le hgW hB) (fun e => by
        rcases e with e | e
        · have := qr_ge HC.out
          omega
        · exact absurd (qr_row_ge HC.out _ e) (by omega))
      have hr2 : IsRowS wr gW n (fun i => tx (W i) (ls i)) := hgw.trans HR.out
      exact HROW.out wr hr2
    by_cases hil : i < l
    · have hlt : i < T.size := by omega
      have hbase : B ≤ wr.heap.size := Nat.le_trans hB hu.1.size
      have hb := HAT.out i hlt
      rw [← HRV.out i hil] at hb
      have hx : rev v l / 2 ^ i % 2 < 2 := Nat.mod_lt _ (by omega)
      have HBM : Hid (M + rev v l % 2 ^ (i + 1) * 2 ^ L = M + rev v l % 2 ^ i * 2 ^ L + rev v l / 2 ^ i % 2 * 2 ^ (L + i)) := step_bits M L (rev v l) i
      generalize rev v l / 2 ^ i % 2 = x at *
      have hw := rwrite_ok B g r1 (M + rev v l % 2 ^ i * 2 ^ L) (L + i) x 1 (by omega) (by omega) (by omega) (by omega) wr hbase hq
      rw [show x % 2 ^ 1 = x by omega, ← HBM.out] at hw
      have HW := Lib.hid hw
      clear hw hq hu
      rcases Nat.lt_or_ge x 1 with hx1 | hx1
      · obtain rfl : x = 0 := by omega
        go_wp2_with fail
        refine (HW.out).mono ?_; rintro e w2 ⟨rfl, r2, hq2, hU2⟩
        have HQ2 := Lib.hid hq2
        have HU2 := Lib.hid hU2
        clear hq2 hU2
        go_wp2_with fail
        go_roundw
        case rel => exact ⟨i + 1, r2, by omega, by go_num, HQ2.out, HU.out.then HU2.out⟩
        case measure => simp [intOf]; omega
      · obtain rfl : x = 1 := by omega
        go_wp2_with fail
        refine (HW.out).mono ?_; rintro e w2 ⟨rfl, r2, hq2, hU2⟩
        have HQ2 := Lib.hid hq2
        have HU2 := Lib.hid hU2
        clear hq2 hU2
        go_wp2_with fail
        go_roundw
        case rel => exact ⟨i + 1, r2, by omega, by go_num, HQ2.out, HU.out.then HU2.out⟩
        case measure => simp [intOf]; omega
    · obtain rfl : i = l := by omega
      rw [Nat.mod_eq_of_lt HRL.out] at hq
      have HQ := Lib.hid hq
      clear hq hu
      go_wp2_with fail
      go_ret
      exact ⟨rfl, r1, HQ.out, HU.out⟩

/-- A sign that has no word. -/
theorem rput_no (gW n gw : Nat) (x : Int) (ls W : Nat → Nat) (w : World) (hr : IsRowS w gW n (fun i => tx (W i) (ls i)))
    (hx : x < 0 ∨ (n : Int) ≤ x ∨ ∃ k : Nat, x = (k : Nat) ∧ k < n ∧ ls k = 0) :
    Calls Try.prog 17 #[.slice (some ⟨gW, 0, none⟩) n n, .pointer (some ⟨gw, 0, none⟩), .int .i64 x] w fun e w' => e = .returned (.int .i64 2) ∧ w = w' := by
  rcases hx with hx | hx | ⟨k, rfl, hk, hl⟩
  · have g1 : decide (x < 0) = true := decide_eq_true hx
    go_enter Try.func17, Try.ntmps17
    go_wp2_with fail
    go_ret
    exact ⟨rfl, rfl⟩
  · have g1 : decide (x < 0) = false := decide_eq_false (by omega)
    have g2 : decide ((n : Int) ≤ x) = true := decide_eq_true hx
    go_enter Try.func17, Try.ntmps17
    go_wp2_with fail
    go_ret
    exact ⟨rfl, rfl⟩
  · have hcell : w.cell? ⟨gW, k, none⟩ = some (.string (text [])) := by
      have h := hr.cell k hk
      rw [hl] at h
      exact h
    have hs : (text []).size = 0 := rfl
    generalize text [] = T at *
    have f1 : decide ((k : Int) < 0) = false := decide_eq_false (by omega)
    have f2 : decide ((n : Int) ≤ (k : Int)) = false := decide_eq_false (by omega)
    have f4 : decide (n ≤ k) = false := decide_eq_false (by omega)
    have f5 : (k : Int) < (n : Int) := by omega
    go_enter Try.func17, Try.ntmps17
    go_wp2_with fail
    go_ret
    exact ⟨rfl, rfl⟩
end Go.Proofs.Ytabpcipfijakjaa
