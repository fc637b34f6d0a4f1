/-
  Contracts: the document's reader: Align and Bytes.
-/
import Derived.Test.YtmmcolfeboammaaBitsR
namespace Go.Proofs.Ytmmcolfeboammaa
open Go.RowKit Go.Joins

theorem ralign_any (g : Nat) (s : ByteArray) (a e : Nat) (hs : s.size ≤ 1000000) (ha : a ≤ 8 * s.size) (w : World) (hc : Rd 28 w g s a e) :
    Calls Try.prog 19 #[.pointer (some ⟨g, 0, none⟩)] w fun r w' => r = .returned (.tuple #[]) ∧ Rd 28 w' g s (alignA a e) e ∧ w.grownBy w' (some g) := by
  by_cases he : e = 0
  · subst he
    have HA : Hid (alignA a 0 = (a + 7) / 8 * 8) := if_pos rfl
    have HC := Lib.hid hc
    clear hc
    go_enter Try.func19, Try.ntmps19
    go_wp2
    go_loopw [2] (fun _ wr => ∃ b : Nat, a ≤ b ∧ b ≤ (a + 7) / 8 * 8 ∧ Rd 28 wr g s b 0 ∧ w.grownBy wr (some g)) (fun _ wr => match wr.cell? ⟨g, 1, none⟩ with | some (.int _ z) => 8 * s.size - z.toNat | _ => 0)
    case atStart => exact ⟨a, Nat.le_refl _, by omega, HC.out, World.grownBy.refl _ _⟩
    case round =>
      obtain ⟨b, hab, hb8, hc, hg⟩ := hrel
      have c1 := hc.c1
      have c2 := hc.c2
      have f1 := hc.fr 1
      have hm : (b : Int).tmod 8 = (b % 8 : Nat) := by rw [Int.tmod_eq_emod_of_nonneg (by omega)]; omega
      have HC' := Lib.hid hc
      have HG := Lib.hid hg
      clear hc hg
      by_cases h0 : b % 8 = 0
      · rw [h0] at hm
        go_wp2
        go_end0
        have e1 : b = (a + 7) / 8 * 8 := by omega
        rw [HA.out, ← e1]
        exact ⟨rfl, HC'.out, HG.out⟩
      · have hne : (((b % 8 : Nat) : Int) == 0) = false := by rw [beq_eq_false_iff_ne]; omega
        have hlt : b < 8 * s.size := by omega
        have hb1 : b + 1 ≤ (a + 7) / 8 * 8 := by omega
        generalize b % 8 = r at *
        go_wp2
        go_roundw
        case rel => exact ⟨b + 1, by omega, hb1, HC'.out.setAt (b + 1), grown_then HG.out (grown_set _ g 1 _)⟩
        case measure =>
          have hc2 : (wr.setCell ⟨g, 1, none⟩ (.int .i64 ((b : Int) + 1))).cell? ⟨g, 1, none⟩ = some (.int .i64 ((b : Int) + 1)) := (HC'.out.setAt (b + 1)).c1
          rw [c1, hc2]
          simp
          omega
  · have HA : Hid (alignA a e = a) := if_neg he
    have c2 := hc.c2
    have he' : ((e : Int) == 0) = false := by rw [beq_eq_false_iff_ne]; omega
    have HC := Lib.hid hc
    clear hc he
    go_enter Try.func19, Try.ntmps19
    go_wp2
    go_loopw [2] (fun _ wr => wr = w) (fun _ _ => 0)
    case atStart => exact rfl
    case round =>
      subst hrel
      go_wp2
      go_end0
      rw [HA.out]
      exact ⟨rfl, HC.out, World.grownBy.refl _ _⟩

theorem rbytes_any (g : Nat) (s : ByteArray) (a e : Nat) (n : Int) (hn : (Lit.int .i64 n).wf = true) (hs : s.size ≤ 1000000) (ha : a ≤ 8 * s.size) (w : World) (hc : Rd 28 w g s a e) :
    Calls Try.prog 21 #[.pointer (some ⟨g, 0, none⟩), .int .i64 n] w fun r w' => r = .returned (.string (pieceB s (alignA a e) e n)) ∧ Rd 28 w' g s (bytA s (alignA a e) e n) (bytE s (alignA a e) e n) ∧ w.grownBy w' (some g) := by
  have hbn := bounds_i64 hn
  have hb := alignA_le s a e ha
  have h8 : e = 0 → alignA a e % 8 = 0 := fun h => by subst h; exact align_8 a
  have HAL := Lib.hid (ralign_any g s a e hs ha w hc)
  clear hc hn
  generalize alignA a e = b at *
  go_enter Try.func21, Try.ntmps21
  go_wp2_with fail
  refine (HAL.out).mono ?_; rintro r w1 ⟨rfl, hc, hg⟩
  have HG := Lib.hid hg
  have HC := Lib.hid hc
  have c0 := hc.c0
  have c1 := hc.c1
  have c2 := hc.c2
  have f1 := hc.fr 1
  have f2 := hc.fr 2
  clear hg HAL hc
  by_cases he : e = 0
  · subst he
    have h8 := h8 rfl
    by_cases h0 : n < 0
    · have hm : ¬ mayB s b 0 n = true := fun h => by
        have := of_decide_eq_true h
        omega
      have HP : Hid (pieceB s b 0 n = ⟨#[]⟩) := if_neg hm
      have HA : Hid (bytA s b 0 n = b) := if_neg hm
      have HE : Hid (bytE s b 0 n = 2) := by
        show _ = _
        unfold bytE
        rw [if_neg (by omega), if_pos h0]
      clear hm
      go_wp2
      go_ret
      refine ⟨by rw [HP.out]; rfl, ?_, grown_then HG.out (grown_set _ g 2 _)⟩
      rw [HA.out, HE.out]
      exact HC.out.setErr 2
    · obtain ⟨m, rfl⟩ := Int.eq_ofNat_of_zero_le (show 0 ≤ n by omega)
      have h0' : decide ((m : Int) < 0) = false := decide_eq_false (by omega)
      have hqb : ((b : Int)).tdiv 8 = ((b / 8 : Nat) : Int) := by rw [Int.tdiv_eq_ediv_of_nonneg (by omega)]; omega
      by_cases hl : m ≤ s.size - b / 8
      · have hm : mayB s b 0 (m : Nat) = true := decide_eq_true ⟨rfl, by omega, by omega⟩
        have HP : Hid (pieceB s b 0 (m : Nat) = s.extract (b / 8) (b / 8 + m)) := if_pos hm
        have HA : Hid (bytA s b 0 (m : Nat) = b + 8 * m) := by
          show _ = _
          rw [show bytA s b 0 (m : Nat) = b + 8 * (m : Int).toNat from if_pos hm]
          omega
        have HE : Hid (bytE s b 0 (m : Nat) = 0) := by
          show _ = _
          unfold bytE
          rw [if_neg (by omega), if_neg (by omega), if_pos (by omega)]
        have hm8 : b + 8 * m ≤ 8 * s.size := by omega
        have hbm : b / 8 + m ≤ s.size := by omega
        have hd : decide ((s.size : Int) - ((b / 8 : Nat) : Int) < m) = false := decide_eq_false (by omega)
        have hw1 : IntKind.i64.wrap (((b / 8 : Nat) : Int) + (m : Int)) = ((b / 8 + m : Nat) : Int) := by rw [IntKind.wrap_i64]; omega
        generalize hBB : b / 8 = q at *
        have HBB := Lib.hid hBB
        clear hm h0 hBB hl
        go_wp2
        go_quiet (fail)
        go_wp2
        go_quiet (fail)
        go_wp2
        go_ret
        refine ⟨by rw [HP.out]; rfl, ?_, grown_then HG.out (grown_then (grown_drewN _ _ _) (grown_set _ g 1 _))⟩
        rw [HA.out, HE.out]
        exact (HC.out.drewN _).setAt (b + 8 * m)
      · have hm : ¬ mayB s b 0 (m : Nat) = true := fun h => by
          have := of_decide_eq_true h
          omega
        have HP : Hid (pieceB s b 0 (m : Nat) = ⟨#[]⟩) := if_neg hm
        have HA : Hid (bytA s b 0 (m : Nat) = b) := if_neg hm
        have HE : Hid (bytE s b 0 (m : Nat) = 3) := by
          show _ = _
          unfold bytE
          rw [if_neg (by omega), if_neg (by omega), if_neg (by omega)]
        have hd : decide ((s.size : Int) - ((b / 8 : Nat) : Int) < m) = true := decide_eq_true (by omega)
        have hqs : b / 8 ≤ s.size := by omega
        generalize hBB : b / 8 = q at *
        clear hm h0 hBB hl
        go_wp2
        go_quiet (fail)
        go_wp2
        go_ret
        refine ⟨by rw [HP.out]; rfl, ?_, grown_then HG.out (grown_then (grown_drewN _ _ _) (grown_set _ g 2 _))⟩
        rw [HA.out, HE.out]
        exact (HC.out.drewN _).setErr 3
  · have hm : ¬ mayB s b e n = true := fun h => he (of_decide_eq_true h).1
    have he' : ((e : Int) == 0) = false := by rw [beq_eq_false_iff_ne]; omega
    have HP : Hid (pieceB s b e n = ⟨#[]⟩) := if_neg hm
    have HA : Hid (bytA s b e n = b) := if_neg hm
    have HE : Hid (bytE s b e n = e) := if_pos he
    clear hm he h8
    go_wp2
    go_ret
    refine ⟨by rw [HP.out]; rfl, ?_, HG.out⟩
    rw [HA.out, HE.out]
    exact HC.out
end Go.Proofs.Ytmmcolfeboammaa
