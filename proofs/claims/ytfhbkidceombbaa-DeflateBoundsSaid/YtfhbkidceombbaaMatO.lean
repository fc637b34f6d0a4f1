/-
  Contracts: alike, longest.
-/
import Derived.Test.YtfhbkidceombbaaMatL
namespace Go.Proofs.Ytfhbkidceombbaa
set_option maxRecDepth 100000
open Go.Joins Go.RowKit Go.Deep

/-- A search as a value. -/
def valS (s : ByteArray) (v : Value) (t : Nat) : Value := .agg #[.string s, v, .int .i64 (t : Nat)]
def eqA (a : Nat → Nat) (f p : Nat) : Nat → Bool := fun i => decide (a (f + i) = a (p + i))
set_option maxHeartbeats 8000000 in
theorem alike_any (s : ByteArray) (A : Option Addr) (nA cA t f p most : Nat) (hs : s.size ≤ 1048576) (hf : f + most ≤ s.size) (hp : p + most ≤ s.size) (w : World) :
    Calls Try.prog 115 #[.agg #[.string s, .slice A nA cA, .int .i64 (t : Nat)], .int .i64 (f : Nat), .int .i64 (p : Nat), .int .i64 (most : Nat)] w fun e w' => e = .returned (.int .i64 ((alF (eqA (bt s) f p) most : Nat) : Int)) ∧ Below w.heap.size w w' := by
  have hx0 : (w.alloc (.cells #[.string s, .slice A nA cA, .int .i64 (t : Nat)] 127)).cell? ⟨w.heap.size, 0, none⟩ = some (.string s) := by rw [cell_of_row _ _ 0 _ _ _ (heap_alloc_new w _)]; rfl
  have hb0 : Below w.heap.size w (w.alloc (.cells #[.string s, .slice A nA cA, .int .i64 (t : Nat)] 127)) := (Below.refl _ _).alloc (Nat.le_refl _) _
  have HX := Lib.hid hx0
  have HB := Lib.hid hb0
  clear hx0 hb0
  go_enter Try.func115, Try.ntmps115
  go_wp2_with fail
  generalize w.alloc (.cells #[.string s, .slice A nA cA, .int .i64 (t : Nat)] 127) = w1 at *
  go_loopw [9] (fun i wr => ∃ k : Nat, k ≤ most ∧ i = .int .i64 (k : Nat) ∧ Hid (∀ i, i < k → eqA (bt s) f p i = true) ∧ Hid (∃ n, wr = w1.drewN n)) (fun i _ => most - (intOf i).toNat)
  case atStart => exact ⟨0, Nat.zero_le _, rfl, fun i h => by omega, 0, rfl⟩
  case round =>
    obtain ⟨k, hk, rfl, HE, HD⟩ := hrel
    obtain ⟨nd, hd⟩ := HD.out
    have k0 : wr.cell? ⟨w.heap.size, 0, none⟩ = some (.string s) := by rw [hd, World.cell?_drewN]; exact HX.out
    have HDD := Lib.hid hd
    clear hd
    by_cases hkm : k < most
    · have g1 : decide ((k : Int) < (most : Int)) = true := decide_eq_true (by omega)
      have g2 : decide (k < most) = true := decide_eq_true hkm
      obtain ⟨q1, e1, f1⟩ : ∃ q : Nat, ((f : Int) + (k : Int)) = (q : Int) ∧ q = f + k := ⟨f + k, by omega, rfl⟩
      obtain ⟨q2, e2, f2⟩ : ∃ q : Nat, ((p : Int) + (k : Int)) = (q : Int) ∧ q = p + k := ⟨p + k, by omega, rfl⟩
      have l1 : q1 < s.size := by omega
      have l2 : q2 < s.size := by omega
      have n1 : ((s[q1].toNat : Int) == (s[q2].toNat : Int)) = eqA (bt s) f p k := by
        rw [bt_get s q1 l1, bt_get s q2 l2]
        unfold eqA
        rw [Bool.eq_iff_iff, f1, f2]
        simp only [beq_iff_eq, decide_eq_true_eq]
        exact Int.natCast_inj
      have w1' : IntKind.i64.wrap (q1 : Int) = (q1 : Int) := by rw [IntKind.wrap_i64]; omega
      have w2' : IntKind.i64.wrap (q2 : Int) = (q2 : Int) := by rw [IntKind.wrap_i64]; omega
      clear f1 f2
      go_wp2_with fail
      cases hq : eqA (bt s) f p k with
      | true =>
        rw [hq] at n1
        go_quiet (fail)
        have HQ := Lib.hid hq
        clear hq n1
        go_wp2_with fail
        go_roundw
        case rel =>
          refine ⟨k + 1, by omega, by go_num, ?_, ?_⟩
          · intro i hi
            by_cases e : i = k
            · subst e; exact HQ.out
            · exact HE.out i (by omega)
          · exact ⟨nd + _, by rw [HDD.out, World.drewN_drewN]⟩
        case measure => simp [intOf]; omega
      | false =>
        rw [hq] at n1
        have HFIN := Lib.hid (alF_eq (eqA (bt s) f p) most k HE.out hk (.inr hq))
        clear hq
        go_quiet (fail)
        go_wp2
        go_ret
        rw [HFIN.out]
        exact ⟨rfl, by rw [HDD.out, World.drewN_drewN]; exact below_drewN HB.out _⟩
    · obtain rfl : k = most := by omega
      have g1 : decide ((k : Int) < (k : Int)) = false := decide_eq_false (by omega)
      have g2 : decide (k < k) = false := decide_eq_false (by omega)
      have HFIN := Lib.hid (alF_eq (eqA (bt s) f p) k k HE.out (Nat.le_refl _) (.inl rfl))
      clear hkm hk
      go_wp2_with fail
      go_quiet (fail)
      go_wp2
      go_ret
      rw [HFIN.out]
      exact ⟨rfl, by rw [HDD.out, World.drewN_drewN]; exact below_drewN HB.out _⟩
end Go.Proofs.Ytfhbkidceombbaa
