/-
  The walk of InflateCuts: it returns true, whatever the bytes and the cut.
-/
import Derived.Test.YtbgclbnbnpnolaaInfV
namespace Go.Proofs.Ytbgclbnbnpnolaa
set_option maxRecDepth 100000
open Go.RowKit Go.Deep Go.Joins

theorem fine_pos {src : Src} {a A : Nat} {o o1 : List Nat} (h8 : src.L % 8 = 0) (ha : a ≤ src.L) (h : inflM src a o = .ok ((), A, o1)) : a < A := by
  obtain ⟨k, hk⟩ := loop_ok h
  have key : ∀ k a o, a ≤ src.L → itM blockStep src k () a o = some (.ok ((), A, o1)) → a < A := by
    intro k
    induction k with
    | zero => intro a o _ h; cases h
    | succ k ih =>
      intro a o ha h
      rw [itM] at h
      split at h
      · cases h
      · rename_i y a2 o2 hb
        injection h with h
        injection h with h
        cases h
        obtain ⟨b, a3, o3, h3, h4⟩ := bind_inv hb
        have hlt := blk_grow ha h8 h3
        split at h4
        · obtain ⟨_, rfl, _⟩ := ret_inv h4
          exact hlt
        · obtain ⟨h5, _⟩ := ret_inv h4
          cases h5
      · rename_i c1 a2 o2 hb
        obtain ⟨b, a3, o3, h3, h4⟩ := bind_inv hb
        have hlt := blk_grow ha h8 h3
        have hle := (stable_block.grow src _ _ _ _ _ ha h8 h3).2.1
        split at h4
        · obtain ⟨h5, _⟩ := ret_inv h4
          cases h5
        · obtain ⟨_, rfl, _⟩ := ret_inv h4
          have := ih _ _ hle h
          omega
  exact key k a o ha hk
set_option maxHeartbeats 4000000 in
theorem inflateCuts_walk (s : ByteArray) (cut : Int) (_w0 : s.size ≤ maxLen) (_w1 : (Lit.int .i64 cut).wf = true) (w : World) :
    Calls Try.prog 6 #[.string s, .int .i64 cut] w fun e w' => e = .returned (.bool true) ∧ Below w.heap.size w w' := by
  unfold maxLen at *
  by_cases h1 : 2000 < s.size
  · have g1 : decide ((2000 : Int) < (s.size : Int)) = true := decide_eq_true (by omega)
    have g2 : decide (2000 < s.size) = true := decide_eq_true h1
    go_enter Try.func6, Try.ntmps6
    go_wp2_with fail
    refine (awake6_any _).mono ?_; rintro e w1 ⟨rfl, hb1⟩
    go_wp2
    go_ret
    exact ⟨rfl, hb1⟩
  · have g1 : decide ((2000 : Int) < (s.size : Int)) = false := decide_eq_false (by omega)
    have g2 : decide (2000 < s.size) = false := decide_eq_false h1
    have HI1 := Lib.hid (fun w => inflate_all s 20000 (by omega) (by omega) w)
    cases hn : inflM (srcOf s 20000) 0 [] with
    | error k =>
      have HIE : Hid (∀ w, Calls Try.prog 26 #[.string s, .int .i64 20000] w fun e w' => e = .returned (.tuple #[.string ⟨#[]⟩, .int .i64 0, .int .i64 (k : Nat)]) ∧ Below w.heap.size w w') := fun w => by
        have h := HI1.out w
        rw [show (20000 : Int).toNat = 20000 from rfl, hn] at h
        exact h
      have hk := infl_err hn
      have hne : ((k : Int) == 0) = false := by rw [beq_eq_false_iff_ne]; omega
      clear hn HI1
      go_enter Try.func6, Try.ntmps6
      go_wp2_with fail
      refine (awake6_any _).mono ?_; rintro e w1 ⟨rfl, hb1⟩
      have HB1 := Lib.hid hb1
      clear hb1
      go_wp2_with fail
      refine (HIE.out _).mono ?_; rintro e w2 ⟨rfl, hb2⟩
      have HB2 := Lib.hid (below_then HB1.out hb2)
      clear hb2
      go_wp2
      go_ret
      exact ⟨rfl, HB2.out⟩
    | ok q =>
      obtain ⟨u, A, o⟩ := q
      have hA := infl_grow hn
      have hA0 : 0 < A := fine_pos (src := srcOf s 20000) (by show 8 * s.size % 8 = 0; omega) (Nat.zero_le _) hn
      obtain ⟨n, hnn⟩ : ∃ n, (A + 7) / 8 = n := ⟨_, rfl⟩
      have hns : n ≤ s.size := by omega
      have hn0 : 0 < n := by omega
      obtain ⟨k, hk, hkn⟩ : ∃ k : Nat, (cut % 18446744073709551616).tmod (n : Int) = (k : Int) ∧ k < n := by
        refine ⟨((cut % 18446744073709551616) % (n : Int)).toNat, ?_, ?_⟩
        · rw [Int.tmod_eq_emod_of_nonneg (by omega)]
          have := Int.emod_nonneg (cut % 18446744073709551616) (show (n : Int) ≠ 0 by omega)
          omega
        · have := Int.emod_lt_of_pos (cut % 18446744073709551616) (show 0 < (n : Int) by omega)
          have := Int.emod_nonneg (cut % 18446744073709551616) (show (n : Int) ≠ 0 by omega)
          omega
      have hct := infl_cut hn (k := k) (by omega) (infl_room hn)
      have HI2 : Hid (∀ w, Calls Try.prog 26 #[.string s, .int .i64 20000] w fun e w' => e = .returned (.tuple #[.string (text o), .int .i64 (n : Nat), .int .i64 0]) ∧ Below w.heap.size w w') := fun w => by
        have h := HI1.out w
        rw [show (20000 : Int).toNat = 20000 from rfl, hn, infV_ok o hnn] at h
        exact h
      have HI3 : Hid (∀ w, Calls Try.prog 26 #[.string (s.extract 0 k), .int .i64 20000] w fun e w' => e = .returned (.tuple #[.string ⟨#[]⟩, .int .i64 0, .int .i64 3]) ∧ Below w.heap.size w w') := fun w => by
        have h := inflate_all (s.extract 0 k) 20000 (by rw [size_take0 s k (by omega)]; omega) (by omega) w
        rw [show (20000 : Int).toNat = 20000 from rfl, hct] at h
        exact h
      clear hn hct hA hnn HI1 hA0
      have hwn : IntKind.u64.wrap (n : Int) = (n : Int) := by rw [IntKind.wrap_u64]; omega
      have hwc : IntKind.u64.wrap cut = cut % 18446744073709551616 := by rw [IntKind.wrap_u64]
      have hwk : IntKind.i64.wrap (k : Int) = (k : Int) := by rw [IntKind.wrap_i64]; omega
      have hzn : ((n : Int) == 0) = false := by rw [beq_eq_false_iff_ne]; omega
      have hki : (k : Int) ≤ (s.size : Int) := by omega
      generalize hT : text o = T at *
      go_enter Try.func6, Try.ntmps6
      go_wp2_with fail
      refine (awake6_any _).mono ?_; rintro e w1 ⟨rfl, hb1⟩
      have HB1 := Lib.hid hb1
      clear hb1
      go_wp2_with fail
      refine (HI2.out _).mono ?_; rintro e w2 ⟨rfl, hb2⟩
      have HB2 := Lib.hid (below_then HB1.out hb2)
      clear hb2
      go_wp2_with fail
      refine (HI3.out _).mono ?_; rintro e w3 ⟨rfl, hb3⟩
      have HB3 := Lib.hid (below_then HB2.out hb3)
      clear hb3
      go_wp2
      go_ret
      exact ⟨rfl, HB3.out⟩
end Go.Proofs.Ytbgclbnbnpnolaa
