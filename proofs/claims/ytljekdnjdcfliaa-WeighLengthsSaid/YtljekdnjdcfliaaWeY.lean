/-
  weigh: Lengths, where it answers an error; a greater most; the cost, whatever the most.
-/
import Derived.Test.YtljekdnjdcfliaaWSymC
import Derived.Test.YtljekdnjdcfliaaWTry
namespace Go.Proofs.Ytljekdnjdcfliaa
open Go.RowKit

set_option maxRecDepth 100000 in
set_option maxHeartbeats 4000000 in
theorem lengths_range (A : Option Addr) (n capA : Nat) (most : Int) (hm : most < 1 ∨ 15 < most) (w : World) :
    Calls Try.prog 30 #[.slice A n capA, .int .i64 most] w fun e w' => e = .returned (.tuple #[.slice none 0 0, .int .i64 8]) ∧ w' = w := by
  go_enter Try.func30, Try.ntmps30
  rcases hm with h | h
  · go_wp2_with fail
    go_ret2
    exact ⟨rfl, rfl⟩
  · have h1 : ¬ most < 1 := by omega
    go_wp2_with fail
    go_ret2
    exact ⟨rfl, rfl⟩
set_option maxRecDepth 100000 in
set_option maxHeartbeats 4000000 in
theorem lengths_big (A : Option Addr) (n capA most : Nat) (hm1 : 1 ≤ most) (hm15 : most ≤ 15) (hn : 400 < n) (w : World) :
    Calls Try.prog 30 #[.slice A n capA, .int .i64 most] w fun e w' => e = .returned (.tuple #[.slice none 0 0, .int .i64 6]) ∧ w' = w := by
  have hI1 : ¬ (most : Int) < 1 := by omega
  have hI2 : ¬ 15 < (most : Int) := by omega
  have hI3 : 400 < (n : Int) := by omega
  go_enter Try.func30, Try.ntmps30
  go_wp2_with fail
  go_ret2
  exact ⟨rfl, rfl⟩
set_option maxRecDepth 100000 in
set_option maxHeartbeats 4000000 in
theorem lengths_many (A : Option Addr) (n capA most : Nat) (f : Nat → Nat) (w : World) (hC : Cts w A n f) (hn : n ≤ 400) (hm1 : 1 ≤ most) (hm15 : most ≤ 15) (hpow : 2 ^ most < (comeL f n).length) :
    Calls Try.prog 30 #[.slice A n capA, .int .i64 most] w fun e w' => e = .returned (.tuple #[.slice none 0 0, .int .i64 6]) ∧ Below w.heap.size w w' := by
  have hle := comeL_le f n
  have HCO := Lib.hid (coming_any A n capA f w hC hn (fun base gd m cap pc _ h2 => sym_ok base gd m cap pc n f (by omega)))
  clear hC
  have hp15 : 2 ^ most ≤ 2 ^ 15 := Nat.pow_le_pow_right (by omega) hm15
  obtain ⟨q, hq⟩ : ∃ q, q = 2 ^ most := ⟨_, rfl⟩
  have hsh : wrap64 ((2 : Int) ^ most) = (q : Int) := by
    have e : ((2 : Int) ^ most) = ((2 ^ most : Nat) : Int) := by push_cast; rfl
    rw [e, ← hq]
    unfold wrap64
    omega
  rw [← hq] at hpow
  have hI1 : ¬ (most : Int) < 1 := by omega
  have hI2 : ¬ 15 < (most : Int) := by omega
  have hI3 : ¬ 400 < (n : Int) := by omega
  clear hp15 hle hq
  go_enter Try.func30, Try.ntmps30
  go_wp2_with fail
  refine (HCO.out).mono ?_
  rintro e w1 ⟨S, v, rfl, hp, hs, hv, hb1⟩
  have hl : S.length = (comeL f n).length := hp.length_eq
  rw [← hl] at hpow
  clear hl hp hs
  rcases hv with ⟨rfl, rfl⟩ | ⟨gd, cap, rfl, hgd, ho⟩
  · simp at hpow
  · clear ho
    generalize S.length = c at *
    have hI4 : (q : Int) < c := by omega
    go_wp2_with fail
    go_ret2
    exact ⟨rfl, hb1⟩

/-- A greater most is never dearer. -/
theorem more_cost {f La Lb : Nat → Nat} {n m : Nat} (ha : LenSpec f n m La) (hb : LenSpec f n (m + 1) Lb) (hm : 1 ≤ m) (hpow : (comeL f n).length ≤ 2 ^ m) : costN f Lb n ≤ costN f La n := by
  rcases Nat.lt_or_ge (comeL f n).length 2 with h | h
  · rw [cost_come, cost_come]
    obtain ⟨S, hp, _, _, h1, _⟩ := ha
    obtain ⟨T, hq, _, _, g1, _⟩ := hb
    have hl := hp.length_eq
    have hl2 := hq.length_eq
    rcases Nat.eq_zero_or_pos (comeL f n).length with h0 | h0
    · rw [List.eq_nil_of_length_eq_zero h0]; exact Nat.le_refl _
    · have h1 := h1 (by omega)
      have g1 := g1 (by omega)
      obtain ⟨s, hs⟩ : ∃ s, comeL f n = [s] := by
        match comeL f n, h, h0 with
        | [s], _, _ => exact ⟨s, rfl⟩
        | [], _, h0 => simp at h0
        | _ :: _ :: _, h, _ => simp only [List.length_cons] at h; omega
      rw [hs] at hp hq
      have eS := List.perm_singleton.1 hp
      have eT := List.perm_singleton.1 hq
      subst eS
      subst eT
      simp [at0] at h1 g1
      rw [hs]
      simp [h1, g1]
  · obtain ⟨S, hp, hpw, hc, _⟩ := spec_cost ha hm h hpow
    obtain ⟨T, hq, hqw, hd, _⟩ := spec_cost hb (by omega) h (by rw [Nat.pow_succ]; omega)
    have e : S.map f = T.map f := sorted_perm ((hp.trans hq.symm).map f) hpw hqw
    have hl := hp.length_eq
    rw [hc, hd, ← e]
    exact least_more (S.map f) hpw m hm (by rw [List.length_map]; omega) (by rw [List.length_map]; omega)
end Go.Proofs.Ytljekdnjdcfliaa
