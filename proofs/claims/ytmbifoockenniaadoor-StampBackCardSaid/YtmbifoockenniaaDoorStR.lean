/-
  The DOS number there and back.
-/
import Derived.Test.YtmbifoockenniaaDoorStO
namespace Go.Proofs.YtmbifoockenniaaDoor
set_option maxRecDepth 100000
open Go.RowKit Go.Joins Go.Deep

theorem even_date {y m d s : Nat} (h : IsDate y m d s) : IsDate y m d (s - s % 2) := ⟨h.y1, h.y2, h.m1, h.m2, h.d1, h.d2, by have := h.s2; omega⟩
theorem dosN_lt {y m d s : Nat} (h : IsDate y m d s) (h2 : y ≤ 2107) : dosN y m d s < 4294967296 := by
  have a := h.m2; have b := h.d2; have c := h.s2; have e := ml_bd y m
  unfold dosN
  omega
theorem even_clock (s : Nat) : (s - s % 2) / 3600 = s / 3600 ∧ (s - s % 2) / 60 % 60 = s / 60 % 60 ∧ (s - s % 2) % 60 = s % 60 / 2 * 2 := by
  obtain ⟨k, r, hr, rfl⟩ : ∃ k r, r < 2 ∧ s = k * 2 + r := ⟨s / 2, s % 2, by omega, by omega⟩
  rw [show (k * 2 + r) - (k * 2 + r) % 2 = k * 2 by omega]
  refine ⟨?_, ?_, ?_⟩
  · omega
  · rw [show (k * 2) / 60 = (k * 2 + r) / 60 by omega]
  · omega
theorem dec6 (Y m d h i c : Nat) (hm : m < 16) (hd : d < 32) (hh : h < 32) (hi : i < 64) (hc : c < 32) :
    (Y * 33554432 + m * 2097152 + d * 65536 + h * 2048 + i * 32 + c) / 33554432 = Y ∧ (Y * 33554432 + m * 2097152 + d * 65536 + h * 2048 + i * 32 + c) / 2097152 % 16 = m ∧ (Y * 33554432 + m * 2097152 + d * 65536 + h * 2048 + i * 32 + c) / 65536 % 32 = d ∧ (Y * 33554432 + m * 2097152 + d * 65536 + h * 2048 + i * 32 + c) / 2048 % 32 = h ∧ (Y * 33554432 + m * 2097152 + d * 65536 + h * 2048 + i * 32 + c) / 32 % 64 = i ∧ (Y * 33554432 + m * 2097152 + d * 65536 + h * 2048 + i * 32 + c) % 32 = c := by
  refine ⟨?_, ?_, ?_, ?_, ?_, ?_⟩ <;> omega
theorem back_dos {t : Int} {y m d s : Nat} (D : Dos t y m d s) : FdIs (dosN y m d s) (tI y m d (s - s % 2)) 0 := by
  obtain ⟨h, _, l, u⟩ := D
  have a := h.m2; have b := h.d2; have c := h.s2; have e := ml_bd y m
  obtain ⟨g0, g1, g2, g3, g4, g5⟩ := dec6 (y - 1980) m d (s / 3600) (s / 60 % 60) (s % 60 / 2) (by omega) (by omega) (by omega) (by omega) (by omega)
  have hn : dosN y m d s = (y - 1980) * 33554432 + m * 2097152 + d * 65536 + s / 3600 * 2048 + s / 60 % 60 * 32 + s % 60 / 2 := by rw [dosN]
  rw [← hn] at g0 g1 g2 g3 g4 g5
  generalize dosN y m d s = n at *
  clear hn
  obtain ⟨s1, s2, s3⟩ := even_clock s
  refine .inl ⟨y, m, d, s - s % 2, even_date h, ?_, ?_, ?_, ?_, ?_, ?_, rfl, rfl⟩
  · unfold fY; rw [g0, show 1980 + (y - 1980) = y by clear g0 g1 g2 g3 g4 g5 s1 s2 s3; omega]
  · unfold fM; rw [g1]
  · unfold fD; rw [g2]
  · unfold fh; rw [g3, s1]
  · unfold fm; rw [g4, s2]
  · unfold fs; rw [g5, s3]
theorem tI_even (y m d s : Nat) : tI y m d (s - s % 2) = tI y m d s - (s % 2 : Nat) := by
  unfold tI timeN
  omega
theorem fwd_dos {n : Nat} {x : Int} (hn : n < 4294967296) (H : FdIs n x 0) : ∃ y m d t, Dos x y m d t ∧ dosN y m d t = n := by
  rcases H with ⟨y, m, d, t, h, e0, e1, e2, e3, e4, e5, rfl, _⟩ | ⟨_, _, h⟩
  · have e0' := Int.ofNat.inj e0; have e1' := Int.ofNat.inj e1; have e2' := Int.ofNat.inj e2; have e3' := Int.ofNat.inj e3; have e4' := Int.ofNat.inj e4; have e5' := Int.ofNat.inj e5
    clear e0 e1 e2 e3 e4 e5
    have hY : 1980 ≤ y ∧ y ≤ 2107 := by unfold fY at e0'; omega
    have hs := h.s2
    have l1 : tI 1980 1 1 0 ≤ tI y m d t := by
      by_cases k : tI y m d t < tI 1980 1 1 0
      · exfalso
        have := date_le h date_first.1 (by have a := tI_inj (rfl : tI y m d t = _); have b := tI_inj (rfl : tI 1980 1 1 0 = _); omega)
        have q1 := h.m1; have q2 := h.d1
        have : y = 1980 ∧ m = 1 ∧ d = 1 ∧ t = 0 := by omega
        obtain ⟨rfl, rfl, rfl, rfl⟩ := this
        omega
      · exact Int.not_lt.1 k
    have l2 : tI y m d t ≤ tI 2107 12 31 86399 := by
      by_cases k : tI 2107 12 31 86399 < tI y m d t
      · exfalso
        have := date_le date_last.1 h (by have a := tI_inj (rfl : tI y m d t = _); have b := tI_inj (rfl : tI 2107 12 31 86399 = _); omega)
        have q1 := h.m2; have q2 := h.d2; have q3 := (ml_bd y m).2
        have : y = 2107 ∧ m = 12 ∧ d = 31 ∧ t = 86399 := by omega
        obtain ⟨rfl, rfl, rfl, rfl⟩ := this
        omega
      · exact Int.not_lt.1 k
    rw [date_first.2] at l1
    rw [date_last.2] at l2
    refine ⟨y, m, d, t, ⟨h, by rw [if_neg (by omega), if_neg (by omega)], hY.1, hY.2⟩, ?_⟩
    unfold fY at e0'; unfold fM at e1'; unfold fD at e2'; unfold fh at e3'; unfold fm at e4'; unfold fs at e5'
    unfold dosN
    rw [← e1', ← e2', ← e3', ← e4', ← e5', ← e0']
    clear e0' e1' e2' e3' e4' e5' l1 l2 hs hY h
    omega
  · cases h
/-- A date between the bounds of DOS is its time's own. -/
theorem dos_own {t : Int} {y m d s Y M D S : Nat} (h : IsDate y m d s) (ht : t = tI y m d s) (l : 1980 ≤ y) (u : y ≤ 2107) (K : Dos t Y M D S) : tI Y M D (S - S % 2) ≤ t ∧ t - 1 ≤ tI Y M D (S - S % 2) := by
  obtain ⟨hd, he, _, _⟩ := K
  have n1 : ¬ t < 315532800 := by
    intro k
    have a := tI_inj ht
    have b := tI_inj date_first.2.symm
    have := date_le h date_first.1 (by omega)
    have q1 := h.m1; have q2 := h.d1
    have : y = 1980 ∧ m = 1 ∧ d = 1 ∧ s = 0 := by omega
    obtain ⟨rfl, rfl, rfl, rfl⟩ := this
    have := date_first.2
    omega
  have n2 : ¬ 4354819199 < t := by
    intro k
    have a := tI_inj ht
    have b := tI_inj date_last.2.symm
    have := date_le date_last.1 h (by omega)
    have q1 := h.m2; have q2 := h.d2; have q3 := (ml_bd y m).2; have q4 := h.s2
    have : y = 2107 ∧ m = 12 ∧ d = 31 ∧ s = 86399 := by omega
    obtain ⟨rfl, rfl, rfl, rfl⟩ := this
    have := date_last.2
    omega
  rw [if_neg n1, if_neg n2] at he
  rw [tI_even]
  omega
end Go.Proofs.YtmbifoockenniaaDoor
