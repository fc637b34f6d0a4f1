/-
  Contract: the document's One, at any place: a stray, or the rune that the model reads there.
-/
import Derived.Test.YtpkhpaklhfomkaaGreatDoorNamNa
import Derived.Test.YtpkhpaklhfomkaaGreatDoorNamNb
import Derived.Test.YtpkhpaklhfomkaaGreatDoorNamNc
import Derived.Test.YtpkhpaklhfomkaaGreatDoorNamNd
namespace Go.Proofs.YtpkhpaklhfomkaaGreatDoor
set_option maxRecDepth 100000
open Go.RowKit Go.Deep Go.Joins Go.Lib

theorem wi_iff (s : ByteArray) (p j lo hi : Nat) : wiB s (p + j) lo hi = decide (j < s.size - p ∧ lo ≤ (s.get! (p + j)).toNat ∧ (s.get! (p + j)).toNat ≤ hi) := by
  unfold wiB
  by_cases h : p + j < s.size
  · rw [dif_pos h, get_bang s (p + j) h]
    have h1 : j < s.size - p := by omega
    simp [h1]
  · rw [dif_neg h]
    have h1 : ¬ j < s.size - p := by omega
    simp [h1]
set_option maxHeartbeats 4000000 in
theorem dec_C2 (n c b1 b2 b3 : Nat) (hn : 1 ≤ n) (h1 : b1 < 256) (h2 : b2 < 256) (h3 : b3 < 256) (hc : 194 ≤ c ∧ c ≤ 223) : decodeN n c b1 b2 b3 = if (1 < n ∧ 128 ≤ b1 ∧ b1 ≤ 191) then (c % 32 * 64 + b1 % 64, 2) else (65533, 1) := by
  rw [← slow_C2 n c b1 b2 b3 hn h1 h2 h3 (by omega)]
  unfold slowN
  repeat' split
  all_goals first | rfl | (exfalso; omega)
set_option maxHeartbeats 4000000 in
theorem dec_E0 (n c b1 b2 b3 : Nat) (hn : 1 ≤ n) (h1 : b1 < 256) (h2 : b2 < 256) (h3 : b3 < 256) (hc : c = 224) : decodeN n c b1 b2 b3 = if (1 < n ∧ 160 ≤ b1 ∧ b1 ≤ 191) ∧ (2 < n ∧ 128 ≤ b2 ∧ b2 ≤ 191) then (c % 16 * 4096 + b1 % 64 * 64 + b2 % 64, 3) else (65533, 1) := by
  rw [← slow_E0 n c b1 b2 b3 hn h1 h2 h3 (by omega)]
  unfold slowN
  repeat' split
  all_goals first | rfl | (exfalso; omega)
set_option maxHeartbeats 4000000 in
theorem dec_E1 (n c b1 b2 b3 : Nat) (hn : 1 ≤ n) (h1 : b1 < 256) (h2 : b2 < 256) (h3 : b3 < 256) (hc : 225 ≤ c ∧ c ≤ 236) : decodeN n c b1 b2 b3 = if (1 < n ∧ 128 ≤ b1 ∧ b1 ≤ 191) ∧ (2 < n ∧ 128 ≤ b2 ∧ b2 ≤ 191) then (c % 16 * 4096 + b1 % 64 * 64 + b2 % 64, 3) else (65533, 1) := by
  rw [← slow_E1 n c b1 b2 b3 hn h1 h2 h3 (.inl ⟨by omega, by omega⟩)]
  unfold slowN
  repeat' split
  all_goals first | rfl | (exfalso; omega)
set_option maxHeartbeats 4000000 in
theorem dec_E2 (n c b1 b2 b3 : Nat) (hn : 1 ≤ n) (h1 : b1 < 256) (h2 : b2 < 256) (h3 : b3 < 256) (hc : 238 ≤ c ∧ c ≤ 239) : decodeN n c b1 b2 b3 = if (1 < n ∧ 128 ≤ b1 ∧ b1 ≤ 191) ∧ (2 < n ∧ 128 ≤ b2 ∧ b2 ≤ 191) then (c % 16 * 4096 + b1 % 64 * 64 + b2 % 64, 3) else (65533, 1) := by
  rw [← slow_E1 n c b1 b2 b3 hn h1 h2 h3 (.inr ⟨by omega, by omega⟩)]
  unfold slowN
  repeat' split
  all_goals first | rfl | (exfalso; omega)
set_option maxHeartbeats 4000000 in
theorem dec_ED (n c b1 b2 b3 : Nat) (hn : 1 ≤ n) (h1 : b1 < 256) (h2 : b2 < 256) (h3 : b3 < 256) (hc : c = 237) : decodeN n c b1 b2 b3 = if (1 < n ∧ 128 ≤ b1 ∧ b1 ≤ 159) ∧ (2 < n ∧ 128 ≤ b2 ∧ b2 ≤ 191) then (c % 16 * 4096 + b1 % 64 * 64 + b2 % 64, 3) else (65533, 1) := by
  rw [← slow_ED n c b1 b2 b3 hn h1 h2 h3 (by omega)]
  unfold slowN
  repeat' split
  all_goals first | rfl | (exfalso; omega)
set_option maxHeartbeats 4000000 in
theorem dec_F0 (n c b1 b2 b3 : Nat) (hn : 1 ≤ n) (h1 : b1 < 256) (h2 : b2 < 256) (h3 : b3 < 256) (hc : c = 240) : decodeN n c b1 b2 b3 = if (1 < n ∧ 144 ≤ b1 ∧ b1 ≤ 191) ∧ (2 < n ∧ 128 ≤ b2 ∧ b2 ≤ 191) ∧ (3 < n ∧ 128 ≤ b3 ∧ b3 ≤ 191) then (c % 8 * 262144 + b1 % 64 * 4096 + b2 % 64 * 64 + b3 % 64, 4) else (65533, 1) := by
  rw [← slow_F0 n c b1 b2 b3 hn h1 h2 h3 (by omega)]
  unfold slowN
  repeat' split
  all_goals first | rfl | (exfalso; omega)
set_option maxHeartbeats 4000000 in
theorem dec_F1 (n c b1 b2 b3 : Nat) (hn : 1 ≤ n) (h1 : b1 < 256) (h2 : b2 < 256) (h3 : b3 < 256) (hc : 241 ≤ c ∧ c ≤ 243) : decodeN n c b1 b2 b3 = if (1 < n ∧ 128 ≤ b1 ∧ b1 ≤ 191) ∧ (2 < n ∧ 128 ≤ b2 ∧ b2 ≤ 191) ∧ (3 < n ∧ 128 ≤ b3 ∧ b3 ≤ 191) then (c % 8 * 262144 + b1 % 64 * 4096 + b2 % 64 * 64 + b3 % 64, 4) else (65533, 1) := by
  rw [← slow_F1 n c b1 b2 b3 hn h1 h2 h3 (by omega)]
  unfold slowN
  repeat' split
  all_goals first | rfl | (exfalso; omega)
set_option maxHeartbeats 4000000 in
theorem dec_F4 (n c b1 b2 b3 : Nat) (hn : 1 ≤ n) (h1 : b1 < 256) (h2 : b2 < 256) (h3 : b3 < 256) (hc : c = 244) : decodeN n c b1 b2 b3 = if (1 < n ∧ 128 ≤ b1 ∧ b1 ≤ 143) ∧ (2 < n ∧ 128 ≤ b2 ∧ b2 ≤ 191) ∧ (3 < n ∧ 128 ≤ b3 ∧ b3 ≤ 191) then (c % 8 * 262144 + b1 % 64 * 4096 + b2 % 64 * 64 + b3 % 64, 4) else (65533, 1) := by
  rw [← slow_F4 n c b1 b2 b3 hn h1 h2 h3 (by omega)]
  unfold slowN
  repeat' split
  all_goals first | rfl | (exfalso; omega)
theorem dec_bad (n c b1 b2 b3 : Nat) (h : 128 ≤ c ∧ c < 194 ∨ 245 ≤ c ∧ c < 256) : decodeN n c b1 b2 b3 = (65533, 1) := by
  refine bad_eq n c b1 b2 b3 (by omega) ?_
  unfold firstT
  repeat' split
  all_goals first | rfl | (exfalso; omega)

/-- A rune's number as the document has it. -/
def oneR (s : ByteArray) (p : Nat) : Int := if strayAt s p = true then -1 else ((Utf8.decode s p).1 : Nat)
theorem one_stray {s : ByteArray} {p : Nat} (h : Utf8.decode s p = (65533, 1)) : oneR s p = -1 ∧ (Utf8.decode s p).2 = 1 := by
  unfold oneR strayAt
  rw [decide_eq_true h, if_pos rfl, h]
  exact ⟨rfl, rfl⟩
theorem one_rune {s : ByteArray} {p r k : Nat} (h : Utf8.decode s p = (r, k)) (hk : k ≠ 1 ∨ r ≠ 65533) : oneR s p = (r : Nat) ∧ (Utf8.decode s p).2 = k := by
  have hn : ¬ Utf8.decode s p = (65533, 1) := by
    rw [h]
    intro e
    injection e with e1 e2
    omega
  unfold oneR strayAt
  rw [decide_eq_false hn, if_neg (by decide), h]
  exact ⟨rfl, rfl⟩
end Go.Proofs.YtpkhpaklhfomkaaGreatDoor
