/-
  Contract: the document's One, at any place: a stray, or the rune that the model reads there.
-/
import Derived.Test.YtjnoapbddifcpaaGreatDoorNamNa
import Derived.Test.YtjnoapbddifcpaaGreatDoorNamNb
import Derived.Test.YtjnoapbddifcpaaGreatDoorPkAD
namespace Go.Proofs.YtjnoapbddifcpaaGreatDoor
set_option maxRecDepth 100000
open Go.RowKit Go.Deep Go.Joins Go.Lib

theorem wi_iff (s : ByteArray) (p j lo hi : Nat) : wiB s (p + j) lo hi = decide (j < s.size - p ∧ lo ≤ (s.get! (p + j)).toNat ∧ (s.get! (p + j)).toNat ≤ hi) := by
  unfold wiB
  by_cases h : p + j < s.size
  · rw [dif_pos h, get_bang s (p + j) h]
    have h1 : j < s.size - p := by omega
    simp [h1]
  · rw [dif_neg h]
    have h1 : ¬ j < s.size - p := by omega
    simp [h1]
set_option maxHeartbeats 4000000 in
theorem dec_C2 (n c b1 b2 b3 : Nat) (hn : 1 ≤ n) (h1 : b1 < 256) (h2 : b2 < 256) (h3 : b3 < 256) (hc : 194 ≤ c ∧ c ≤ 223) : decodeN n c b1 b2 b3 = if (1 < n ∧ 128 ≤ b1 ∧ b1 ≤ 191) then (c % 32 * 64 + b1 % 64, 2) else (65533, 1) := by
  rw [← slow_C2 n c b1 b2 b3 hn h1 h2 h3 (by omega)]
  unfold slowN
  repeat' split
  all_goals first | rfl | (exfalso; omega)
set_option maxHeartbeats 4000000 in
theorem dec_E0 (n c b1 b2 b3 : Nat) (hn : 1 ≤ n) (h1 : b1 < 256) (h2 : b2 < 256) (h3 : b3 < 256) (hc : c = 224) : decodeN n c b1 b2 b3 = if (1 < n ∧ 160 ≤ b1 ∧ b1 ≤ 191) ∧ (2 < n ∧ 128 ≤ b2 ∧ b2 ≤ 191) then (c % 16 * 4096 + b1 % 64 * 64 + b2 % 64, 3) else (65533, 1) := by
  rw [← slow_E0 n c b1 b2 b3 hn h1 h2 h3 (by omega)]
  unfold slowN
  repeat' split
  all_goals first | rfl | (exfalso; omega)
set_option maxHeartbeats 4000000 in
theorem dec_E1 (n c b1 b2 b3 : Nat) (hn : 1 ≤ n) (h1 : b1 < 256) (h2 : b2 < 256) (h3 : b3 < 256) (hc : 225 ≤ c ∧ c ≤ 236) : decodeN n c b1 b2 b3 = if (1 < n ∧ 128 ≤ b1 ∧ b1 ≤ 191) ∧ (2 < n ∧ 128 ≤ b2 ∧ b2 ≤ 191) then (c % 16 * 4096 + b1 % 64 * 64 + b2 % 64, 3) else (65533, 1) := by
  rw [← slow_E1 n c b1 b2 b3 hn h1 h2 h3 (.inl ⟨by omega, by omega⟩)]
  unfold slowN
  repeat' split
  all_goals first | rfl | (exfalso; omega)
set_option maxHeartbeats 4000000 in
theorem dec_E2 (n c b1 b2 b3 : Nat) (hn : 1 ≤ n) (h1 : b1 < 256) (h2 : b2 < 256) (h3 : b3 < 256) (hc : 238 ≤ c ∧ c ≤ 239) : decodeN n c b1 b2 b3 = if (1 < n ∧ 128 ≤ b1 ∧ b1 ≤ 191) ∧ (2 < n ∧ 128 ≤ b2 ∧ b2 ≤ 191) then (c % 16 * 4096 + b1 % 64 * 64 + b2 % 64, 3) else (65533, 1) := by
  rw [← slow_E1 n c b1 b2 b3 hn h1 h2 h3 (.inr ⟨by omega, by omega⟩)]
  unfold slowN
  repeat' split
  all_goals first | rfl | (exfalso; omega)
set_option maxHeartbeats 4000000 in
theorem dec_ED (n c b1 b2 b3 : Nat) (hn : 1 ≤ n) (h1 : b1 < 256) (h2 : b2 < 256) (h3 : b3 < 256) (hc : c = 237) : decodeN n c b1 b2 b3 = if (1 < n ∧ 128 ≤ b1 ∧ b1 ≤ 159) ∧ (2 < n ∧ 128 ≤ b2 ∧ b2 ≤ 191) then (c % 16 * 4096 + b1 % 64 * 64 + b2 % 64, 3) else (65533, 1) := by
  rw [← slow_ED n c b1 b2 b3 hn h1 h2 h3 (by omega)]
  unfold slowN
  repeat' split
  all_goals first | rfl | (exfalso; omega)
set_option maxHeartbeats 4000000 in
theorem dec_F0 (n c b1 b2 b3 : Nat) (hn : 1 ≤ n) (h1 : b1 < 256) (h2 : b2 < 256) (h3 : b3 < 256) (hc : c = 240) : decodeN n c b1 b2 b3 = if (1 < n ∧ 144 ≤ b1 ∧ b1 ≤ 191) ∧ (2 < n ∧ 128 ≤ b2 ∧ b2 ≤ 191) ∧ (3 < n ∧ 128 ≤ b3 ∧ b3 ≤ 191) then (c % 8 * 262144 + b1 % 64 * 4096 + b2 % 64 * 64 + b3 % 64, 4) else (65533, 1) := by
  rw [← slow_F0 n c b1 b2 b3 hn h1 h2 h3 (by omega)]
  unfold slowN
  repeat' split
  all_goals first | rfl | (exfalso; omega)
set_option maxHeartbeats 4000000 in
theorem dec_F1 (n c b1 b2 b3 : Nat) (hn : 1 ≤ n) (h1 : b1 < 256) (h2 : b2 < 256) (h3 : b3 < 256) (hc : 241 ≤ c ∧ c ≤ 243) : decodeN n c b1 b2 b3 = if (1 < n ∧ 128 ≤ b1 ∧ b1 ≤ 191) ∧ (2 < n ∧ 128 ≤ b2 ∧ b2 ≤ 191) ∧ (3 < n ∧ 128 ≤ b3 ∧ b3 ≤ 191) then (c % 8 * 262144 + b1 % 64 * 4096 + b2 % 64 * 64 + b3 % 64, 4) else (65533, 1) := by
  rw [← slow_F1 n c b1 b2 b3 hn h1 h2 h3 (by omega)]
  unfold slowN
  repeat' split
  all_goals first | rfl | (exfalso; omega)
set_option maxHeartbeats 4000000 in
theorem dec_F4 (n c b1 b2 b3 : Nat) (hn : 1 ≤ n) (h1 : b1 < 256) (h2 : b2 < 256) (h3 : b3 < 256) (hc : c = 244) : decodeN n c b1 b2 b3 = if (1 < n ∧ 128 ≤ b1 ∧ b1 ≤ 143) ∧ (2 < n ∧ 128 ≤ b2 ∧ b2 ≤ 191) ∧ (3 < n ∧ 128 ≤ b3 ∧ b3 ≤ 191) then (c % 8 * 262144 + b1 % 64 * 4096 + b2 % 64 * 64 + b3 % 64, 4) else (65533, 1) := by
  rw [← slow_F4 n c b1 b2 b3 hn h1 h2 h3 (by omega)]
  unfold slowN
  repeat' split
  all_goals first | rfl | (exfalso; omega)
theorem dec_bad (n c b1 b2 b3 : Nat) (h : 128 ≤ c ∧ c < 194 ∨ 245 ≤ c ∧ c < 256) : decodeN n c b1 b2 b3 = (65533, 1) := by
  refine bad_eq n c b1 b2 b3 (by omega) ?_
  unfold firstT
  repeat' split
  all_goals first | rfl | (exfalso; omega)

/-- A rune's number as the document has it. -/
def oneR (s : ByteArray) (p : Nat) : Int := if strayAt s p = true then -1 else ((Utf8.decode s p).1 : Nat)
theorem one_stray {s : ByteArray} {p : Nat} (h : Utf8.decode s p = (65533, 1)) : oneR s p = -1 ∧ (Utf8.decode s p).2 = 1 := by
  unfold oneR strayAt
  rw [decide_eq_true h, if_pos rfl, h]
  exact ⟨rfl, rfl⟩
theorem one_rune {s : ByteArray} {p r k : Nat} (h : Utf8.decode s p = (r, k)) (hk : k ≠ 1 ∨ r ≠ 65533) : oneR s p = (r : Nat) ∧ (Utf8.decode s p).2 = k := by
  have hn : ¬ Utf8.decode s p = (65533, 1) := by
    rw [h]
    intro e
    injection e with e1 e2
    omega
  unfold oneR strayAt
  rw [decide_eq_false hn, if_neg (by decide), h]
  exact ⟨rfl, rfl⟩
theorem rone_any (s : ByteArray) (p : Nat) (hp : p < s.size) (hs : s.size ≤ 1000000) (w : World) :
    Calls Tryz.prog 68 #[.string s, .int .i64 (p : Nat)] w fun e w' => e = .returned (.tuple #[.int .i64 (oneR s p), .int .i64 ((Utf8.decode s p).2 : Nat)]) ∧ w' = w := by
  have hd := decode_at s p
  have hg := get_bang s p hp
  have hx : s[p].toNat < 256 := s[p].toNat_lt
  have hb1 := byte_lt s (p + 1)
  have hb2 := byte_lt s (p + 2)
  have hb3 := byte_lt s (p + 3)
  have hn : 1 ≤ s.size - p := by omega
  rw [hg] at hd
  have bad : Utf8.decode s p = (65533, 1) → Calls Tryz.prog 68 #[.string s, .int .i64 (p : Nat)] w (fun e w' => e = .returned (.tuple #[.int .i64 (-1), .int .i64 1]) ∧ w' = w) → Calls Tryz.prog 68 #[.string s, .int .i64 (p : Nat)] w fun e w' => e = .returned (.tuple #[.int .i64 (oneR s p), .int .i64 ((Utf8.decode s p).2 : Nat)]) ∧ w' = w := fun h c => by
    obtain ⟨h1, h2⟩ := one_stray h
    rw [h1, h2]
    exact c
  have good : ∀ r k : Nat, Utf8.decode s p = (r, k) → (k ≠ 1 ∨ r ≠ 65533) → Calls Tryz.prog 68 #[.string s, .int .i64 (p : Nat)] w (fun e w' => e = .returned (.tuple #[.int .i64 (r : Nat), .int .i64 (k : Nat)]) ∧ w' = w) → Calls Tryz.prog 68 #[.string s, .int .i64 (p : Nat)] w fun e w' => e = .returned (.tuple #[.int .i64 (oneR s p), .int .i64 ((Utf8.decode s p).2 : Nat)]) ∧ w' = w := fun r k h hk c => by
    obtain ⟨h1, h2⟩ := one_rune h hk
    rw [h1, h2]
    exact c
  rcases (by omega : s[p].toNat < 128 ∨ (128 ≤ s[p].toNat ∧ s[p].toNat < 194) ∨ 245 ≤ s[p].toNat ∨ (194 ≤ s[p].toNat ∧ s[p].toNat ≤ 223) ∨ (s[p].toNat = 224) ∨ (225 ≤ s[p].toNat ∧ s[p].toNat ≤ 236) ∨ (238 ≤ s[p].toNat ∧ s[p].toNat ≤ 239) ∨ (s[p].toNat = 237) ∨ (s[p].toNat = 240) ∨ (241 ≤ s[p].toNat ∧ s[p].toNat ≤ 243) ∨ (s[p].toNat = 244)) with h | ⟨h, h'⟩ | h | ⟨h, h'⟩ | h | ⟨h, h'⟩ | ⟨h, h'⟩ | h | h | ⟨h, h'⟩ | h
  · refine good s[p].toNat 1 ?_ (.inr (by omega)) (one_ascii s p hp hs w h)
    rw [hd]
    unfold decodeN
    rw [if_pos h]
  · exact bad (by rw [hd]; exact dec_bad _ _ _ _ _ (.inl ⟨h, h'⟩)) (one_low s p hp hs w h h')
  · exact bad (by rw [hd]; exact dec_bad _ _ _ _ _ (.inr ⟨h, hx⟩)) (one_great s p hp hs w h)
  · rw [dec_C2 _ _ _ _ _ hn hb1 hb2 hb3 ⟨h, h'⟩] at hd
    by_cases w1 : 1 < s.size - p ∧ 128 ≤ (s.get! (p + 1)).toNat ∧ (s.get! (p + 1)).toNat ≤ 191
    case neg => exact bad (by rw [hd, if_neg (by omega)]) (one_C2_0 s p hp hs w h h'  (by rw [wi_iff]; exact decide_eq_false w1))
    rw [if_pos w1] at hd
    have c := one_C2_1 s p hp hs w h h' (by rw [wi_iff]; exact decide_eq_true w1)
    rw [hg] at c
    refine good _ _ hd (.inl (by decide)) ?_
    have ev : s[p].toNat % 32 * 64 ^ 1 + (s.get! (p + 1)).toNat % 64 * 64 ^ 0 = s[p].toNat % 32 * 64 + (s.get! (p + 1)).toNat % 64 := by omega
    rw [ev] at c
    exact c
  · rw [dec_E0 _ _ _ _ _ hn hb1 hb2 hb3 h] at hd
    by_cases w1 : 1 < s.size - p ∧ 160 ≤ (s.get! (p + 1)).toNat ∧ (s.get! (p + 1)).toNat ≤ 191
    case neg => exact bad (by rw [hd, if_neg (by omega)]) (one_E0_0 s p hp hs w h  (by rw [wi_iff]; exact decide_eq_false w1))
    by_cases w2 : 2 < s.size - p ∧ 128 ≤ (s.get! (p + 2)).toNat ∧ (s.get! (p + 2)).toNat ≤ 191
    case neg => exact bad (by rw [hd, if_neg (by omega)]) (one_E0_1 s p hp hs w h (by rw [wi_iff]; exact decide_eq_true w1) (by rw [wi_iff]; exact decide_eq_false w2))
    rw [if_pos ⟨w1, w2⟩] at hd
    have c := one_E0_2 s p hp hs w h (by rw [wi_iff]; exact decide_eq_true w1) (by rw [wi_iff]; exact decide_eq_true w2)
    rw [hg] at c
    refine good _ _ hd (.inl (by decide)) ?_
    have ev : s[p].toNat % 16 * 64 ^ 2 + (s.get! (p + 1)).toNat % 64 * 64 ^ 1 + (s.get! (p + 2)).toNat % 64 * 64 ^ 0 = s[p].toNat % 16 * 4096 + (s.get! (p + 1)).toNat % 64 * 64 + (s.get! (p + 2)).toNat % 64 := by omega
    rw [ev] at c
    exact c
  · rw [dec_E1 _ _ _ _ _ hn hb1 hb2 hb3 ⟨h, h'⟩] at hd
    by_cases w1 : 1 < s.size - p ∧ 128 ≤ (s.get! (p + 1)).toNat ∧ (s.get! (p + 1)).toNat ≤ 191
    case neg => exact bad (by rw [hd, if_neg (by omega)]) (one_E1_0 s p hp hs w h h'  (by rw [wi_iff]; exact decide_eq_false w1))
    by_cases w2 : 2 < s.size - p ∧ 128 ≤ (s.get! (p + 2)).toNat ∧ (s.get! (p + 2)).toNat ≤ 191
    case neg => exact bad (by rw [hd, if_neg (by omega)]) (one_E1_1 s p hp hs w h h' (by rw [wi_iff]; exact decide_eq_true w1) (by rw [wi_iff]; exact decide_eq_false w2))
    rw [if_pos ⟨w1, w2⟩] at hd
    have c := one_E1_2 s p hp hs w h h' (by rw [wi_iff]; exact decide_eq_true w1) (by rw [wi_iff]; exact decide_eq_true w2)
    rw [hg] at c
    refine good _ _ hd (.inl (by decide)) ?_
    have ev : s[p].toNat % 16 * 64 ^ 2 + (s.get! (p + 1)).toNat % 64 * 64 ^ 1 + (s.get! (p + 2)).toNat % 64 * 64 ^ 0 = s[p].toNat % 16 * 4096 + (s.get! (p + 1)).toNat % 64 * 64 + (s.get! (p + 2)).toNat % 64 := by omega
    rw [ev] at c
    exact c
  · rw [dec_E2 _ _ _ _ _ hn hb1 hb2 hb3 ⟨h, h'⟩] at hd
    by_cases w1 : 1 < s.size - p ∧ 128 ≤ (s.get! (p + 1)).toNat ∧ (s.get! (p + 1)).toNat ≤ 191
    case neg => exact bad (by rw [hd, if_neg (by omega)]) (one_E2_0 s p hp hs w h h'  (by rw [wi_iff]; exact decide_eq_false w1))
    by_cases w2 : 2 < s.size - p ∧ 128 ≤ (s.get! (p + 2)).toNat ∧ (s.get! (p + 2)).toNat ≤ 191
    case neg => exact bad (by rw [hd, if_neg (by omega)]) (one_E2_1 s p hp hs w h h' (by rw [wi_iff]; exact decide_eq_true w1) (by rw [wi_iff]; exact decide_eq_false w2))
    rw [if_pos ⟨w1, w2⟩] at hd
    have c := one_E2_2 s p hp hs w h h' (by rw [wi_iff]; exact decide_eq_true w1) (by rw [wi_iff]; exact decide_eq_true w2)
    rw [hg] at c
    refine good _ _ hd (.inl (by decide)) ?_
    have ev : s[p].toNat % 16 * 64 ^ 2 + (s.get! (p + 1)).toNat % 64 * 64 ^ 1 + (s.get! (p + 2)).toNat % 64 * 64 ^ 0 = s[p].toNat % 16 * 4096 + (s.get! (p + 1)).toNat % 64 * 64 + (s.get! (p + 2)).toNat % 64 := by omega
    rw [ev] at c
    exact c
  · rw [dec_ED _ _ _ _ _ hn hb1 hb2 hb3 h] at hd
    by_cases w1 : 1 < s.size - p ∧ 128 ≤ (s.get! (p + 1)).toNat ∧ (s.get! (p + 1)).toNat ≤ 159
    case neg => exact bad (by rw [hd, if_neg (by omega)]) (one_ED_0 s p hp hs w h  (by rw [wi_iff]; exact decide_eq_false w1))
    by_cases w2 : 2 < s.size - p ∧ 128 ≤ (s.get! (p + 2)).toNat ∧ (s.get! (p + 2)).toNat ≤ 191
    case neg => exact bad (by rw [hd, if_neg (by omega)]) (one_ED_1 s p hp hs w h (by rw [wi_iff]; exact decide_eq_true w1) (by rw [wi_iff]; exact decide_eq_false w2))
    rw [if_pos ⟨w1, w2⟩] at hd
    have c := one_ED_2 s p hp hs w h (by rw [wi_iff]; exact decide_eq_true w1) (by rw [wi_iff]; exact decide_eq_true w2)
    rw [hg] at c
    refine good _ _ hd (.inl (by decide)) ?_
    have ev : s[p].toNat % 16 * 64 ^ 2 + (s.get! (p + 1)).toNat % 64 * 64 ^ 1 + (s.get! (p + 2)).toNat % 64 * 64 ^ 0 = s[p].toNat % 16 * 4096 + (s.get! (p + 1)).toNat % 64 * 64 + (s.get! (p + 2)).toNat % 64 := by omega
    rw [ev] at c
    exact c
  · rw [dec_F0 _ _ _ _ _ hn hb1 hb2 hb3 h] at hd
    by_cases w1 : 1 < s.size - p ∧ 144 ≤ (s.get! (p + 1)).toNat ∧ (s.get! (p + 1)).toNat ≤ 191
    case neg => exact bad (by rw [hd, if_neg (by omega)]) (one_F0_0 s p hp hs w h  (by rw [wi_iff]; exact decide_eq_false w1))
    by_cases w2 : 2 < s.size - p ∧ 128 ≤ (s.get! (p + 2)).toNat ∧ (s.get! (p + 2)).toNat ≤ 191
    case neg => exact bad (by rw [hd, if_neg (by omega)]) (one_F0_1 s p hp hs w h (by rw [wi_iff]; exact decide_eq_true w1) (by rw [wi_iff]; exact decide_eq_false w2))
    by_cases w3 : 3 < s.size - p ∧ 128 ≤ (s.get! (p + 3)).toNat ∧ (s.get! (p + 3)).toNat ≤ 191
    case neg => exact bad (by rw [hd, if_neg (by omega)]) (one_F0_2 s p hp hs w h (by rw [wi_iff]; exact decide_eq_true w1) (by rw [wi_iff]; exact decide_eq_true w2) (by rw [wi_iff]; exact decide_eq_false w3))
    rw [if_pos ⟨w1, w2, w3⟩] at hd
    have c := one_F0_3 s p hp hs w h (by rw [wi_iff]; exact decide_eq_true w1) (by rw [wi_iff]; exact decide_eq_true w2) (by rw [wi_iff]; exact decide_eq_true w3)
    rw [hg] at c
    refine good _ _ hd (.inl (by decide)) ?_
    have ev : s[p].toNat % 8 * 64 ^ 3 + (s.get! (p + 1)).toNat % 64 * 64 ^ 2 + (s.get! (p + 2)).toNat % 64 * 64 ^ 1 + (s.get! (p + 3)).toNat % 64 * 64 ^ 0 = s[p].toNat % 8 * 262144 + (s.get! (p + 1)).toNat % 64 * 4096 + (s.get! (p + 2)).toNat % 64 * 64 + (s.get! (p + 3)).toNat % 64 := by omega
    rw [ev] at c
    exact c
  · rw [dec_F1 _ _ _ _ _ hn hb1 hb2 hb3 ⟨h, h'⟩] at hd
    by_cases w1 : 1 < s.size - p ∧ 128 ≤ (s.get! (p + 1)).toNat ∧ (s.get! (p + 1)).toNat ≤ 191
    case neg => exact bad (by rw [hd, if_neg (by omega)]) (one_F1_0 s p hp hs w h h'  (by rw [wi_iff]; exact decide_eq_false w1))
    by_cases w2 : 2 < s.size - p ∧ 128 ≤ (s.get! (p + 2)).toNat ∧ (s.get! (p + 2)).toNat ≤ 191
    case neg => exact bad (by rw [hd, if_neg (by omega)]) (one_F1_1 s p hp hs w h h' (by rw [wi_iff]; exact decide_eq_true w1) (by rw [wi_iff]; exact decide_eq_false w2))
    by_cases w3 : 3 < s.size - p ∧ 128 ≤ (s.get! (p + 3)).toNat ∧ (s.get! (p + 3)).toNat ≤ 191
    case neg => exact bad (by rw [hd, if_neg (by omega)]) (one_F1_2 s p hp hs w h h' (by rw [wi_iff]; exact decide_eq_true w1) (by rw [wi_iff]; exact decide_eq_true w2) (by rw [wi_iff]; exact decide_eq_false w3))
    rw [if_pos ⟨w1, w2, w3⟩] at hd
    have c := one_F1_3 s p hp hs w h h' (by rw [wi_iff]; exact decide_eq_true w1) (by rw [wi_iff]; exact decide_eq_true w2) (by rw [wi_iff]; exact decide_eq_true w3)
    rw [hg] at c
    refine good _ _ hd (.inl (by decide)) ?_
    have ev : s[p].toNat % 8 * 64 ^ 3 + (s.get! (p + 1)).toNat % 64 * 64 ^ 2 + (s.get! (p + 2)).toNat % 64 * 64 ^ 1 + (s.get! (p + 3)).toNat % 64 * 64 ^ 0 = s[p].toNat % 8 * 262144 + (s.get! (p + 1)).toNat % 64 * 4096 + (s.get! (p + 2)).toNat % 64 * 64 + (s.get! (p + 3)).toNat % 64 := by omega
    rw [ev] at c
    exact c
  · rw [dec_F4 _ _ _ _ _ hn hb1 hb2 hb3 h] at hd
    by_cases w1 : 1 < s.size - p ∧ 128 ≤ (s.get! (p + 1)).toNat ∧ (s.get! (p + 1)).toNat ≤ 143
    case neg => exact bad (by rw [hd, if_neg (by omega)]) (one_F4_0 s p hp hs w h  (by rw [wi_iff]; exact decide_eq_false w1))
    by_cases w2 : 2 < s.size - p ∧ 128 ≤ (s.get! (p + 2)).toNat ∧ (s.get! (p + 2)).toNat ≤ 191
    case neg => exact bad (by rw [hd, if_neg (by omega)]) (one_F4_1 s p hp hs w h (by rw [wi_iff]; exact decide_eq_true w1) (by rw [wi_iff]; exact decide_eq_false w2))
    by_cases w3 : 3 < s.size - p ∧ 128 ≤ (s.get! (p + 3)).toNat ∧ (s.get! (p + 3)).toNat ≤ 191
    case neg => exact bad (by rw [hd, if_neg (by omega)]) (one_F4_2 s p hp hs w h (by rw [wi_iff]; exact decide_eq_true w1) (by rw [wi_iff]; exact decide_eq_true w2) (by rw [wi_iff]; exact decide_eq_false w3))
    rw [if_pos ⟨w1, w2, w3⟩] at hd
    have c := one_F4_3 s p hp hs w h (by rw [wi_iff]; exact decide_eq_true w1) (by rw [wi_iff]; exact decide_eq_true w2) (by rw [wi_iff]; exact decide_eq_true w3)
    rw [hg] at c
    refine good _ _ hd (.inl (by decide)) ?_
    have ev : s[p].toNat % 8 * 64 ^ 3 + (s.get! (p + 1)).toNat % 64 * 64 ^ 2 + (s.get! (p + 2)).toNat % 64 * 64 ^ 1 + (s.get! (p + 3)).toNat % 64 * 64 ^ 0 = s[p].toNat % 8 * 262144 + (s.get! (p + 1)).toNat % 64 * 4096 + (s.get! (p + 2)).toNat % 64 * 64 + (s.get! (p + 3)).toNat % 64 := by omega
    rw [ev] at c
    exact c
end Go.Proofs.YtjnoapbddifcpaaGreatDoor
