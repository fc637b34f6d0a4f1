/-
  Contract: the document's One, at any place: a stray, or the rune that the model reads there.
  Contracts: misleads, long, Parts, harmless, readable, Check.
  Contracts: readable, Check; the chapter's examples.
-/
import Derived.Test.YtmeapijckncoeaaGreatDoorPkAE
import Derived.Test.YtmeapijckncoeaaGreatDoorPkAF

namespace Go.Proofs.YtmeapijckncoeaaGreatDoor
set_option maxRecDepth 100000
open Go.RowKit Go.Deep Go.Joins Go.Lib

theorem wi_iff (s : ByteArray) (p j lo hi : Nat) : wiB s (p + j) lo hi = decide (j < s.size - p ∧ lo ≤ (s.get! (p + j)).toNat ∧ (s.get! (p + j)).toNat ≤ hi) := by
  unfold wiB
  by_cases h : p + j < s.size
  · rw [dif_pos h, get_bang s (p + j) h]
    have h1 : j < s.size - p := by omega
    simp [h1]
  · rw [dif_neg h]
    have h1 : ¬ j < s.size - p := by omega
    simp [h1]
set_option maxHeartbeats 4000000 in
theorem dec_C2 (n c b1 b2 b3 : Nat) (hn : 1 ≤ n) (h1 : b1 < 256) (h2 : b2 < 256) (h3 : b3 < 256) (hc : 194 ≤ c ∧ c ≤ 223) : decodeN n c b1 b2 b3 = if (1 < n ∧ 128 ≤ b1 ∧ b1 ≤ 191) then (c % 32 * 64 + b1 % 64, 2) else (65533, 1) := by
  rw [← slow_C2 n c b1 b2 b3 hn h1 h2 h3 (by omega)]
  unfold slowN
  repeat' split
  all_goals first | rfl | (exfalso; omega)
set_option maxHeartbeats 4000000 in
theorem dec_E0 (n c b1 b2 b3 : Nat) (hn : 1 ≤ n) (h1 : b1 < 256) (h2 : b2 < 256) (h3 : b3 < 256) (hc : c = 224) : decodeN n c b1 b2 b3 = if (1 < n ∧ 160 ≤ b1 ∧ b1 ≤ 191) ∧ (2 < n ∧ 128 ≤ b2 ∧ b2 ≤ 191) then (c % 16 * 4096 + b1 % 64 * 64 + b2 % 64, 3) else (65533, 1) := by
  rw [← slow_E0 n c b1 b2 b3 hn h1 h2 h3 (by omega)]
  unfold slowN
  repeat' split
  all_goals first | rfl | (exfalso; omega)
set_option maxHeartbeats 4000000 in
theorem dec_E1 (n c b1 b2 b3 : Nat) (hn : 1 ≤ n) (h1 : b1 < 256) (h2 : b2 < 256) (h3 : b3 < 256) (hc : 225 ≤ c ∧ c ≤ 236) : decodeN n c b1 b2 b3 = if (1 < n ∧ 128 ≤ b1 ∧ b1 ≤ 191) ∧ (2 < n ∧ 128 ≤ b2 ∧ b2 ≤ 191) then (c % 16 * 4096 + b1 % 64 * 64 + b2 % 64, 3) else (65533, 1) := by
  rw [← slow_E1 n c b1 b2 b3 hn h1 h2 h3 (.inl ⟨by omega, by omega⟩)]
  unfold slowN
  repeat' split
  all_goals first | rfl | (exfalso; omega)
set_option maxHeartbeats 4000000 in
theorem dec_E2 (n c b1 b2 b3 : Nat) (hn : 1 ≤ n) (h1 : b1 < 256) (h2 : b2 < 256) (h3 : b3 < 256) (hc : 238 ≤ c ∧ c ≤ 239) : decodeN n c b1 b2 b3 = if (1 < n ∧ 128 ≤ b1 ∧ b1 ≤ 191) ∧ (2 < n ∧ 128 ≤ b2 ∧ b2 ≤ 191) then (c % 16 * 4096 + b1 % 64 * 64 + b2 % 64, 3) else (65533, 1) := by
  rw [← slow_E1 n c b1 b2 b3 hn h1 h2 h3 (.inr ⟨by omega, by omega⟩)]
  unfold slowN
  repeat' split
  all_goals first | rfl | (exfalso; omega)
set_option maxHeartbeats 4000000 in
theorem dec_ED (n c b1 b2 b3 : Nat) (hn : 1 ≤ n) (h1 : b1 < 256) (h2 : b2 < 256) (h3 : b3 < 256) (hc : c = 237) : decodeN n c b1 b2 b3 = if (1 < n ∧ 128 ≤ b1 ∧ b1 ≤ 159) ∧ (2 < n ∧ 128 ≤ b2 ∧ b2 ≤ 191) then (c % 16 * 4096 + b1 % 64 * 64 + b2 % 64, 3) else (65533, 1) := by
  rw [← slow_ED n c b1 b2 b3 hn h1 h2 h3 (by omega)]
  unfold slowN
  repeat' split
  all_goals first | rfl | (exfalso; omega)
set_option maxHeartbeats 4000000 in
theorem dec_F0 (n c b1 b2 b3 : Nat) (hn : 1 ≤ n) (h1 : b1 < 256) (h2 : b2 < 256) (h3 : b3 < 256) (hc : c = 240) : decodeN n c b1 b2 b3 = if (1 < n ∧ 144 ≤ b1 ∧ b1 ≤ 191) ∧ (2 < n ∧ 128 ≤ b2 ∧ b2 ≤ 191) ∧ (3 < n ∧ 128 ≤ b3 ∧ b3 ≤ 191) then (c % 8 * 262144 + b1 % 64 * 4096 + b2 % 64 * 64 + b3 % 64, 4) else (65533, 1) := by
  rw [← slow_F0 n c b1 b2 b3 hn h1 h2 h3 (by omega)]
  unfold slowN
  repeat' split
  all_goals first | rfl | (exfalso; omega)
set_option maxHeartbeats 4000000 in
theorem dec_F1 (n c b1 b2 b3 : Nat) (hn : 1 ≤ n) (h1 : b1 < 256) (h2 : b2 < 256) (h3 : b3 < 256) (hc : 241 ≤ c ∧ c ≤ 243) : decodeN n c b1 b2 b3 = if (1 < n ∧ 128 ≤ b1 ∧ b1 ≤ 191) ∧ (2 < n ∧ 128 ≤ b2 ∧ b2 ≤ 191) ∧ (3 < n ∧ 128 ≤ b3 ∧ b3 ≤ 191) then (c % 8 * 262144 + b1 % 64 * 4096 + b2 % 64 * 64 + b3 % 64, 4) else (65533, 1) := by
  rw [← slow_F1 n c b1 b2 b3 hn h1 h2 h3 (by omega)]
  unfold slowN
  repeat' split
  all_goals first | rfl | (exfalso; omega)
set_option maxHeartbeats 4000000 in
theorem dec_F4 (n c b1 b2 b3 : Nat) (hn : 1 ≤ n) (h1 : b1 < 256) (h2 : b2 < 256) (h3 : b3 < 256) (hc : c = 244) : decodeN n c b1 b2 b3 = if (1 < n ∧ 128 ≤ b1 ∧ b1 ≤ 143) ∧ (2 < n ∧ 128 ≤ b2 ∧ b2 ≤ 191) ∧ (3 < n ∧ 128 ≤ b3 ∧ b3 ≤ 191) then (c % 8 * 262144 + b1 % 64 * 4096 + b2 % 64 * 64 + b3 % 64, 4) else (65533, 1) := by
  rw [← slow_F4 n c b1 b2 b3 hn h1 h2 h3 (by omega)]
  unfold slowN
  repeat' split
  all_goals first | rfl | (exfalso; omega)
theorem dec_bad (n c b1 b2 b3 : Nat) (h : 128 ≤ c ∧ c < 194 ∨ 245 ≤ c ∧ c < 256) : decodeN n c b1 b2 b3 = (65533, 1) := by
  refine bad_eq n c b1 b2 b3 (by omega) ?_
  unfold firstT
  repeat' split
  all_goals first | rfl | (exfalso; omega)

/-- A rune's number as the document has it. -/
def oneR (s : ByteArray) (p : Nat) : Int := if strayAt s p = true then -1 else ((Utf8.decode s p).1 : Nat)
theorem one_stray {s : ByteArray} {p : Nat} (h : Utf8.decode s p = (65533, 1)) : oneR s p = -1 ∧ (Utf8.decode s p).2 = 1 := by
  unfold oneR strayAt
  rw [decide_eq_true h, if_pos rfl, h]
  exact ⟨rfl, rfl⟩
theorem one_rune {s : ByteArray} {p r k : Nat} (h : Utf8.decode s p = (r, k)) (hk : k ≠ 1 ∨ r ≠ 65533) : oneR s p = (r : Nat) ∧ (Utf8.decode s p).2 = k := by
  have hn : ¬ Utf8.decode s p = (65533, 1) := by
    rw [h]
    intro e
    injection e with e1 e2
    omega
  unfold oneR strayAt
  rw [decide_eq_false hn, if_neg (by decide), h]
  exact ⟨rfl, rfl⟩
theorem one_any (s : ByteArray) (p : Nat) (hp : p < s.size) (hs : s.size ≤ 1000000) (w : World) :
    Calls Tryz.prog 100 #[.string s, .int .i64 (p : Nat)] w fun e w' => e = .returned (.tuple #[.int .i64 (oneR s p), .int .i64 ((Utf8.decode s p).2 : Nat)]) ∧ w' = w := by
  have hd := decode_at s p
  have hg := get_bang s p hp
  have hx : s[p].toNat < 256 := s[p].toNat_lt
  have hb1 := byte_lt s (p + 1)
  have hb2 := byte_lt s (p + 2)
  have hb3 := byte_lt s (p + 3)
  have hn : 1 ≤ s.size - p := by omega
  rw [hg] at hd
  have bad : Utf8.decode s p = (65533, 1) → Calls Tryz.prog 100 #[.string s, .int .i64 (p : Nat)] w (fun e w' => e = .returned (.tuple #[.int .i64 (-1), .int .i64 1]) ∧ w' = w) → Calls Tryz.prog 100 #[.string s, .int .i64 (p : Nat)] w fun e w' => e = .returned (.tuple #[.int .i64 (oneR s p), .int .i64 ((Utf8.decode s p).2 : Nat)]) ∧ w' = w := fun h c => by
    obtain ⟨h1, h2⟩ := one_stray h
    rw [h1, h2]
    exact c
  have good : ∀ r k : Nat, Utf8.decode s p = (r, k) → (k ≠ 1 ∨ r ≠ 65533) → Calls Tryz.prog 100 #[.string s, .int .i64 (p : Nat)] w (fun e w' => e = .returned (.tuple #[.int .i64 (r : Nat), .int .i64 (k : Nat)]) ∧ w' = w) → Calls Tryz.prog 100 #[.string s, .int .i64 (p : Nat)] w fun e w' => e = .returned (.tuple #[.int .i64 (oneR s p), .int .i64 ((Utf8.decode s p).2 : Nat)]) ∧ w' = w := fun r k h hk c => by
    obtain ⟨h1, h2⟩ := one_rune h hk
    rw [h1, h2]
    exact c
  rcases (by omega : s[p].toNat < 128 ∨ (128 ≤ s[p].toNat ∧ s[p].toNat < 194) ∨ 245 ≤ s[p].toNat ∨ (194 ≤ s[p].toNat ∧ s[p].toNat ≤ 223) ∨ (s[p].toNat = 224) ∨ (225 ≤ s[p].toNat ∧ s[p].toNat ≤ 236) ∨ (238 ≤ s[p].toNat ∧ s[p].toNat ≤ 239) ∨ (s[p].toNat = 237) ∨ (s[p].toNat = 240) ∨ (241 ≤ s[p].toNat ∧ s[p].toNat ≤ 243) ∨ (s[p].toNat = 244)) with h | ⟨h, h'⟩ | h | ⟨h, h'⟩ | h | ⟨h, h'⟩ | ⟨h, h'⟩ | h | h | ⟨h, h'⟩ | h
  · refine good s[p].toNat 1 ?_ (.inr (by omega)) (one_ascii s p hp hs w h)
    rw [hd]
    unfold decodeN
    rw [if_pos h]
  · exact bad (by rw [hd]; exact dec_bad _ _ _ _ _ (.inl ⟨h, h'⟩)) (one_low s p hp hs w h h')
  · exact bad (by rw [hd]; exact dec_bad _ _ _ _ _ (.inr ⟨h, hx⟩)) (one_great s p hp hs w h)
  · rw [dec_C2 _ _ _ _ _ hn hb1 hb2 hb3 ⟨h, h'⟩] at hd
    by_cases w1 : 1 < s.size - p ∧ 128 ≤ (s.get! (p + 1)).toNat ∧ (s.get! (p + 1)).toNat ≤ 191
    case neg => exact bad (by rw [hd, if_neg (by omega)]) (one_C2_0 s p hp hs w h h'  (by rw [wi_iff]; exact decide_eq_false w1))
    rw [if_pos w1] at hd
    have c := one_C2_1 s p hp hs w h h' (by rw [wi_iff]; exact decide_eq_true w1)
    rw [hg] at c
    refine good _ _ hd (.inl (by decide)) ?_
    have ev : s[p].toNat % 32 * 64 ^ 1 + (s.get! (p + 1)).toNat % 64 * 64 ^ 0 = s[p].toNat % 32 * 64 + (s.get! (p + 1)).toNat % 64 := by omega
    rw [ev] at c
    exact c
  · rw [dec_E0 _ _ _ _ _ hn hb1 hb2 hb3 h] at hd
    by_cases w1 : 1 < s.size - p ∧ 160 ≤ (s.get! (p + 1)).toNat ∧ (s.get! (p + 1)).toNat ≤ 191
    case neg => exact bad (by rw [hd, if_neg (by omega)]) (one_E0_0 s p hp hs w h  (by rw [wi_iff]; exact decide_eq_false w1))
    by_cases w2 : 2 < s.size - p ∧ 128 ≤ (s.get! (p + 2)).toNat ∧ (s.get! (p + 2)).toNat ≤ 191
    case neg => exact bad (by rw [hd, if_neg (by omega)]) (one_E0_1 s p hp hs w h (by rw [wi_iff]; exact decide_eq_true w1) (by rw [wi_iff]; exact decide_eq_false w2))
    rw [if_pos ⟨w1, w2⟩] at hd
    have c := one_E0_2 s p hp hs w h (by rw [wi_iff]; exact decide_eq_true w1) (by rw [wi_iff]; exact decide_eq_true w2)
    rw [hg] at c
    refine good _ _ hd (.inl (by decide)) ?_
    have ev : s[p].toNat % 16 * 64 ^ 2 + (s.get! (p + 1)).toNat % 64 * 64 ^ 1 + (s.get! (p + 2)).toNat % 64 * 64 ^ 0 = s[p].toNat % 16 * 4096 + (s.get! (p + 1)).toNat % 64 * 64 + (s.get! (p + 2)).toNat % 64 := by omega
    rw [ev] at c
    exact c
  · rw [dec_E1 _ _ _ _ _ hn hb1 hb2 hb3 ⟨h, h'⟩] at hd
    by_cases w1 : 1 < s.size - p ∧ 128 ≤ (s.get! (p + 1)).toNat ∧ (s.get! (p + 1)).toNat ≤ 191
    case neg => exact bad (by rw [hd, if_neg (by omega)]) (one_E1_0 s p hp hs w h h'  (by rw [wi_iff]; exact decide_eq_false w1))
    by_cases w2 : 2 < s.size - p ∧ 128 ≤ (s.get! (p + 2)).toNat ∧ (s.get! (p + 2)).toNat ≤ 191
    case neg => exact bad (by rw [hd, if_neg (by omega)]) (one_E1_1 s p hp hs w h h' (by rw [wi_iff]; exact decide_eq_true w1) (by rw [wi_iff]; exact decide_eq_false w2))
    rw [if_pos ⟨w1, w2⟩] at hd
    have c := one_E1_2 s p hp hs w h h' (by rw [wi_iff]; exact decide_eq_true w1) (by rw [wi_iff]; exact decide_eq_true w2)
    rw [hg] at c
    refine good _ _ hd (.inl (by decide)) ?_
    have ev : s[p].toNat % 16 * 64 ^ 2 + (s.get! (p + 1)).toNat % 64 * 64 ^ 1 + (s.get! (p + 2)).toNat % 64 * 64 ^ 0 = s[p].toNat % 16 * 4096 + (s.get! (p + 1)).toNat % 64 * 64 + (s.get! (p + 2)).toNat % 64 := by omega
    rw [ev] at c
    exact c
  · rw [dec_E2 _ _ _ _ _ hn hb1 hb2 hb3 ⟨h, h'⟩] at hd
    by_cases w1 : 1 < s.size - p ∧ 128 ≤ (s.get! (p + 1)).toNat ∧ (s.get! (p + 1)).toNat ≤ 191
    case neg => exact bad (by rw [hd, if_neg (by omega)]) (one_E2_0 s p hp hs w h h'  (by rw [wi_iff]; exact decide_eq_false w1))
    by_cases w2 : 2 < s.size - p ∧ 128 ≤ (s.get! (p + 2)).toNat ∧ (s.get! (p + 2)).toNat ≤ 191
    case neg => exact bad (by rw [hd, if_neg (by omega)]) (one_E2_1 s p hp hs w h h' (by rw [wi_iff]; exact decide_eq_true w1) (by rw [wi_iff]; exact decide_eq_false w2))
    rw [if_pos ⟨w1, w2⟩] at hd
    have c := one_E2_2 s p hp hs w h h' (by rw [wi_iff]; exact decide_eq_true w1) (by rw [wi_iff]; exact decide_eq_true w2)
    rw [hg] at c
    refine good _ _ hd (.inl (by decide)) ?_
    have ev : s[p].toNat % 16 * 64 ^ 2 + (s.get! (p + 1)).toNat % 64 * 64 ^ 1 + (s.get! (p + 2)).toNat % 64 * 64 ^ 0 = s[p].toNat % 16 * 4096 + (s.get! (p + 1)).toNat % 64 * 64 + (s.get! (p + 2)).toNat % 64 := by omega
    rw [ev] at c
    exact c
  · rw [dec_ED _ _ _ _ _ hn hb1 hb2 hb3 h] at hd
    by_cases w1 : 1 < s.size - p ∧ 128 ≤ (s.get! (p + 1)).toNat ∧ (s.get! (p + 1)).toNat ≤ 159
    case neg => exact bad (by rw [hd, if_neg (by omega)]) (one_ED_0 s p hp hs w h  (by rw [wi_iff]; exact decide_eq_false w1))
    by_cases w2 : 2 < s.size - p ∧ 128 ≤ (s.get! (p + 2)).toNat ∧ (s.get! (p + 2)).toNat ≤ 191
    case neg => exact bad (by rw [hd, if_neg (by omega)]) (one_ED_1 s p hp hs w h (by rw [wi_iff]; exact decide_eq_true w1) (by rw [wi_iff]; exact decide_eq_false w2))
    rw [if_pos ⟨w1, w2⟩] at hd
    have c := one_ED_2 s p hp hs w h (by rw [wi_iff]; exact decide_eq_true w1) (by rw [wi_iff]; exact decide_eq_true w2)
    rw [hg] at c
    refine good _ _ hd (.inl (by decide)) ?_
    have ev : s[p].toNat % 16 * 64 ^ 2 + (s.get! (p + 1)).toNat % 64 * 64 ^ 1 + (s.get! (p + 2)).toNat % 64 * 64 ^ 0 = s[p].toNat % 16 * 4096 + (s.get! (p + 1)).toNat % 64 * 64 + (s.get! (p + 2)).toNat % 64 := by omega
    rw [ev] at c
    exact c
  · rw [dec_F0 _ _ _ _ _ hn hb1 hb2 hb3 h] at hd
    by_cases w1 : 1 < s.size - p ∧ 144 ≤ (s.get! (p + 1)).toNat ∧ (s.get! (p + 1)).toNat ≤ 191
    case neg => exact bad (by rw [hd, if_neg (by omega)]) (one_F0_0 s p hp hs w h  (by rw [wi_iff]; exact decide_eq_false w1))
    by_cases w2 : 2 < s.size - p ∧ 128 ≤ (s.get! (p + 2)).toNat ∧ (s.get! (p + 2)).toNat ≤ 191
    case neg => exact bad (by rw [hd, if_neg (by omega)]) (one_F0_1 s p hp hs w h (by rw [wi_iff]; exact decide_eq_true w1) (by rw [wi_iff]; exact decide_eq_false w2))
    by_cases w3 : 3 < s.size - p ∧ 128 ≤ (s.get! (p + 3)).toNat ∧ (s.get! (p + 3)).toNat ≤ 191
    case neg => exact bad (by rw [hd, if_neg (by omega)]) (one_F0_2 s p hp hs w h (by rw [wi_iff]; exact decide_eq_true w1) (by rw [wi_iff]; exact decide_eq_true w2) (by rw [wi_iff]; exact decide_eq_false w3))
    rw [if_pos ⟨w1, w2, w3⟩] at hd
    have c := one_F0_3 s p hp hs w h (by rw [wi_iff]; exact decide_eq_true w1) (by rw [wi_iff]; exact decide_eq_true w2) (by rw [wi_iff]; exact decide_eq_true w3)
    rw [hg] at c
    refine good _ _ hd (.inl (by decide)) ?_
    have ev : s[p].toNat % 8 * 64 ^ 3 + (s.get! (p + 1)).toNat % 64 * 64 ^ 2 + (s.get! (p + 2)).toNat % 64 * 64 ^ 1 + (s.get! (p + 3)).toNat % 64 * 64 ^ 0 = s[p].toNat % 8 * 262144 + (s.get! (p + 1)).toNat % 64 * 4096 + (s.get! (p + 2)).toNat % 64 * 64 + (s.get! (p + 3)).toNat % 64 := by omega
    rw [ev] at c
    exact c
  · rw [dec_F1 _ _ _ _ _ hn hb1 hb2 hb3 ⟨h, h'⟩] at hd
    by_cases w1 : 1 < s.size - p ∧ 128 ≤ (s.get! (p + 1)).toNat ∧ (s.get! (p + 1)).toNat ≤ 191
    case neg => exact bad (by rw [hd, if_neg (by omega)]) (one_F1_0 s p hp hs w h h'  (by rw [wi_iff]; exact decide_eq_false w1))
    by_cases w2 : 2 < s.size - p ∧ 128 ≤ (s.get! (p + 2)).toNat ∧ (s.get! (p + 2)).toNat ≤ 191
    case neg => exact bad (by rw [hd, if_neg (by omega)]) (one_F1_1 s p hp hs w h h' (by rw [wi_iff]; exact decide_eq_true w1) (by rw [wi_iff]; exact decide_eq_false w2))
    by_cases w3 : 3 < s.size - p ∧ 128 ≤ (s.get! (p + 3)).toNat ∧ (s.get! (p + 3)).toNat ≤ 191
    case neg => exact bad (by rw [hd, if_neg (by omega)]) (one_F1_2 s p hp hs w h h' (by rw [wi_iff]; exact decide_eq_true w1) (by rw [wi_iff]; exact decide_eq_true w2) (by rw [wi_iff]; exact decide_eq_false w3))
    rw [if_pos ⟨w1, w2, w3⟩] at hd
    have c := one_F1_3 s p hp hs w h h' (by rw [wi_iff]; exact decide_eq_true w1) (by rw [wi_iff]; exact decide_eq_true w2) (by rw [wi_iff]; exact decide_eq_true w3)
    rw [hg] at c
    refine good _ _ hd (.inl (by decide)) ?_
    have ev : s[p].toNat % 8 * 64 ^ 3 + (s.get! (p + 1)).toNat % 64 * 64 ^ 2 + (s.get! (p + 2)).toNat % 64 * 64 ^ 1 + (s.get! (p + 3)).toNat % 64 * 64 ^ 0 = s[p].toNat % 8 * 262144 + (s.get! (p + 1)).toNat % 64 * 4096 + (s.get! (p + 2)).toNat % 64 * 64 + (s.get! (p + 3)).toNat % 64 := by omega
    rw [ev] at c
    exact c
  · rw [dec_F4 _ _ _ _ _ hn hb1 hb2 hb3 h] at hd
    by_cases w1 : 1 < s.size - p ∧ 128 ≤ (s.get! (p + 1)).toNat ∧ (s.get! (p + 1)).toNat ≤ 143
    case neg => exact bad (by rw [hd, if_neg (by omega)]) (one_F4_0 s p hp hs w h  (by rw [wi_iff]; exact decide_eq_false w1))
    by_cases w2 : 2 < s.size - p ∧ 128 ≤ (s.get! (p + 2)).toNat ∧ (s.get! (p + 2)).toNat ≤ 191
    case neg => exact bad (by rw [hd, if_neg (by omega)]) (one_F4_1 s p hp hs w h (by rw [wi_iff]; exact decide_eq_true w1) (by rw [wi_iff]; exact decide_eq_false w2))
    by_cases w3 : 3 < s.size - p ∧ 128 ≤ (s.get! (p + 3)).toNat ∧ (s.get! (p + 3)).toNat ≤ 191
    case neg => exact bad (by rw [hd, if_neg (by omega)]) (one_F4_2 s p hp hs w h (by rw [wi_iff]; exact decide_eq_true w1) (by rw [wi_iff]; exact decide_eq_true w2) (by rw [wi_iff]; exact decide_eq_false w3))
    rw [if_pos ⟨w1, w2, w3⟩] at hd
    have c := one_F4_3 s p hp hs w h (by rw [wi_iff]; exact decide_eq_true w1) (by rw [wi_iff]; exact decide_eq_true w2) (by rw [wi_iff]; exact decide_eq_true w3)
    rw [hg] at c
    refine good _ _ hd (.inl (by decide)) ?_
    have ev : s[p].toNat % 8 * 64 ^ 3 + (s.get! (p + 1)).toNat % 64 * 64 ^ 2 + (s.get! (p + 2)).toNat % 64 * 64 ^ 1 + (s.get! (p + 3)).toNat % 64 * 64 ^ 0 = s[p].toNat % 8 * 262144 + (s.get! (p + 1)).toNat % 64 * 4096 + (s.get! (p + 2)).toNat % 64 * 64 + (s.get! (p + 3)).toNat % 64 := by omega
    rw [ev] at c
    exact c
end Go.Proofs.YtmeapijckncoeaaGreatDoor

namespace Go.Proofs.YtmeapijckncoeaaGreatDoor
set_option maxRecDepth 100000
open Go.RowKit Go.Deep Go.Joins Go.Lib

/-- May a part lead elsewhere? -/
def misB (p : ByteArray) : Bool := p.toList.isEmpty || (p.toList == [46]) || (p.toList == [46, 46])
def longB (p : ByteArray) : Bool := decide (255 < p.size)
theorem misleads_any (p : ByteArray) (w : World) :
    Calls Tryz.prog 96 #[.string p] w fun e w' => e = .returned (.bool (misB p)) ∧ w' = w := by
  have H : Hid (misB p = (p.toList.isEmpty || (p.toList == [46]) || (p.toList == [46, 46]))) := rfl
  cases h1 : p.toList.isEmpty with
  | true =>
    go_enter Tryz.func96, Tryz.ntmps96
    go_wp2
    go_ret
    rw [H.out, h1]
    exact ⟨rfl, rfl⟩
  | false =>
    cases h2 : (p.toList == [46]) with
    | true =>
      go_enter Tryz.func96, Tryz.ntmps96
      go_wp2
      go_ret
      rw [H.out, h1, h2]
      exact ⟨rfl, rfl⟩
    | false =>
      cases h3 : (p.toList == [46, 46]) with
      | true =>
        go_enter Tryz.func96, Tryz.ntmps96
        go_wp2
        go_ret
        rw [H.out, h1, h2, h3]
        exact ⟨rfl, rfl⟩
      | false =>
        go_enter Tryz.func96, Tryz.ntmps96
        go_wp2
        go_ret
        rw [H.out, h1, h2, h3]
        exact ⟨rfl, rfl⟩
theorem long_any (p : ByteArray) (w : World) :
    Calls Tryz.prog 97 #[.string p] w fun e w' => e = .returned (.bool (longB p)) ∧ w' = w := by
  have H : Hid (longB p = decide (255 < p.size)) := rfl
  generalize hn : p.size = n at *
  by_cases h : 255 < n
  · have h1 : decide ((255 : Int) < (n : Int)) = true := decide_eq_true (by omega)
    go_enter Tryz.func97, Tryz.ntmps97
    go_wp2
    go_ret
    rw [H.out, decide_eq_true h]
    exact ⟨rfl, rfl⟩
  · have h1 : decide ((255 : Int) < (n : Int)) = false := decide_eq_false (by omega)
    go_enter Tryz.func97, Tryz.ntmps97
    go_wp2
    go_ret
    rw [H.out, decide_eq_false h]
    exact ⟨rfl, rfl⟩

/-! ### parts -/
def pcs (s : ByteArray) : List ByteArray := splitB ⟨#[47]⟩ 0 (countB s ⟨#[47]⟩) s
/-- The parts, as texts. -/
def pts (s : ByteArray) : List ByteArray := if s.toList.isEmpty = true then [] else pcs s
theorem isEmpty_nums (s : ByteArray) : s.toList.isEmpty = true ↔ nums s = [] := by
  rw [Lib.toList_data, List.isEmpty_iff]
  unfold nums
  simp
theorem pts_nums (s : ByteArray) : (pts s).map nums = partsL (nums s) := by
  unfold pts partsL
  by_cases h : s.toList.isEmpty = true
  · rw [if_pos h, if_pos ((isEmpty_nums s).1 h)]; rfl
  · rw [if_neg h, if_neg (fun e => h ((isEmpty_nums s).2 e))]
    exact split_nums s
theorem pcs_length (s : ByteArray) : (pcs s).length = countB s ⟨#[47]⟩ + 1 := splitB_all ⟨#[47]⟩ (by decide) 0 _ s rfl
theorem pcs_le (s : ByteArray) : (pcs s).length ≤ s.size + 1 := by
  rw [pcs_length]
  have := countB_le ⟨#[47]⟩ (by decide) s.size s (Nat.le_refl _)
  omega
/-- A slice of texts. -/
def IsPts (w : World) (v : Value) (ss : List ByteArray) : Prop :=
  (ss = [] ∧ v = .slice none 0 0) ∨ (0 < ss.length ∧ ∃ b, v = .slice (some ⟨b, 0, none⟩) ss.length ss.length ∧ b < w.heap.size ∧ ∀ (j : Nat) x, ss[j]? = some x → w.cell? ⟨b, 0 + j, none⟩ = some (.string x))
theorem IsPts.below {w w' : World} {v : Value} {ss : List ByteArray} (h : IsPts w v ss) (hb : Below w.heap.size w w') : IsPts w' v ss := by
  rcases h with h | ⟨h0, b, h1, h2, h3⟩
  · exact .inl h
  · exact .inr ⟨h0, b, h1, Nat.lt_of_lt_of_le h2 hb.size, fun j x hj => (hb.cell (p := ⟨b, 0 + j, none⟩) h2).trans (h3 j x hj)⟩
theorem parts_any (s : ByteArray) (w : World) (hs : s.size < 4294967281) (hE : Env w) :
    Calls Tryz.prog 93 #[.string s] w fun e w' => ∃ v, e = .returned v ∧ IsPts w' v (pts s) ∧ Below w.heap.size w w' := by
  obtain ⟨_, m, hm⟩ := hE
  have HS := Lib.hid (sh_strings_Split s ⟨#[47]⟩ m w hs hm (by decide))
  cases he : s.toList.isEmpty with
  | true =>
    go_enter Tryz.func93, Tryz.ntmps93
    go_wp2
    go_ret
    refine ⟨_, rfl, .inl ⟨?_, rfl⟩, Below.refl _ _⟩
    unfold pts
    rw [he]; rfl
  | false =>
    have HP : Hid (pts s = pcs s) := by show _ = _; unfold pts; rw [he]; rfl
    have HL := Lib.hid (pcs_length s)
    go_enter Tryz.func93, Tryz.ntmps93
    go_wp2_with fail
    refine (HS.out).mono ?_
    rintro e w1 ⟨rfl, rfl⟩
    go_wp2
    go_ret
    refine ⟨.slice (some ⟨w.heap.size, 0, none⟩) (countB s ⟨#[47]⟩ + 1) (countB s ⟨#[47]⟩ + 1), rfl, ?_, (Below.refl _ _).alloc (Nat.le_refl _) _⟩
    rw [HP.out]
    refine .inr ⟨by rw [HL.out]; omega, w.heap.size, by rw [HL.out], by simp, fun j x hj => ?_⟩
    rw [Nat.zero_add, Lib.cell_of_heap (heap_alloc_new w _)]
    show (((pcs s).map Value.string).toArray)[j]? = _
    rw [List.getElem?_toArray, List.getElem?_map, hj]
    rfl

theorem anyOf (g : Nat) (p : ByteArray → Bool) (eg : ∀ args w, (callFunc g args).run Tryz.prog w = .ok (.enter g args) w) (hg : ∀ x w, Calls Tryz.prog g #[.string x] w fun e w' => e = .returned (.bool (p x)) ∧ w' = w) (v : Value) (ss : List ByteArray) (w : World) (h : IsPts w v ss) (hl : ss.length ≤ 9223372036854775807) :
    Calls Tryz.prog 95 #[v, .func (.func g) #[] #[]] w fun e w' => e = .returned (.bool (ss.any p)) ∧ ∃ q, w' = w.drewN q := by
  rcases h with ⟨rfl, rfl⟩ | ⟨h0, b, rfl, h2, h3⟩
  · refine (sh_slices_ContainsFunc_empty (α := ByteArray) none 0 _ w).mono ?_
    rintro e w' ⟨rfl, rfl⟩
    exact ⟨rfl, 0, rfl⟩
  · have h4 := sh_slices_ContainsFunc Value.string p g #[] eg b 0 ss.length ss.length ss w (fun W x _ => (hg x W).mono fun e w' h => ⟨h.1, 0, h.2⟩) (Nat.le_refl _) hl (fun j hj => by
      rw [h3 j ss[j] (List.getElem?_eq_getElem hj), getElem!_pos ss j hj])
    rw [List.take_length] at h4
    exact h4

/-- What is wrong with a path on a disk: 0: nothing. -/
def harmN (s : ByteArray) : Int := if badB s || ((pts s).length == 0) || (pts s).any misB then 21 else if decide (32 < (pts s).length) || (pts s).any longB then 5 else 0
set_option maxHeartbeats 4000000 in
theorem harmless_any (s : ByteArray) (w : World) (hs : s.size < 4294967281) (hE : Env w) :
    Calls Tryz.prog 78 #[.string s] w fun e w' => e = .returned (.int .i64 (harmN s)) ∧ Below w.heap.size w w' := by
  have HP := Lib.hid (parts_any s w hs hE)
  have HC := Lib.hid (fun w => containsAny_any s w hs)
  have hpl : (pts s).length ≤ 4294967282 := by
    unfold pts
    split
    · simp
    · have := pcs_le s; omega
  have HA1 := Lib.hid (fun v w h => anyOf 96 misB (enters_of Tryz.func96 (by kernel_rfl) rfl) misleads_any v (pts s) w h (by omega))
  have HA2 := Lib.hid (fun v w h => anyOf 97 longB (enters_of Tryz.func97 (by kernel_rfl) rfl) long_any v (pts s) w h (by omega))
  have HH : Hid (harmN s = if badB s || ((pts s).length == 0) || (pts s).any misB then 21 else if decide (32 < (pts s).length) || (pts s).any longB then 5 else 0) := rfl
  generalize (pts s).any misB = mis at *
  generalize (pts s).any longB = lon at *
  have HLP : Hid (∀ w v, IsPts w v (pts s) → ∃ a, v = .slice a (pts s).length (pts s).length) := fun w v h => by
    rcases h with ⟨h1, h2⟩ | ⟨_, b, h1, _⟩
    · exact ⟨none, by rw [h1]; exact h2⟩
    · exact ⟨_, h1⟩
  generalize pts s = ss at *
  generalize badB s = bad at *
  cases bad with
  | true =>
    go_enter Tryz.func78, Tryz.ntmps78
    go_wp2_with fail
    refine (HP.out).mono ?_
    rintro e w1 ⟨v, rfl, hv, hb1⟩
    obtain ⟨a, rfl⟩ := HLP.out _ _ hv
    have HB1 := Lib.hid hb1
    clear hv hb1
    go_wp2_with fail
    refine (HC.out _).mono ?_
    rintro e w2 ⟨rfl, hb2⟩
    have HB2 := Lib.hid (below_then HB1.out hb2)
    clear hb2
    go_wp2_with fail
    go_ret
    rw [HH.out]
    exact ⟨rfl, HB2.out⟩
  | false =>
    by_cases h0 : ss.length = 0
    · have g0 : ((ss.length : Int) == 0) = true := by rw [beq_iff_eq]; omega
      have H0 : Hid ((ss.length == 0) = true) := by show _ = _; rw [beq_iff_eq]; exact h0
      clear h0
      go_enter Tryz.func78, Tryz.ntmps78
      go_wp2_with fail
      refine (HP.out).mono ?_
      rintro e w1 ⟨v, rfl, hv, hb1⟩
      obtain ⟨a, rfl⟩ := HLP.out _ _ hv
      have HV := Lib.hid hv
      have HB1 := Lib.hid hb1
      clear hv hb1
      go_wp2_with fail
      refine (HC.out _).mono ?_
      rintro e w2 ⟨rfl, hb2⟩
      have HV2 := Lib.hid (HV.out.below hb2)
      have HB2 := Lib.hid (below_then HB1.out hb2)
      clear hb2
      go_wp2_with fail
      go_ret
      rw [HH.out, H0.out]
      exact ⟨rfl, HB2.out⟩
    · have g0 : ((ss.length : Int) == 0) = false := by rw [beq_eq_false_iff_ne]; omega
      have H0 : Hid ((ss.length == 0) = false) := by show _ = _; rw [beq_eq_false_iff_ne]; exact h0
      clear h0
      cases mis with
      | true =>
        go_enter Tryz.func78, Tryz.ntmps78
        go_wp2_with fail
        refine (HP.out).mono ?_
        rintro e w1 ⟨v, rfl, hv, hb1⟩
        obtain ⟨a, rfl⟩ := HLP.out _ _ hv
        have HV := Lib.hid hv
        have HB1 := Lib.hid hb1
        clear hv hb1
        go_wp2_with fail
        refine (HC.out _).mono ?_
        rintro e w2 ⟨rfl, hb2⟩
        have HV2 := Lib.hid (HV.out.below hb2)
        have HB2 := Lib.hid (below_then HB1.out hb2)
        clear hb2
        go_wp2_with fail
        refine (HA1.out _ _ HV2.out).mono ?_
        rintro e w3 ⟨rfl, hq⟩
        have HB3 : Hid (Below w.heap.size w w3) := by obtain ⟨q, rfl⟩ := hq; exact below_drewN HB2.out q
        have HV3 : Hid (IsPts w3 (.slice a ss.length ss.length) ss) := by obtain ⟨q, rfl⟩ := hq; exact HV2.out.below (below_drewN (Below.refl _ _) q)
        clear hq
        go_wp2_with fail
        go_ret
        rw [HH.out, H0.out]
        exact ⟨rfl, HB3.out⟩
      | false =>
        by_cases h32 : 32 < ss.length
        · have g32 : decide ((32 : Int) < (ss.length : Int)) = true := decide_eq_true (by omega)
          have H32 : Hid (decide (32 < ss.length) = true) := decide_eq_true h32
          clear h32
          go_enter Tryz.func78, Tryz.ntmps78
          go_wp2_with fail
          refine (HP.out).mono ?_
          rintro e w1 ⟨v, rfl, hv, hb1⟩
          obtain ⟨a, rfl⟩ := HLP.out _ _ hv
          have HV := Lib.hid hv
          have HB1 := Lib.hid hb1
          clear hv hb1
          go_wp2_with fail
          refine (HC.out _).mono ?_
          rintro e w2 ⟨rfl, hb2⟩
          have HV2 := Lib.hid (HV.out.below hb2)
          have HB2 := Lib.hid (below_then HB1.out hb2)
          clear hb2
          go_wp2_with fail
          refine (HA1.out _ _ HV2.out).mono ?_
          rintro e w3 ⟨rfl, hq⟩
          have HB3 : Hid (Below w.heap.size w w3) := by obtain ⟨q, rfl⟩ := hq; exact below_drewN HB2.out q
          have HV3 : Hid (IsPts w3 (.slice a ss.length ss.length) ss) := by obtain ⟨q, rfl⟩ := hq; exact HV2.out.below (below_drewN (Below.refl _ _) q)
          clear hq
          go_wp2_with fail
          go_ret
          rw [HH.out, H0.out, H32.out]
          exact ⟨rfl, HB3.out⟩
        · have g32 : decide ((32 : Int) < (ss.length : Int)) = false := decide_eq_false (by omega)
          have H32 : Hid (decide (32 < ss.length) = false) := decide_eq_false h32
          clear h32
          cases lon with
          | true =>
            go_enter Tryz.func78, Tryz.ntmps78
            go_wp2_with fail
            refine (HP.out).mono ?_
            rintro e w1 ⟨v, rfl, hv, hb1⟩
            obtain ⟨a, rfl⟩ := HLP.out _ _ hv
            have HV := Lib.hid hv
            have HB1 := Lib.hid hb1
            clear hv hb1
            go_wp2_with fail
            refine (HC.out _).mono ?_
            rintro e w2 ⟨rfl, hb2⟩
            have HV2 := Lib.hid (HV.out.below hb2)
            have HB2 := Lib.hid (below_then HB1.out hb2)
            clear hb2
            go_wp2_with fail
            refine (HA1.out _ _ HV2.out).mono ?_
            rintro e w3 ⟨rfl, hq⟩
            have HB3 : Hid (Below w.heap.size w w3) := by obtain ⟨q, rfl⟩ := hq; exact below_drewN HB2.out q
            have HV3 : Hid (IsPts w3 (.slice a ss.length ss.length) ss) := by obtain ⟨q, rfl⟩ := hq; exact HV2.out.below (below_drewN (Below.refl _ _) q)
            clear hq
            go_wp2_with fail
            refine (HA2.out _ _ HV3.out).mono ?_
            rintro e w4 ⟨rfl, hq⟩
            have HB4 : Hid (Below w.heap.size w w4) := by obtain ⟨q, rfl⟩ := hq; exact below_drewN HB3.out q
            clear hq
            go_wp2_with fail
            go_ret
            rw [HH.out, H0.out, H32.out]
            exact ⟨rfl, HB4.out⟩
          | false =>
            go_enter Tryz.func78, Tryz.ntmps78
            go_wp2_with fail
            refine (HP.out).mono ?_
            rintro e w1 ⟨v, rfl, hv, hb1⟩
            obtain ⟨a, rfl⟩ := HLP.out _ _ hv
            have HV := Lib.hid hv
            have HB1 := Lib.hid hb1
            clear hv hb1
            go_wp2_with fail
            refine (HC.out _).mono ?_
            rintro e w2 ⟨rfl, hb2⟩
            have HV2 := Lib.hid (HV.out.below hb2)
            have HB2 := Lib.hid (below_then HB1.out hb2)
            clear hb2
            go_wp2_with fail
            refine (HA1.out _ _ HV2.out).mono ?_
            rintro e w3 ⟨rfl, hq⟩
            have HB3 : Hid (Below w.heap.size w w3) := by obtain ⟨q, rfl⟩ := hq; exact below_drewN HB2.out q
            have HV3 : Hid (IsPts w3 (.slice a ss.length ss.length) ss) := by obtain ⟨q, rfl⟩ := hq; exact HV2.out.below (below_drewN (Below.refl _ _) q)
            clear hq
            go_wp2_with fail
            refine (HA2.out _ _ HV3.out).mono ?_
            rintro e w4 ⟨rfl, hq⟩
            have HB4 : Hid (Below w.heap.size w w4) := by obtain ⟨q, rfl⟩ := hq; exact below_drewN HB3.out q
            clear hq
            go_wp2_with fail
            go_ret
            rw [HH.out, H0.out, H32.out]
            exact ⟨rfl, HB4.out⟩
end Go.Proofs.YtmeapijckncoeaaGreatDoor

namespace Go.Proofs.YtmeapijckncoeaaGreatDoor
set_option maxRecDepth 100000
open Go.RowKit Go.Deep Go.Joins Go.Lib

/-- What is wrong with a name: 0: nothing. -/
def readN (s : ByteArray) : Int := if decide (65535 < s.size) then 5 else if s.toList.isEmpty || straysB s then 20 else 0
theorem readable_any (s : ByteArray) (w : World) :
    Calls Tryz.prog 76 #[.string s] w fun e w' => e = .returned (.int .i64 (readN s)) ∧ Below w.heap.size w w' := by
  have HS := Lib.hid (fun w => strays_any s w)
  have HR : Hid (readN s = if decide (65535 < s.size) then 5 else if s.toList.isEmpty || straysB s then 20 else 0) := rfl
  generalize straysB s = st at *
  by_cases h1 : 65535 < s.size
  · have g1 : decide ((65535 : Int) < (s.size : Int)) = true := decide_eq_true (by omega)
    have H1 : Hid (decide (65535 < s.size) = true) := decide_eq_true h1
    clear h1
    go_enter Tryz.func76, Tryz.ntmps76
    go_wp2
    go_ret
    rw [HR.out, H1.out]
    exact ⟨rfl, Below.refl _ _⟩
  · have g1 : decide ((65535 : Int) < (s.size : Int)) = false := decide_eq_false (by omega)
    have H1 : Hid (decide (65535 < s.size) = false) := decide_eq_false h1
    clear h1
    cases h2 : s.toList.isEmpty with
    | true =>
      go_enter Tryz.func76, Tryz.ntmps76
      go_wp2
      go_ret
      rw [HR.out, H1.out, h2]
      exact ⟨rfl, Below.refl _ _⟩
    | false =>
      cases st with
      | true =>
        go_enter Tryz.func76, Tryz.ntmps76
        go_wp2_with fail
        refine (HS.out _).mono ?_
        rintro e w1 ⟨rfl, hb⟩
        go_wp2
        go_ret
        rw [HR.out, H1.out, h2]
        exact ⟨rfl, hb⟩
      | false =>
        go_enter Tryz.func76, Tryz.ntmps76
        go_wp2_with fail
        refine (HS.out _).mono ?_
        rintro e w1 ⟨rfl, hb⟩
        go_wp2
        go_ret
        rw [HR.out, H1.out, h2]
        exact ⟨rfl, hb⟩

/-- A name's path. -/
def pathB (s : ByteArray) : ByteArray := ⟨(trimSuffix s.data.toList [47]).toArray⟩
def dirB (s : ByteArray) : Bool := hasSuffix s.data.toList [47]
/-- What Check answers. -/
def chkV (s : ByteArray) : ByteArray × Bool × Int :=
  if readN s ≠ 0 then (.empty, false, readN s) else if harmN (pathB s) ≠ 0 then (.empty, false, harmN (pathB s)) else (pathB s, dirB s, 0)
theorem readN_small {s : ByteArray} (h : readN s = 0) : s.size ≤ 65535 := by
  unfold readN at h
  by_cases h1 : 65535 < s.size
  · rw [decide_eq_true h1, if_pos rfl] at h
    exact absurd h (by decide)
  · omega
theorem path_le (s : ByteArray) : (pathB s).size ≤ s.size := by
  unfold pathB trimSuffix
  split
  · show (List.toArray _).size ≤ _
    rw [List.size_toArray, List.length_take]
    rw [Lib.size_eq]
    omega
  · show (List.toArray _).size ≤ _
    rw [List.size_toArray, Lib.size_eq]
    exact Nat.le_refl _
set_option maxHeartbeats 4000000 in
theorem check_any (s : ByteArray) (w : World) (hs : s.size ≤ 9223372036854775807) (hE : Env w) :
    Calls Tryz.prog 52 #[.string s] w fun e w' => e = .returned (.tuple #[.string (chkV s).1, .bool (chkV s).2.1, .int .i64 (chkV s).2.2]) ∧ Below w.heap.size w w' := by
  have HRD := Lib.hid (fun w => readable_any s w)
  have HCS := Lib.hid (fun w => sh_strings_CutSuffix s ⟨#[47]⟩ w hs)
  have HE := Lib.hid hE
  have HSM := Lib.hid (fun h => readN_small (s := s) h)
  have HHA : Hid (readN s = 0 → ∀ w, Env w → _) := fun h w he => harmless_any (pathB s) w (by have := readN_small h; have := path_le s; omega) he
  have HV : Hid (chkV s = if readN s ≠ 0 then (.empty, false, readN s) else if harmN (pathB s) ≠ 0 then (.empty, false, harmN (pathB s)) else (pathB s, dirB s, 0)) := rfl
  have e1 : (⟨(trimSuffix s.data.toList (⟨#[47]⟩ : ByteArray).data.toList).toArray⟩ : ByteArray) = pathB s := rfl
  have e2 : hasSuffix s.data.toList (⟨#[47]⟩ : ByteArray).data.toList = dirB s := rfl
  rw [e1, e2] at HCS
  clear e1 e2 hs
  generalize readN s = rn at *
  generalize harmN (pathB s) = hn at *
  generalize pathB s = pb at *
  generalize dirB s = db at *
  by_cases h1 : rn = 0
  · subst h1
    have g1 : ((0 : Int) != 0) = false := rfl
    have HHB := Lib.hid (HHA.out rfl)
    clear HHA
    by_cases h2 : hn = 0
    · subst h2
      go_enter Tryz.func52, Tryz.ntmps52
      go_wp2_with fail
      refine (HRD.out _).mono ?_
      rintro e w1 ⟨rfl, hb1⟩
      have HE1 := Lib.hid (HE.out.below hb1)
      go_wp2_with fail
      refine (HCS.out _).mono ?_
      rintro e w2 ⟨rfl, rfl⟩
      go_wp2_with fail
      refine (HHB.out _ HE1.out).mono ?_
      rintro e w3 ⟨rfl, hb3⟩
      have HB3 := Lib.hid (below_then hb1 hb3)
      clear hb1 hb3
      go_wp2_with fail
      go_ret3
      rw [HV.out]
      exact ⟨rfl, HB3.out⟩
    · have g2 : (hn != 0) = true := by rw [bne_iff_ne]; exact h2
      have H2 := Lib.hid h2
      clear h2
      go_enter Tryz.func52, Tryz.ntmps52
      go_wp2_with fail
      refine (HRD.out _).mono ?_
      rintro e w1 ⟨rfl, hb1⟩
      have HE1 := Lib.hid (HE.out.below hb1)
      go_wp2_with fail
      refine (HCS.out _).mono ?_
      rintro e w2 ⟨rfl, rfl⟩
      go_wp2_with fail
      refine (HHB.out _ HE1.out).mono ?_
      rintro e w3 ⟨rfl, hb3⟩
      have HB3 := Lib.hid (below_then hb1 hb3)
      clear hb1 hb3
      go_wp2_with fail
      go_ret3
      rw [HV.out, if_neg (by decide), if_pos H2.out]
      exact ⟨rfl, HB3.out⟩
  · have g2 : (rn != 0) = true := by rw [bne_iff_ne]; exact h1
    have H2 := Lib.hid h1
    clear h1 HHA
    go_enter Tryz.func52, Tryz.ntmps52
    go_wp2_with fail
    refine (HRD.out _).mono ?_
    rintro e w1 ⟨rfl, hb1⟩
    have HB1 := Lib.hid hb1
    clear hb1
    go_wp2_with fail
    go_ret3
    rw [HV.out, if_pos H2.out]
    exact ⟨rfl, HB1.out⟩

theorem chk_ab : chkV ⟨#[97, 47, 98, 47]⟩ = (⟨#[97, 47, 98]⟩, true, 0) := by kernel_rfl
theorem ord_ab : ordT ⟨#[97, 47, 98]⟩ ⟨#[97, 45, 98]⟩ = -1 := by kernel_rfl
end Go.Proofs.YtmeapijckncoeaaGreatDoor
