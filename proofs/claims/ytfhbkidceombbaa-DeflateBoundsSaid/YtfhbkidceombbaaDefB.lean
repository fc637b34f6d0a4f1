/-
  Layer 9: how many bytes tokens are (length).
-/
import Derived.Test.YtfhbkidceombbaaDefA
namespace Go.Proofs.Ytfhbkidceombbaa
set_option maxRecDepth 100000
open Go.RowKit Go.Joins Go.Deep

/-- How many bytes the first k tokens are. -/
def wsum (f : Nat → Tok) : Nat → Nat
  | 0 => 0
  | k + 1 => wsum f k + wdT (f k)
theorem wdT_le (t : Tok) : wdT t ≤ 258 := by
  unfold wdT
  cases h : rightT t with
  | false => rw [if_neg (by simp)]; omega
  | true =>
    rw [if_pos rfl]
    by_cases h0 : t.l = 0
    · rw [if_pos h0]; omega
    · obtain ⟨_, h1, h2, _⟩ := right_copy h h0
      rw [if_neg h0]; omega
theorem wdT_pos (t : Tok) : 1 ≤ wdT t := by
  unfold wdT
  cases h : rightT t with
  | false => rw [if_neg (by simp)]; omega
  | true =>
    rw [if_pos rfl]
    by_cases h0 : t.l = 0
    · rw [if_pos h0]; omega
    · obtain ⟨_, h1, h2, _⟩ := right_copy h h0
      rw [if_neg h0]; omega
theorem wsum_le (f : Nat → Tok) : ∀ k, wsum f k ≤ 258 * k
  | 0 => Nat.le_refl _
  | k + 1 => by
    have ih := wsum_le f k
    have h1 := wdT_le (f k)
    show wsum f k + wdT (f k) ≤ _
    omega
set_option maxHeartbeats 4000000 in
theorem dlength_any (A : Option Addr) (n cap : Nat) (f : Nat → Tok) (w : World) (hT : Toks w A n f) (hn : n ≤ 10000000) :
    Calls Try.prog 43 #[.slice A n cap] w fun e w' => e = .returned (.int .i64 (wsum f n : Nat)) ∧ Below w.heap.size w w' := by
  have hit := info_tok
  have HT := Lib.hid hT
  clear hT
  go_enter Try.func43, Try.ntmps43
  go_wp2_with fail
  go_loopw [3, 8] (fun v i wr => ∃ k : Nat, k ≤ n ∧ i = .int .i64 (k : Nat) ∧ v = .int .i64 (wsum f k : Nat) ∧ Hid (Below w.heap.size w wr)) (fun _ i _ => n - (intOf i).toNat)
  case atStart => exact ⟨0, Nat.zero_le _, rfl, rfl, Below.refl _ _⟩
  case round =>
    obtain ⟨k, hk, rfl, rfl, HB⟩ := hrel
    have hle := wsum_le f k
    by_cases hkn : k < n
    · obtain ⟨b, off, rfl, hbl, hc⟩ := (HT.out.below (Nat.le_refl _) HB.out) (by omega)
      obtain ⟨hok, c0, c1, c2⟩ := hc k hkn
      have HS := Lib.hid (show wsum f (k + 1) = wsum f k + wdT (f k) from rfl)
      have hw := wdT_le (f k)
      have HWD := Lib.hid (dwide_any (f k))
      have HBA := Lib.hid (HB.out.trans (((Below.refl wr.heap.size wr).alloc (Nat.le_refl _) (.cells #[.int .u8 ((f k).b : Nat), .int .i64 (f k).l, .int .i64 (f k).d] 43)).mono HB.out.size))
      clear hc
      generalize hF1 : wsum f (k + 1) = F1 at *
      have HF1 := Lib.hid hF1
      clear hF1
      generalize wsum f k = F0 at *
      generalize wdT (f k) = T at *
      generalize f k = U at *
      obtain ⟨tb, tl, td⟩ := U
      unfold valT at HWD
      dsimp only at *
      have htb := hok.1
      clear hok
      go_wp2_with fail
      (with_reducible refine (HWD.out _).mono ?_); rintro e w8 ⟨rfl, hb8⟩
      have HB8 := Lib.hid (HBA.out.trans (hb8.mono HBA.out.size))
      clear hb8
      go_wp2_with fail
      go_roundw
      case rel => exact ⟨k + 1, by omega, by go_num, by rw [HF1.out, HS.out]; go_num, HB8⟩
      case measure => simp [intOf]; omega
    · obtain rfl : k = n := by omega
      go_wp2_with fail
      go_ret
      exact ⟨rfl, HB.out⟩
end Go.Proofs.Ytfhbkidceombbaa
