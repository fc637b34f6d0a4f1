/-
  Contract: tokens as the document's.
-/
import Derived.Test.YtblojfgbdmnccaaMatT
namespace Go.Proofs.Ytblojfgbdmnccaa
set_option maxRecDepth 100000
open Go.Joins Go.RowKit Go.Deep

theorem info_rtok3 : (Try.prog.info? 59).map (fun i => (i.zero, i.size, i.bytes)) = some (some (.agg #[.int .u8 0, .int .i64 0, .int .i64 0]), 3, 24) := by kernel_rfl
set_option maxHeartbeats 8000000 in
theorem to7_any (A : Option Addr) (n cap : Nat) (f : Nat → Tok) (w : World) (hT : Toks w A n f) (hn : n ≤ 100000) :
    Calls Try.prog 31 #[.slice A n cap] w fun e w' => ∃ A2 c2, e = .returned (.slice A2 n c2) ∧ Toks w' A2 n f ∧ Below w.heap.size w w' := by
  obtain ⟨i0, hi, hz0, hz1, hz2⟩ := info_parts info_rtok3
  have hit := info_tok
  have HT := Lib.hid hT
  clear hT
  go_enter Try.func31, Try.ntmps31
  go_wp2_with fail
  go_loopw [3, 8] (fun v i wr => ∃ k : Nat, k ≤ n ∧ i = .int .i64 (k : Nat) ∧ Hid (wr.ownsRow w.heap.size 59 3 v k (tokCells f k)) ∧ Hid (Below w.heap.size w wr)) (fun _ i _ => n - (intOf i).toNat)
  case atStart => exact ⟨0, Nat.zero_le _, rfl, World.ownsRow_nil _ _ _ _, Below.refl _ _⟩
  case round =>
    obtain ⟨k, hk, rfl, HO, HB⟩ := hrel
    have HTS : Hid (tokCells f (k + 1) = tokCells f k ++ cellT (f k)) := rfl
    obtain ⟨A2, cp2, rfl⟩ := row_slice' HO.out
    by_cases hkn : k < n
    · obtain ⟨b, off, rfl, hbl, hc⟩ := (HT.out.below (Nat.le_refl _) HB.out) (by omega)
      obtain ⟨hok, c0, c1, c2⟩ := hc k hkn
      clear hc hok
      generalize f k = T at *
      obtain ⟨tb, tl, td⟩ := T
      dsimp only at c0 c1 c2
      have hx5 := heap_alloc_new (wr.alloc (.cells #[.int .u8 (tb : Nat), .int .i64 tl, .int .i64 td] 56)) (.cells #[.int .u8 (tb : Nat), .int .i64 tl, .int .i64 td] 59)
      have hs4 : (wr.alloc (.cells #[.int .u8 (tb : Nat), .int .i64 tl, .int .i64 td] 56)).heap.size = wr.heap.size + 1 := by simp
      have hs5 : ((wr.alloc (.cells #[.int .u8 (tb : Nat), .int .i64 tl, .int .i64 td] 56)).alloc (.cells #[.int .u8 (tb : Nat), .int .i64 tl, .int .i64 td] 59)).heap.size = wr.heap.size + 2 := by simp
      have hb5 : Below w.heap.size w ((wr.alloc (.cells #[.int .u8 (tb : Nat), .int .i64 tl, .int .i64 td] 56)).alloc (.cells #[.int .u8 (tb : Nat), .int .i64 tl, .int .i64 td] 59)) := (HB.out.alloc HB.out.size _).alloc (by have := HB.out.size; simp; omega) _
      have ho5 := (HO.out.alloc (.cells #[.int .u8 (tb : Nat), .int .i64 tl, .int .i64 td] 56)).alloc (.cells #[.int .u8 (tb : Nat), .int .i64 tl, .int .i64 td] 59)
      rw [hs4] at hx5
      have HX5 := Lib.hid hx5
      have HS5 := Lib.hid hs5
      have HB5 := Lib.hid hb5
      have HO5 := Lib.hid ho5
      clear hx5 hs5 hs4 hb5 ho5
      go_wp2_with (at_builtin; go_must (refine wpList_append_own_at _ rfl (.tmp 12) (.tmp 14) _ rfl w.heap.size 59 i0 (.agg #[.int .u8 0, .int .i64 0, .int .i64 0]) 3 24 Try.underlying64 hi hz0 hz1 hz2 rfl (by decide) (.slice A2 k cp2) k _ rfl HO5.out ⟨wr.heap.size + 1, 0, none⟩ 1 1 [.int .u8 (tb : Nat), .int .i64 tl, .int .i64 td] rfl rfl (cells3 HX5.out) (cellT_one ⟨tb, tl, td⟩) (by unfold maxLen; omega) (by omega) (by have h1 := HB.out.size; have h3 := HS5.out; omega) ?_; intro v' w6 hown' hgrow hnil hloc; have HO6 := Lib.hid hown'; have HB6 := Lib.hid (HB5.out.grown hgrow (by have h1 := HB.out.size; have h3 := HS5.out; omega) (fun j hj => (HO.out.lt j hj).1)); clear hown' hgrow hnil hloc))
      go_roundw
      case rel =>
        refine ⟨k + 1, by omega, by go_num, ?_, HB6⟩
        show World.ownsRow _ _ _ _ _ _ _
        rw [HTS.out]
        exact HO6.out
      case measure => simp [intOf]; omega
    · obtain rfl : k = n := by omega
      have HTT := Lib.hid (toks_of_own HO.out (fun i hi => by
        obtain ⟨_, _, _, _, hc⟩ := HT.out (by omega)
        exact (hc i hi).1))
      go_wp2
      go_ret
      exact ⟨A2, cp2, rfl, HTT.out, HB.out⟩
end Go.Proofs.Ytblojfgbdmnccaa
