/-
  Contracts: numbers as bytes, both ways, of the program and of the document.
-/
import Derived.Test.YtlojhklhhdgkcaaBytesMath
import Derived.Laws.IdiomStrings
import Derived.Laws.BytesArg
import Derived.Lib.SmallJoins
import Derived.Deep.AppendLies
namespace Go.Proofs.Ytlojhklhhdgkcaa
set_option maxRecDepth 100000
open Go.RowKit Go.Joins

theorem of_lt (n : Nat) (hn : n < 18446744073709551616) (m : Nat) (hm : m ≤ 64) (w : World) :
    Calls Try.prog 32 #[.int .u64 n, .int .i64 m] w fun e w' => e = .returned (.string (text (le n m))) ∧ Below w.heap.size w w' := by
  obtain ⟨i0, hi, hz0, hz1, hz2⟩ := info_parts info8
  go_enter Try.func32, Try.ntmps32
  go_wp2
  go_loopw [0, 5, 8] (fun x v i wr => ∃ k : Nat, k ≤ m ∧ i = .int .i64 k ∧ x = .int .u64 (n / 256 ^ k : Nat) ∧ wr.ownsRow w.heap.size 5 1 v k (cells8 (le n k)) ∧ Below w.heap.size w wr) (fun _ _ i _ => m - (intOf i).toNat)
  case atStart => exact ⟨0, Nat.zero_le _, rfl, by simp, World.ownsRow_nil _ _ _ _, Below.refl _ _⟩
  case round =>
    obtain ⟨k, hk, rfl, rfl, hown, hbel⟩ := hrel
    have HO := Lib.hid hown
    have HB := Lib.hid hbel
    clear hown hbel
    have hdl : n / 256 ^ k < 18446744073709551616 := Nat.lt_of_le_of_lt (Nat.div_le_self _ _) hn
    generalize hq : n / 256 ^ k = q at hdl
    have HQ := Lib.hid hq
    clear hq
    by_cases hlt : k < m
    · go_wp2_with (at_builtin; refine wpList_append_own _ rfl (.tmp 10) (.tmp 13) _ rfl w.heap.size 5 i0 (.int .u8 0) 1 1 Try.underlying33 hi hz0 hz1 hz2 rfl (by decide) _ k (cells8 (le n k)) rfl (HO.out.alloc _) ⟨wr.heap.size, 0, none⟩ 1 1 [.int .u8 ((q : Int) % 256)] rfl rfl ?c1 ?c2 ?c3 ?c4 ?c5 ?_)
      case c1 => exact cell_one_new _ _ _
      case c2 => intro u hu; simp at hu; subst hu; rfl
      case c3 => unfold maxLen; omega
      case c4 => omega
      case c5 => have := HB.out.size; simp; omega
      · intro v' w1 hown' hgrow _
        have HO1 := Lib.hid hown'
        have HG1 := Lib.hid hgrow
        clear hown' hgrow
        go_wp2
        go_roundw
        case rel =>
          refine ⟨k + 1, by omega, by go_num, ?_, ?_, ?_⟩
          · rw [Nat.pow_succ, ← Nat.div_div_eq_div_mul, HQ.out]
            go_num
          · have h := HO1.out
            rw [show cells8 (le n (k + 1)) = cells8 (le n k) ++ [.int .u8 ((q : Int) % 256)] from by
              unfold cells8
              rw [le, List.map_append, HQ.out]
              rfl]
            exact h
          · exact (HB.out.alloc HB.out.size _).grown HG1.out (by have := HB.out.size; simp; omega) (fun k hk => by
              have := HO.out.lt k hk
              omega)
        case measure => simp [intOf]; omega
    · obtain rfl : k = m := by omega
      have hcv := string_of_own HO.out (le_lt n _)
      go_wp2
      go_ret
      exact ⟨rfl, HB.out⟩

theorem of_ge (n : Nat) (hn : n < 18446744073709551616) (c : Int) (h1 : 64 < c) (w : World) :
    Calls Try.prog 32 #[.int .u64 n, .int .i64 c] w fun e w' => e = .returned (.string (text (le n 64))) ∧ Below w.heap.size w w' := by
  obtain ⟨i0, hi, hz0, hz1, hz2⟩ := info_parts info8
  go_enter Try.func32, Try.ntmps32
  go_wp2
  go_loopw [0, 5, 8] (fun x v i wr => ∃ k : Nat, k ≤ 64 ∧ i = .int .i64 k ∧ x = .int .u64 (n / 256 ^ k : Nat) ∧ wr.ownsRow w.heap.size 5 1 v k (cells8 (le n k)) ∧ Below w.heap.size w wr) (fun _ _ i _ => 64 - (intOf i).toNat)
  case atStart => exact ⟨0, Nat.zero_le _, rfl, by simp, World.ownsRow_nil _ _ _ _, Below.refl _ _⟩
  case round =>
    obtain ⟨k, hk, rfl, rfl, hown, hbel⟩ := hrel
    have HO := Lib.hid hown
    have HB := Lib.hid hbel
    clear hown hbel
    have hdl : n / 256 ^ k < 18446744073709551616 := Nat.lt_of_le_of_lt (Nat.div_le_self _ _) hn
    generalize hq : n / 256 ^ k = q at hdl
    have HQ := Lib.hid hq
    clear hq
    by_cases hlt : k < 64
    · go_wp2_with (at_builtin; refine wpList_append_own _ rfl (.tmp 10) (.tmp 13) _ rfl w.heap.size 5 i0 (.int .u8 0) 1 1 Try.underlying33 hi hz0 hz1 hz2 rfl (by decide) _ k (cells8 (le n k)) rfl (HO.out.alloc _) ⟨wr.heap.size, 0, none⟩ 1 1 [.int .u8 ((q : Int) % 256)] rfl rfl ?c1 ?c2 ?c3 ?c4 ?c5 ?_)
      case c1 => exact cell_one_new _ _ _
      case c2 => intro u hu; simp at hu; subst hu; rfl
      case c3 => unfold maxLen; omega
      case c4 => omega
      case c5 => have := HB.out.size; simp; omega
      · intro v' w1 hown' hgrow _
        have HO1 := Lib.hid hown'
        have HG1 := Lib.hid hgrow
        clear hown' hgrow
        go_wp2
        go_roundw
        case rel =>
          refine ⟨k + 1, by omega, by go_num, ?_, ?_, ?_⟩
          · rw [Nat.pow_succ, ← Nat.div_div_eq_div_mul, HQ.out]
            go_num
          · have h := HO1.out
            rw [show cells8 (le n (k + 1)) = cells8 (le n k) ++ [.int .u8 ((q : Int) % 256)] from by
              unfold cells8
              rw [le, List.map_append, HQ.out]
              rfl]
            exact h
          · exact (HB.out.alloc HB.out.size _).grown HG1.out (by have := HB.out.size; simp; omega) (fun k hk => by
              have := HO.out.lt k hk
              omega)
        case measure => simp [intOf]; omega
    · obtain rfl : k = 64 := by omega
      have hcv := string_of_own HO.out (le_lt n _)
      go_wp2
      go_ret
      exact ⟨rfl, HB.out⟩

theorem of_neg (n : Nat) (c : Int) (h1 : c < 0) (w : World) :
    Calls Try.prog 32 #[.int .u64 n, .int .i64 c] w fun e w' => e = .returned (.string (text [])) ∧ w = w' := by
  have hcv := run_convert_bytes_nil w 33 5 Try.underlying33 Try.underlying5 0 0 9 Try.underlying9
  go_enter Try.func32, Try.ntmps32
  go_wp2
  go_loop [0, 5, 8] (fun x v i => x = .int .u64 n ∧ v = .slice none 0 0 ∧ i = .int .i64 0) (fun _ _ _ => 0)
  case atStart => exact ⟨rfl, rfl, rfl⟩
  case round =>
    obtain ⟨rfl, rfl, rfl⟩ := hrel
    go_wp2
    go_ret
    exact ⟨rfl, rfl⟩

/-- Of: whatever the count. -/
theorem of_any (n : Nat) (hn : n < 18446744073709551616) (c : Int) (w : World) :
    Calls Try.prog 32 #[.int .u64 n, .int .i64 c] w fun e w' => e = .returned (.string (text (le n (min c 64).toNat))) ∧ Below w.heap.size w w' := by
  by_cases h0 : c < 0
  · rw [show (min c 64).toNat = 0 by omega]
    exact (of_neg n c h0 w).mono fun _ _ ⟨he, hw⟩ => ⟨he, hw ▸ Below.refl _ _⟩
  · by_cases h1 : 64 < c
    · rw [show (min c 64).toNat = 64 by omega]
      exact of_ge n hn c h1 w
    · obtain ⟨m, rfl⟩ := Int.eq_ofNat_of_zero_le (show 0 ≤ c by omega)
      rw [show (min (m : Int) 64).toNat = m by omega]
      exact of_lt n hn m (by omega) w

end Go.Proofs.Ytlojhklhhdgkcaa
