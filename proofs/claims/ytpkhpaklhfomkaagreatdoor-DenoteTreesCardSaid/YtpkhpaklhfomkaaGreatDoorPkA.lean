/-
  Contracts: numbers as bytes, both ways, of the program and of the document.
  Contracts: what bytes are as a number, of the program and of the document; numbers in two, four, eight bytes.
  Contracts: the cursor's calls.
  Contracts: a cursor that is none; the chapter's examples.
  Contracts: the document's cursor.
  Texts as numbers; what a cursor takes where there is enough.
  Contracts of package field: through, owners.
-/
import Derived.Test.YtpkhpaklhfomkaaGreatDoorBytesMath
import Derived.Laws.IdiomStrings
import Derived.Laws.BytesArg
import Derived.Lib.SmallJoins
import Derived.Deep.AppendLies
import Derived.Deep.QuietTactic
import Derived.BigQuiet
import Derived.Deep.RegionWith

namespace Go.Proofs.YtpkhpaklhfomkaaGreatDoor
set_option maxRecDepth 100000
open Go.RowKit Go.Joins

theorem of_lt (n : Nat) (hn : n < 18446744073709551616) (m : Nat) (hm : m ≤ 64) (w : World) :
    Calls Tryz.prog 165 #[.int .u64 n, .int .i64 m] w fun e w' => e = .returned (.string (text (le n m))) ∧ Below w.heap.size w w' := by
  obtain ⟨i0, hi, hz0, hz1, hz2⟩ := info_parts info8
  go_enter Tryz.func165, Tryz.ntmps165
  go_wp2
  go_loopw [0, 5, 8] (fun x v i wr => ∃ k : Nat, k ≤ m ∧ i = .int .i64 k ∧ x = .int .u64 (n / 256 ^ k : Nat) ∧ wr.ownsRow w.heap.size 5 1 v k (cells8 (le n k)) ∧ Below w.heap.size w wr) (fun _ _ i _ => m - (intOf i).toNat)
  case atStart => exact ⟨0, Nat.zero_le _, rfl, by simp, World.ownsRow_nil _ _ _ _, Below.refl _ _⟩
  case round =>
    obtain ⟨k, hk, rfl, rfl, hown, hbel⟩ := hrel
    have HO := Lib.hid hown
    have HB := Lib.hid hbel
    clear hown hbel
    have hdl : n / 256 ^ k < 18446744073709551616 := Nat.lt_of_le_of_lt (Nat.div_le_self _ _) hn
    generalize hq : n / 256 ^ k = q at hdl
    have HQ := Lib.hid hq
    clear hq
    by_cases hlt : k < m
    · go_wp2_with (at_builtin; refine wpList_append_own _ rfl (.tmp 10) (.tmp 13) _ rfl w.heap.size 5 i0 (.int .u8 0) 1 1 Tryz.underlying74 hi hz0 hz1 hz2 rfl (by decide) _ k (cells8 (le n k)) rfl (HO.out.alloc _) ⟨wr.heap.size, 0, none⟩ 1 1 [.int .u8 ((q : Int) % 256)] rfl rfl ?c1 ?c2 ?c3 ?c4 ?c5 ?_)
      case c1 => exact cell_one_new _ _ _
      case c2 => intro u hu; simp at hu; subst hu; rfl
      case c3 => unfold maxLen; omega
      case c4 => omega
      case c5 => have := HB.out.size; simp; omega
      · intro v' w1 hown' hgrow _
        have HO1 := Lib.hid hown'
        have HG1 := Lib.hid hgrow
        clear hown' hgrow
        go_wp2
        go_roundw
        case rel =>
          refine ⟨k + 1, by omega, by go_num, ?_, ?_, ?_⟩
          · rw [Nat.pow_succ, ← Nat.div_div_eq_div_mul, HQ.out]
            go_num
          · have h := HO1.out
            rw [show cells8 (le n (k + 1)) = cells8 (le n k) ++ [.int .u8 ((q : Int) % 256)] from by
              unfold cells8
              rw [le, List.map_append, HQ.out]
              rfl]
            exact h
          · exact (HB.out.alloc HB.out.size _).grown HG1.out (by have := HB.out.size; simp; omega) (fun k hk => by
              have := HO.out.lt k hk
              omega)
        case measure => simp [intOf]; omega
    · obtain rfl : k = m := by omega
      have hcv := string_of_own HO.out (le_lt n _)
      go_wp2
      go_ret
      exact ⟨rfl, HB.out⟩

theorem of_ge (n : Nat) (hn : n < 18446744073709551616) (c : Int) (h1 : 64 < c) (w : World) :
    Calls Tryz.prog 165 #[.int .u64 n, .int .i64 c] w fun e w' => e = .returned (.string (text (le n 64))) ∧ Below w.heap.size w w' := by
  obtain ⟨i0, hi, hz0, hz1, hz2⟩ := info_parts info8
  go_enter Tryz.func165, Tryz.ntmps165
  go_wp2
  go_loopw [0, 5, 8] (fun x v i wr => ∃ k : Nat, k ≤ 64 ∧ i = .int .i64 k ∧ x = .int .u64 (n / 256 ^ k : Nat) ∧ wr.ownsRow w.heap.size 5 1 v k (cells8 (le n k)) ∧ Below w.heap.size w wr) (fun _ _ i _ => 64 - (intOf i).toNat)
  case atStart => exact ⟨0, Nat.zero_le _, rfl, by simp, World.ownsRow_nil _ _ _ _, Below.refl _ _⟩
  case round =>
    obtain ⟨k, hk, rfl, rfl, hown, hbel⟩ := hrel
    have HO := Lib.hid hown
    have HB := Lib.hid hbel
    clear hown hbel
    have hdl : n / 256 ^ k < 18446744073709551616 := Nat.lt_of_le_of_lt (Nat.div_le_self _ _) hn
    generalize hq : n / 256 ^ k = q at hdl
    have HQ := Lib.hid hq
    clear hq
    by_cases hlt : k < 64
    · go_wp2_with (at_builtin; refine wpList_append_own _ rfl (.tmp 10) (.tmp 13) _ rfl w.heap.size 5 i0 (.int .u8 0) 1 1 Tryz.underlying74 hi hz0 hz1 hz2 rfl (by decide) _ k (cells8 (le n k)) rfl (HO.out.alloc _) ⟨wr.heap.size, 0, none⟩ 1 1 [.int .u8 ((q : Int) % 256)] rfl rfl ?c1 ?c2 ?c3 ?c4 ?c5 ?_)
      case c1 => exact cell_one_new _ _ _
      case c2 => intro u hu; simp at hu; subst hu; rfl
      case c3 => unfold maxLen; omega
      case c4 => omega
      case c5 => have := HB.out.size; simp; omega
      · intro v' w1 hown' hgrow _
        have HO1 := Lib.hid hown'
        have HG1 := Lib.hid hgrow
        clear hown' hgrow
        go_wp2
        go_roundw
        case rel =>
          refine ⟨k + 1, by omega, by go_num, ?_, ?_, ?_⟩
          · rw [Nat.pow_succ, ← Nat.div_div_eq_div_mul, HQ.out]
            go_num
          · have h := HO1.out
            rw [show cells8 (le n (k + 1)) = cells8 (le n k) ++ [.int .u8 ((q : Int) % 256)] from by
              unfold cells8
              rw [le, List.map_append, HQ.out]
              rfl]
            exact h
          · exact (HB.out.alloc HB.out.size _).grown HG1.out (by have := HB.out.size; simp; omega) (fun k hk => by
              have := HO.out.lt k hk
              omega)
        case measure => simp [intOf]; omega
    · obtain rfl : k = 64 := by omega
      have hcv := string_of_own HO.out (le_lt n _)
      go_wp2
      go_ret
      exact ⟨rfl, HB.out⟩

theorem of_neg (n : Nat) (c : Int) (h1 : c < 0) (w : World) :
    Calls Tryz.prog 165 #[.int .u64 n, .int .i64 c] w fun e w' => e = .returned (.string (text [])) ∧ w = w' := by
  have hcv := run_convert_bytes_nil w 74 5 Tryz.underlying74 Tryz.underlying5 0 0 9 Tryz.underlying9
  go_enter Tryz.func165, Tryz.ntmps165
  go_wp2
  go_loop [0, 5, 8] (fun x v i => x = .int .u64 n ∧ v = .slice none 0 0 ∧ i = .int .i64 0) (fun _ _ _ => 0)
  case atStart => exact ⟨rfl, rfl, rfl⟩
  case round =>
    obtain ⟨rfl, rfl, rfl⟩ := hrel
    go_wp2
    go_ret
    exact ⟨rfl, rfl⟩

/-- Of: whatever the count. -/
theorem of_any (n : Nat) (hn : n < 18446744073709551616) (c : Int) (w : World) :
    Calls Tryz.prog 165 #[.int .u64 n, .int .i64 c] w fun e w' => e = .returned (.string (text (le n (min c 64).toNat))) ∧ Below w.heap.size w w' := by
  by_cases h0 : c < 0
  · rw [show (min c 64).toNat = 0 by omega]
    exact (of_neg n c h0 w).mono fun _ _ ⟨he, hw⟩ => ⟨he, hw ▸ Below.refl _ _⟩
  · by_cases h1 : 64 < c
    · rw [show (min c 64).toNat = 64 by omega]
      exact of_ge n hn c h1 w
    · obtain ⟨m, rfl⟩ := Int.eq_ofNat_of_zero_le (show 0 ≤ c by omega)
      rw [show (min (m : Int) 64).toNat = m by omega]
      exact of_lt n hn m (by omega) w

end Go.Proofs.YtpkhpaklhfomkaaGreatDoor

namespace Go.Proofs.YtpkhpaklhfomkaaGreatDoor
set_option maxRecDepth 100000
open Go.RowKit Go.Joins

theorem nums_take_lt (s : ByteArray) (k : Nat) : ∀ x ∈ (nums s).take k, x < 256 := fun x hx => nums_lt s x (List.mem_of_mem_take hx)
theorem or_step8 (N x k : Nat) (hN : N < 256 ^ k) : N ||| x * 2 ^ (8 * k) = N + x * 256 ^ k := by
  have e : (256 : Nat) ^ k = 2 ^ (8 * k) := by rw [Nat.pow_mul]
  rw [e] at hN ⊢
  have h := Nat.shiftLeft_add_eq_or_of_lt hN x
  rw [Nat.shiftLeft_eq] at h
  rw [Nat.or_comm, ← h, Nat.add_comm]

theorem pow_up (k : Nat) (hk : k < 8) : (256 : Nat) ^ (k + 1) ≤ 18446744073709551616 := by
  have h := Nat.pow_le_pow_right (n := 256) (by omega) (show k + 1 ≤ 8 by omega)
  exact h
theorem or_walk (X x k : Nat) (hX : X < 256 ^ k) (hx : x < 256) (hk : k < 8) : bits .or .u64 (X : Int) (IntKind.u64.wrap ((x : Int) * 2 ^ (8 * k))) = ((X + x * 256 ^ k : Nat) : Int) := by
  have hp := pow_up k hk
  rw [Nat.pow_succ] at hp
  have e : (2 : Nat) ^ (8 * k) = 256 ^ k := by rw [Nat.pow_mul]
  have hpos : 0 < (256 : Nat) ^ k := Nat.pow_pos (by omega)
  have h1 : x * 256 ^ k < 18446744073709551616 := by
    have : x * 256 ^ k < 256 ^ k * 256 := by rw [Nat.mul_comm]; exact Nat.mul_lt_mul_of_pos_left hx hpos
    omega
  have e2 : ((x : Int) * 2 ^ (8 * k)) = ((x * 2 ^ (8 * k) : Nat) : Int) := by simp
  have h2 : IntKind.u64.wrap ((x : Int) * 2 ^ (8 * k)) = ((x * 2 ^ (8 * k) : Nat) : Int) := by
    rw [e2, IntKind.wrap_u64, e]
    omega
  rw [h2, u64_or_nat X _ (by omega) (by rw [e]; exact h1), or_step8 X x k hX]

theorem number_long (s : ByteArray) (hs : s.size ≤ maxLen) (h8 : 8 < s.size) (w : World) :
    Calls Tryz.prog 224 #[.string s] w fun e w' => e = .returned (.tuple #[.int .u64 0, .int .i64 5]) ∧ w = w' := by
  unfold maxLen at hs
  go_enter Tryz.func224, Tryz.ntmps224
  go_wp2
  go_ret2
  exact ⟨rfl, rfl⟩

theorem number_any (s : ByteArray) (h8 : s.size ≤ 8) (w : World) :
    Calls Tryz.prog 224 #[.string s] w fun e w' => e = .returned (.tuple #[.int .u64 (numL (nums s) : Nat), .int .i64 0]) ∧ w = w' := by
  go_enter Tryz.func224, Tryz.ntmps224
  go_wp2
  go_loop [4, 11] (fun x i => ∃ k : Nat, k ≤ s.size ∧ i = .int .i64 k ∧ x = .int .u64 (numL ((nums s).take k) : Nat)) (fun _ i => s.size - (intOf i).toNat)
  case atStart => exact ⟨0, Nat.zero_le _, rfl, rfl⟩
  case round =>
    obtain ⟨k, hk, rfl, rfl⟩ := hrel
    have hN := numL_lt _ (nums_take_lt s k)
    rw [List.length_take, nums_len, Nat.min_eq_left hk] at hN
    generalize hNN : numL ((nums s).take k) = X at hN
    have HN := Lib.hid hN
    have HX := Lib.hid hNN
    clear hNN hN
    by_cases hlt : k < s.size
    · have hsk : s[k].toNat < 256 := s[k].toNat_lt
      go_wp2
      go_round
      case rel =>
        refine ⟨k + 1, by omega, by go_num, ?_⟩
        rw [nums_snoc s k hlt, numL_snoc, HX.out, List.length_take, nums_len, Nat.min_eq_left hk, or_walk X s[k].toNat k HN.out hsk (by omega)]
      case measure => simp [intOf]; omega
    · obtain rfl : k = s.size := by omega
      go_wp2
      go_ret2
      have h := HX.out
      rw [← nums_len, List.take_length] at h
      subst h
      exact ⟨rfl, rfl⟩

theorem nums_drop (s : ByteArray) (j : Nat) (h : j < s.size) : (nums s).drop j = s[j].toNat :: (nums s).drop (j + 1) := by
  rw [List.drop_eq_getElem_cons (by rw [nums_len]; exact h)]
  congr 1
  unfold nums
  simp
  rfl
theorem numL_small (s : ByteArray) (k : Nat) (hk : 1 ≤ k) (h8 : s.size ≤ 8) : numL ((nums s).drop k) < 72057594037927936 := by
  have h := numL_lt ((nums s).drop k) (fun x hx => nums_lt s x (List.mem_of_mem_drop hx))
  rw [List.length_drop, nums_len] at h
  exact Nat.lt_of_lt_of_le h (Nat.pow_le_pow_right (n := 256) (by omega) (show s.size - k ≤ 7 by omega))

theorem le_mod (n k : Nat) : ∀ j, j ≤ k → le (n % 256 ^ k) j = le n j := by
  intro j
  induction j with
  | zero => intro _; rfl
  | succ j ih =>
    intro hj
    rw [le, le, ih (by omega)]
    have e : n % 256 ^ k / 256 ^ j % 256 = n / 256 ^ j % 256 := by
      obtain ⟨d, rfl⟩ : ∃ d, k = j + (d + 1) := ⟨k - j - 1, by omega⟩
      rw [Nat.pow_add, Nat.mod_mul_right_div_self, Nat.pow_succ, Nat.mul_comm (256 ^ d), Nat.mod_mul_right_mod]
    rw [e]

theorem two_any (n : Nat) (hn : n < 65536) (w : World) :
    Calls Tryz.prog 120 #[.int .u16 n] w fun e w' => e = .returned (.string (text (le n 2))) ∧ Below w.heap.size w w' := by
  have h := of_any n (by omega) 2 w
  have H := Lib.hid h
  clear h
  go_enter Tryz.func120, Tryz.ntmps120
  go_wp2_with (go_at_call 165; refine (H.out).mono ?_; rintro e w' ⟨rfl, hb⟩)
  go_ret
  exact ⟨rfl, hb⟩
theorem four_any (n : Nat) (hn : n < 4294967296) (w : World) :
    Calls Tryz.prog 122 #[.int .u32 n] w fun e w' => e = .returned (.string (text (le n 4))) ∧ Below w.heap.size w w' := by
  have h := of_any n (by omega) 4 w
  have H := Lib.hid h
  clear h
  go_enter Tryz.func122, Tryz.ntmps122
  go_wp2_with (go_at_call 165; refine (H.out).mono ?_; rintro e w' ⟨rfl, hb⟩)
  go_ret
  exact ⟨rfl, hb⟩
theorem eight_any (n : Nat) (hn : n < 18446744073709551616) (w : World) :
    Calls Tryz.prog 118 #[.int .u64 n] w fun e w' => e = .returned (.string (text (le n 8))) ∧ Below w.heap.size w w' := by
  have h := of_any n (by omega) 8 w
  have H := Lib.hid h
  clear h
  go_enter Tryz.func118, Tryz.ntmps118
  go_wp2_with (go_at_call 165; refine (H.out).mono ?_; rintro e w' ⟨rfl, hb⟩)
  go_ret
  exact ⟨rfl, hb⟩
end Go.Proofs.YtpkhpaklhfomkaaGreatDoor

namespace Go.Proofs.YtpkhpaklhfomkaaGreatDoor
set_option maxRecDepth 100000
open Go.RowKit Go.Joins

/-- A block that is a cursor: its text, its place, its error. -/
def Cur (w : World) (g : Nat) (s : ByteArray) (a e : Nat) : Prop := w.heap[g]? = some (.cells #[.string s, .int .i64 (a : Nat), .int .i64 (e : Nat)] 248 (0, 0))
theorem Cur.c0 {w : World} {g : Nat} {s : ByteArray} {a e : Nat} (h : Cur w g s a e) : w.cell? ⟨g, 0, none⟩ = some (.string s) := by rw [cell_of_row w g 0 _ _ _ h]; rfl
theorem Cur.c1 {w : World} {g : Nat} {s : ByteArray} {a e : Nat} (h : Cur w g s a e) : w.cell? ⟨g, 1, none⟩ = some (.int .i64 (a : Nat)) := by rw [cell_of_row w g 1 _ _ _ h]; rfl
theorem Cur.c2 {w : World} {g : Nat} {s : ByteArray} {a e : Nat} (h : Cur w g s a e) : w.cell? ⟨g, 2, none⟩ = some (.int .i64 (e : Nat)) := by rw [cell_of_row w g 2 _ _ _ h]; rfl
theorem Cur.fr {w : World} {g : Nat} {s : ByteArray} {a e : Nat} (h : Cur w g s a e) (i : Nat) : w.frozen? ⟨g, i, none⟩ = false := frozen_of_row w g i _ _ h
theorem Cur.lt {w : World} {g : Nat} {s : ByteArray} {a e : Nat} (h : Cur w g s a e) : g < w.heap.size := by
  rcases Nat.lt_or_ge g w.heap.size with hlt | hge
  · exact hlt
  · unfold Cur at h; rw [Array.getElem?_eq_none hge] at h; cases h
theorem Cur.drewN {w : World} {g : Nat} {s : ByteArray} {a e : Nat} (h : Cur w g s a e) (n : Nat) : Cur (w.drewN n) g s a e := h
theorem Cur.setAt {w : World} {g : Nat} {s : ByteArray} {a e : Nat} (h : Cur w g s a e) (a' : Nat) : Cur (w.setCell ⟨g, 1, none⟩ (.int .i64 (a' : Nat))) g s a' e := heap_setCell_same w g 1 _ _ _ h
theorem Cur.setErr {w : World} {g : Nat} {s : ByteArray} {a e : Nat} (h : Cur w g s a e) (e' : Nat) : Cur (w.setCell ⟨g, 2, none⟩ (.int .i64 (e' : Nat))) g s a e' := heap_setCell_same w g 2 _ _ _ h
theorem Cur.grown {w w' : World} {g : Nat} {s : ByteArray} {a e : Nat} {row : Option Nat} (h : Cur w g s a e) (hg : w.grownBy w' row) (hne : some g ≠ row) : Cur w' g s a e := (hg.block g h.lt hne).trans h
theorem Cur.below {w w' : World} {B g : Nat} {s : ByteArray} {a e : Nat} (h : Cur w g s a e) (hb : Below B w w') (hg : g < B) : Cur w' g s a e := (hb.block g hg).trans h

theorem grown_drewN (w : World) (n : Nat) (row : Option Nat) : w.grownBy (w.drewN n) row := ⟨rfl, rfl, rfl, Nat.le_refl _, fun _ _ _ => rfl⟩
theorem grown_set (w : World) (g i : Nat) (v : Value) : w.grownBy (w.setCell ⟨g, i, none⟩ v) (some g) :=
  ⟨rfl, rfl, rfl, by simp [World.setCell], fun k _ hne => Below.heap_setCell _ _ _ _ (fun e => hne (by rw [e]))⟩
theorem grown_then {w w1 w2 : World} {row : Option Nat} (h : w.grownBy w1 row) (k : w1.grownBy w2 row) : w.grownBy w2 row :=
  ⟨k.os.trans h.os, k.tape.trans h.tape, k.output.trans h.output, Nat.le_trans h.size k.size, fun i hi hne => (k.block i (Nat.lt_of_lt_of_le hi h.size) hne).trans (h.block i hi hne)⟩

/-- Can the next n bytes be taken? -/
def mayB (s : ByteArray) (a e : Nat) (n : Int) : Bool := decide (e = 0 ∧ 0 ≤ n ∧ n ≤ (s.size : Int) - a)

theorem over_any (s : ByteArray) (w : World) :
    Calls Tryz.prog 154 #[.string s] w fun e w' => e = .returned (.pointer (some ⟨w.heap.size, 0, none⟩)) ∧ w.alloc (.cells #[.string s, .int .i64 0, .int .i64 0] 248) = w' := by
  go_enter Tryz.func154, Tryz.ntmps154
  go_wp2
  go_ret
  exact ⟨rfl, rfl⟩

theorem may_any (g : Nat) (s : ByteArray) (a e : Nat) (n : Int) (hs : s.size ≤ maxLen) (ha : a ≤ s.size) (hn : (Lit.int .i64 n).wf = true) (w : World) (hc : Cur w g s a e) :
    Calls Tryz.prog 195 #[.pointer (some ⟨g, 0, none⟩), .int .i64 n] w fun r w' => r = .returned (.bool (mayB s a e n)) ∧ ∃ d, w' = w.drewN d := by
  unfold maxLen at hs
  have hb := bounds_i64 hn
  have c0 := hc.c0
  have c1 := hc.c1
  have c2 := hc.c2
  clear hc hn
  by_cases he : e = 0
  · have he' : ((e : Int) == 0) = true := by subst he; rfl
    by_cases h0 : 0 ≤ n
    · have h0' : decide (0 ≤ n) = true := decide_eq_true h0
      have HM : Hid (mayB s a e n = decide (n ≤ (s.size : Int) - a)) := by
        show _ = _
        unfold mayB
        exact decide_eq_decide.mpr ⟨fun h => h.2.2, fun h => ⟨he, h0, h⟩⟩
      clear he
      go_enter Tryz.func195, Tryz.ntmps195
      go_wp2
      go_quiet (fail)
      go_wp2
      go_ret
      exact ⟨by rw [HM.out]; rfl, _, rfl⟩
    · have h0' : decide (0 ≤ n) = false := decide_eq_false h0
      have HM : Hid (mayB s a e n = false) := decide_eq_false fun h => h0 h.2.1
      clear he
      go_enter Tryz.func195, Tryz.ntmps195
      go_wp2
      go_quiet (fail)
      go_wp2
      go_ret
      exact ⟨by rw [HM.out]; rfl, _, rfl⟩
  · have he' : ((e : Int) == 0) = false := by rw [beq_eq_false_iff_ne]; omega
    have HM : Hid (mayB s a e n = false) := decide_eq_false fun h => he h.1
    clear he
    go_enter Tryz.func195, Tryz.ntmps195
    go_wp2
    go_quiet (fail)
    go_wp2
    go_ret
    exact ⟨by rw [HM.out]; rfl, _, rfl⟩

theorem may_no (g : Nat) (s : ByteArray) (a e : Nat) (n : Int) (hs : s.size ≤ maxLen) (ha : a ≤ s.size) (hn : (Lit.int .i64 n).wf = true) (w : World) (hc : Cur w g s a e) (hm : mayB s a e n = false) :
    Calls Tryz.prog 195 #[.pointer (some ⟨g, 0, none⟩), .int .i64 n] w fun r w' => r = .returned (.bool false) ∧ ∃ d, w' = w.drewN d := by
  have h := may_any g s a e n hs ha hn w hc
  rw [hm] at h
  exact h
theorem may_yes (g : Nat) (s : ByteArray) (a e : Nat) (n : Int) (hs : s.size ≤ maxLen) (ha : a ≤ s.size) (hn : (Lit.int .i64 n).wf = true) (w : World) (hc : Cur w g s a e) (hm : mayB s a e n = true) :
    Calls Tryz.prog 195 #[.pointer (some ⟨g, 0, none⟩), .int .i64 n] w fun r w' => r = .returned (.bool true) ∧ ∃ d, w' = w.drewN d := by
  have h := may_any g s a e n hs ha hn w hc
  rw [hm] at h
  exact h

/-- What can be taken. -/
def piece (s : ByteArray) (a e : Nat) (n : Int) : ByteArray := if mayB s a e n then s.extract a (a + n.toNat) else ⟨#[]⟩

theorem peek_any (g : Nat) (s : ByteArray) (a e : Nat) (n : Int) (hs : s.size ≤ maxLen) (ha : a ≤ s.size) (hn : (Lit.int .i64 n).wf = true) (w : World) (hc : Cur w g s a e) :
    Calls Tryz.prog 196 #[.pointer (some ⟨g, 0, none⟩), .int .i64 n] w fun r w' => r = .returned (.string (piece s a e n)) ∧ ∃ d, w' = w.drewN d := by
  by_cases hm : mayB s a e n = true
  · have hmay := may_yes g s a e n hs ha hn w hc hm
    have HMAY := Lib.hid hmay
    have HP : Hid (piece s a e n = s.extract a (a + n.toNat)) := if_pos hm
    have hd : 0 ≤ n ∧ n ≤ (s.size : Int) - a := by
      unfold mayB at hm
      exact (of_decide_eq_true hm).2
    obtain ⟨hn0, hn1⟩ := hd
    unfold maxLen at hs
    have c0 := hc.c0
    have c1 := hc.c1
    obtain ⟨m, rfl⟩ := Int.eq_ofNat_of_zero_le hn0
    rw [Int.toNat_natCast] at HP
    clear hc hmay hm hn
    go_enter Tryz.func196, Tryz.ntmps196
    go_wp2_with (go_at_call 195; refine (HMAY.out).mono ?_; rintro r w' ⟨rfl, d, rfl⟩)
    go_quiet (fail)
    go_wp2
    go_ret
    exact ⟨by rw [HP.out]; rfl, d + nq, by rw [World.drewN_drewN]⟩
  · have hm' : mayB s a e n = false := by simpa using hm
    have hmay := may_no g s a e n hs ha hn w hc hm'
    have HMAY := Lib.hid hmay
    have HP : Hid (piece s a e n = ⟨#[]⟩) := if_neg hm
    clear hc hmay hm hm' hn
    go_enter Tryz.func196, Tryz.ntmps196
    go_wp2_with (go_at_call 195; refine (HMAY.out).mono ?_; rintro r w' ⟨rfl, d, rfl⟩)
    go_ret
    exact ⟨by rw [HP.out]; rfl, _, rfl⟩

/-- The place and the error behind a taking. -/
def atB (s : ByteArray) (a e : Nat) (n : Int) : Nat := if mayB s a e n then a + n.toNat else a
def errB (s : ByteArray) (a e : Nat) (n : Int) : Nat := if mayB s a e n then e else 3
theorem atB_le (s : ByteArray) (a e : Nat) (n : Int) (ha : a ≤ s.size) : atB s a e n ≤ s.size := by
  unfold atB
  split
  · rename_i h
    unfold mayB at h
    have := of_decide_eq_true h
    omega
  · exact ha

theorem take_any (g : Nat) (s : ByteArray) (a e : Nat) (n : Int) (hs : s.size ≤ maxLen) (ha : a ≤ s.size) (hn : (Lit.int .i64 n).wf = true) (w : World) (hc : Cur w g s a e) :
    Calls Tryz.prog 157 #[.pointer (some ⟨g, 0, none⟩), .int .i64 n] w fun r w' => r = .returned (.string (piece s a e n)) ∧ Cur w' g s (atB s a e n) (errB s a e n) ∧ w.grownBy w' (some g) := by
  by_cases hm : mayB s a e n = true
  · have HC := Lib.hid hc
    have hpk := fun d => peek_any g s a e n hs ha hn (w.drewN d) (hc.drewN d)
    have HPK := Lib.hid hpk
    have HMAY := Lib.hid (may_yes g s a e n hs ha hn w hc hm)
    have HA : Hid (atB s a e n = a + n.toNat) := if_pos hm
    have HE : Hid (errB s a e n = e) := if_pos hm
    have hd : 0 ≤ n ∧ n ≤ (s.size : Int) - a := by
      unfold mayB at hm
      exact (of_decide_eq_true hm).2
    obtain ⟨hn0, hn1⟩ := hd
    unfold maxLen at hs
    have c1 := hc.c1
    have f1 := hc.fr 1
    obtain ⟨m, rfl⟩ := Int.eq_ofNat_of_zero_le hn0
    rw [Int.toNat_natCast] at HA
    clear hc hm hn hpk
    go_enter Tryz.func157, Tryz.ntmps157
    go_wp2_with (first | (go_at_call 195; refine (HMAY.out).mono ?_; rintro r w' ⟨rfl, d, rfl⟩) | (go_at_call 196; refine (HPK.out _).mono ?_; rintro r w' ⟨rfl, d2, rfl⟩))
    go_ret
    refine ⟨rfl, ?_, grown_then (grown_drewN w (d + d2) _) (grown_set _ g 1 _)⟩
    rw [HA.out, HE.out]
    exact (HC.out.drewN (d + d2)).setAt (a + m)
  · have hm' : mayB s a e n = false := by simpa using hm
    have HC := Lib.hid hc
    have HMAY := Lib.hid (may_no g s a e n hs ha hn w hc hm')
    have HP : Hid (piece s a e n = ⟨#[]⟩) := if_neg hm
    have HA : Hid (atB s a e n = a) := if_neg hm
    have HE : Hid (errB s a e n = 3) := if_neg hm
    have c2 := hc.c2
    have f2 := hc.fr 2
    clear hc hm hm' hn
    go_enter Tryz.func157, Tryz.ntmps157
    go_wp2_with (go_at_call 195; refine (HMAY.out).mono ?_; rintro r w' ⟨rfl, d, rfl⟩)
    go_ret
    refine ⟨by rw [HP.out]; rfl, ?_, grown_then (grown_drewN w d _) (grown_set _ g 2 _)⟩
    rw [HA.out, HE.out]
    exact (HC.out.drewN d).setErr 3

theorem piece_size (s : ByteArray) (a e : Nat) (n : Int) : (piece s a e n).size ≤ n.toNat := by
  unfold piece
  split
  · rw [ByteArray.size_extract]
    omega
  · exact Nat.zero_le _

/-- The number that the next bytes are. -/
def numB (s : ByteArray) (a e : Nat) (k : Nat) : Nat := numL (nums (piece s a e k))
theorem numB_lt (s : ByteArray) (a e k : Nat) : numB s a e k < 256 ^ k := by
  have h := numL_lt _ (nums_lt (piece s a e k))
  rw [nums_len] at h
  have h2 := piece_size s a e k
  exact Nat.lt_of_lt_of_le h (Nat.pow_le_pow_right (n := 256) (by omega) (by omega))

theorem number_of (g : Nat) (s : ByteArray) (a e k : Nat) (hs : s.size ≤ maxLen) (ha : a ≤ s.size) (hk : k ≤ 8) (w : World) (hc : Cur w g s a e) :
    Calls Tryz.prog 194 #[.pointer (some ⟨g, 0, none⟩), .int .i64 k] w fun r w' => r = .returned (.int .u64 (numB s a e k : Nat)) ∧ Cur w' g s (atB s a e k) (errB s a e k) ∧ w.grownBy w' (some g) := by
  have HT := Lib.hid (take_any g s a e k hs ha (WalkArith.wf_i64 (by omega)) w hc)
  have h8 : (piece s a e k).size ≤ 8 := by
    have := piece_size s a e k
    omega
  have HN := Lib.hid (fun w => number_any (piece s a e k) h8 w)
  clear hc h8
  go_enter Tryz.func194, Tryz.ntmps194
  go_wp2_with (first | (go_at_call 157; refine (HT.out).mono ?_; rintro r w1 ⟨rfl, hc1, hg1⟩) | (go_at_call 224; refine (HN.out _).mono ?_; rintro r w2 ⟨rfl, rfl⟩))
  go_ret
  exact ⟨rfl, hc1, hg1⟩

theorem two_of (g : Nat) (s : ByteArray) (a e : Nat) (hs : s.size ≤ maxLen) (ha : a ≤ s.size) (w : World) (hc : Cur w g s a e) :
    Calls Tryz.prog 156 #[.pointer (some ⟨g, 0, none⟩)] w fun r w' => r = .returned (.int .u16 (numB s a e 2 : Nat)) ∧ Cur w' g s (atB s a e (2 : Nat)) (errB s a e (2 : Nat)) ∧ w.grownBy w' (some g) := by
  have HT := Lib.hid (number_of g s a e 2 hs ha (by omega) w hc)
  have hl := numB_lt s a e 2
  clear hc
  go_enter Tryz.func156, Tryz.ntmps156
  go_wp2_with (go_at_call 194; refine (HT.out).mono ?_; rintro r w1 ⟨rfl, hc1, hg1⟩)
  go_ret
  exact ⟨ret_eq (by omega), hc1, hg1⟩
theorem err_any (g : Nat) (s : ByteArray) (a e : Nat) (w : World) (hc : Cur w g s a e) :
    Calls Tryz.prog 158 #[.pointer (some ⟨g, 0, none⟩)] w fun r w' => r = .returned (.int .i64 (e : Nat)) ∧ w = w' := by
  have c2 := hc.c2
  clear hc
  go_enter Tryz.func158, Tryz.ntmps158
  go_wp2
  go_ret
  exact ⟨rfl, rfl⟩
theorem left_any (g : Nat) (s : ByteArray) (a e : Nat) (hs : s.size ≤ maxLen) (ha : a ≤ s.size) (w : World) (hc : Cur w g s a e) :
    Calls Tryz.prog 155 #[.pointer (some ⟨g, 0, none⟩)] w fun r w' => r = .returned (.int .i64 ((s.size : Int) - a)) ∧ ∃ d, w' = w.drewN d := by
  unfold maxLen at hs
  have c0 := hc.c0
  have c1 := hc.c1
  clear hc
  go_enter Tryz.func155, Tryz.ntmps155
  go_wp2
  go_quiet (fail)
  go_wp2
  go_ret
  exact ⟨rfl, _, rfl⟩

end Go.Proofs.YtpkhpaklhfomkaaGreatDoor

namespace Go.Proofs.YtpkhpaklhfomkaaGreatDoor
set_option maxRecDepth 100000
open Go.RowKit Go.Joins

theorem may_nil (n : Int) (w : World) : Calls Tryz.prog 195 #[.pointer none, .int .i64 n] w fun r w' => r = .returned (.bool false) ∧ ∃ d, w' = w.drewN d := by
  go_enter Tryz.func195, Tryz.ntmps195
  go_wp2
  go_quiet (fail)
  go_wp2
  go_ret
  exact ⟨rfl, _, rfl⟩
theorem peek_nil (n : Int) (w : World) : Calls Tryz.prog 196 #[.pointer none, .int .i64 n] w fun r w' => r = .returned (.string ⟨#[]⟩) ∧ ∃ d, w' = w.drewN d := by
  go_enter Tryz.func196, Tryz.ntmps196
  go_wp2_with (go_at_call 195; refine (may_nil _ _).mono ?_; rintro r w' ⟨rfl, d, rfl⟩)
  go_ret
  exact ⟨rfl, _, rfl⟩
theorem take_nil (n : Int) (w : World) : Calls Tryz.prog 157 #[.pointer none, .int .i64 n] w fun r w' => r = .returned (.string ⟨#[]⟩) ∧ w = w' := by
  go_enter Tryz.func157, Tryz.ntmps157
  go_wp2
  go_ret
  exact ⟨rfl, rfl⟩
theorem number_none (w : World) : Calls Tryz.prog 224 #[.string ⟨#[]⟩] w fun e w' => e = .returned (.tuple #[.int .u64 0, .int .i64 0]) ∧ w = w' :=
  number_any ⟨#[]⟩ (by decide) w
theorem number_nil (n : Int) (w : World) : Calls Tryz.prog 194 #[.pointer none, .int .i64 n] w fun r w' => r = .returned (.int .u64 0) ∧ w = w' := by
  go_enter Tryz.func194, Tryz.ntmps194
  go_wp2_with (first | (go_at_call 157; refine (take_nil _ _).mono ?_; rintro r w1 ⟨rfl, rfl⟩) | (go_at_call 224; refine (number_none _).mono ?_; rintro r w2 ⟨rfl, rfl⟩))
  go_ret
  exact ⟨rfl, rfl⟩
theorem two_nil (w : World) : Calls Tryz.prog 156 #[.pointer none] w fun r w' => r = .returned (.int .u16 0) ∧ w = w' := by
  go_enter Tryz.func156, Tryz.ntmps156
  go_wp2_with (go_at_call 194; refine (number_nil _ _).mono ?_; rintro r w1 ⟨rfl, rfl⟩)
  go_ret
  exact ⟨rfl, rfl⟩
theorem left_nil (w : World) : Calls Tryz.prog 155 #[.pointer none] w fun r w' => r = .returned (.int .i64 0) ∧ w = w' := by
  go_enter Tryz.func155, Tryz.ntmps155
  go_wp2
  go_ret
  exact ⟨rfl, rfl⟩
theorem err_nil (w : World) : Calls Tryz.prog 158 #[.pointer none] w fun r w' => r = .returned (.int .i64 1) ∧ w = w' := by
  go_enter Tryz.func158, Tryz.ntmps158
  go_wp2
  go_ret
  exact ⟨rfl, rfl⟩

theorem number_ex (w : World) : Calls Tryz.prog 224 #[.string ⟨#[1, 0, 2]⟩] w fun e w' => e = .returned (.tuple #[.int .u64 131073, .int .i64 0]) ∧ w = w' :=
  number_any ⟨#[1, 0, 2]⟩ (by decide) w
theorem two_ex (w : World) : Calls Tryz.prog 120 #[.int .u16 258] w fun e w' => e = .returned (.string ⟨#[2, 1]⟩) ∧ Below w.heap.size w w' := two_any 258 (by omega) w
theorem left_ex (g : Nat) (w : World) (hc : Cur w g ⟨#[97, 98]⟩ 0 0) : Calls Tryz.prog 155 #[.pointer (some ⟨g, 0, none⟩)] w fun r w' => r = .returned (.int .i64 2) ∧ ∃ d, w' = w.drewN d := left_any g ⟨#[97, 98]⟩ 0 0 (by decide) (by decide) w hc

end Go.Proofs.YtpkhpaklhfomkaaGreatDoor

namespace Go.Proofs.YtpkhpaklhfomkaaGreatDoor
set_option maxRecDepth 100000
open Go.RowKit Go.Joins

theorem Cur.alloc {w : World} {g : Nat} {s : ByteArray} {a e : Nat} (h : Cur w g s a e) (o : Obj) : Cur (w.alloc o) g s a e := (Below.heap_alloc w o g h.lt).trans h

end Go.Proofs.YtpkhpaklhfomkaaGreatDoor

namespace Go.Proofs.YtpkhpaklhfomkaaGreatDoor
set_option maxRecDepth 100000
open Go.RowKit Go.Joins

theorem nums_append (a b : ByteArray) : nums (a ++ b) = nums a ++ nums b := by
  unfold nums
  rw [ByteArray.data_append]
  simp
theorem map_inj : ∀ (l m : List UInt8), l.map UInt8.toNat = m.map UInt8.toNat → l = m
  | [], [], _ => rfl
  | [], _ :: _, h => by simp at h
  | _ :: _, [], h => by simp at h
  | x :: l, y :: m, h => by
    simp only [List.map_cons, List.cons.injEq] at h
    rw [UInt8.toNat_inj.1 h.1, map_inj l m h.2]
theorem nums_inj (a b : ByteArray) (h : nums a = nums b) : a = b := by
  have h2 : a.data.toList = b.data.toList := map_inj _ _ h
  cases a with
  | mk x => cases b with
    | mk y => exact congrArg ByteArray.mk (Array.toList_inj.1 h2)
theorem mayB_yes (s : ByteArray) (a k : Nat) (h : a + k ≤ s.size) : mayB s a 0 (k : Nat) = true := by
  unfold mayB
  exact decide_eq_true ⟨rfl, by omega, by omega⟩
theorem atB_yes (s : ByteArray) (a k : Nat) (h : a + k ≤ s.size) : atB s a 0 (k : Nat) = a + k := if_pos (mayB_yes s a k h)
theorem errB_yes (s : ByteArray) (a k : Nat) (h : a + k ≤ s.size) : errB s a 0 (k : Nat) = 0 := if_pos (mayB_yes s a k h)
theorem nums_piece (s : ByteArray) (a k : Nat) (h : a + k ≤ s.size) : nums (piece s a 0 (k : Nat)) = ((nums s).drop a).take k := by
  unfold piece
  rw [if_pos (mayB_yes s a k h), Int.toNat_natCast]
  unfold nums
  rw [ByteArray.data_extract]
  simp
end Go.Proofs.YtpkhpaklhfomkaaGreatDoor

namespace Go.Proofs.YtpkhpaklhfomkaaGreatDoor
set_option maxRecDepth 100000
open Go.RowKit Go.Joins

def nvB (p : ByteArray) : Nat := if p.size ≤ 8 then numL (nums p) else 0
def neB (p : ByteArray) : Nat := if p.size ≤ 8 then 0 else 5
theorem numL_64 (p : ByteArray) (h : p.size ≤ 8) : numL (nums p) < 18446744073709551616 := by
  have h1 := numL_lt _ (nums_lt p)
  rw [nums_len] at h1
  exact Nat.lt_of_lt_of_le h1 (Nat.pow_le_pow_right (n := 256) (by omega) (show p.size ≤ 8 by omega))
theorem nvB_lt (p : ByteArray) : nvB p < 18446744073709551616 := by
  unfold nvB
  split
  · rename_i h; exact numL_64 p h
  · omega
theorem number_gen (p : ByteArray) (hs : p.size ≤ maxLen) (w : World) :
    Calls Tryz.prog 224 #[.string p] w fun e w' => e = .returned (.tuple #[.int .u64 (nvB p : Nat), .int .i64 (neB p : Nat)]) ∧ w = w' := by
  by_cases h : p.size ≤ 8
  · rw [show nvB p = numL (nums p) from if_pos h, show neB p = 0 from if_pos h]
    exact number_any p h w
  · rw [show nvB p = 0 from if_neg h, show neB p = 5 from if_neg h]
    exact number_long p hs (by omega) w

def thrB (s : ByteArray) (a e : Nat) : Bool := decide (e = 0 ∧ a = s.size)
/-- A cursor that the call itself has made: its place, its error; what was there stays. -/
structure CI (w0 : World) (s : ByteArray) (a e : Nat) (w : World) : Prop where
  cur : Cur w w0.heap.size s a e
  bel : Below w0.heap.size w0 w
theorem CI.lt {w0 w : World} {s : ByteArray} {a e : Nat} (h : CI w0 s a e w) : w0.heap.size < w.heap.size := h.cur.lt
theorem CI.drewN {w0 w : World} {s : ByteArray} {a e : Nat} (h : CI w0 s a e w) (n : Nat) : CI w0 s a e (w.drewN n) := ⟨h.cur.drewN n, below_drewN h.bel n⟩
theorem CI.below {w0 w w' : World} {s : ByteArray} {a e : Nat} (h : CI w0 s a e w) (hb : Below w.heap.size w w') : CI w0 s a e w' := ⟨h.cur.below hb h.lt, below_then h.bel hb⟩
theorem CI.grown {w0 w w' : World} {s : ByteArray} {a e a' e' : Nat} (h : CI w0 s a e w) (hc : Cur w' w0.heap.size s a' e') (hg : w.grownBy w' (some w0.heap.size)) : CI w0 s a' e' w' :=
  ⟨hc, h.bel.grown hg h.bel.size (fun k hk => by injection hk with hk; subst hk; exact Nat.le_refl _)⟩
theorem over_ci (s : ByteArray) (w : World) :
    Calls Tryz.prog 154 #[.string s] w fun e w' => e = .returned (.pointer (some ⟨w.heap.size, 0, none⟩)) ∧ CI w s 0 0 w' :=
  (over_any s w).mono fun _ _ ⟨he, hw⟩ => ⟨he, by subst hw; exact ⟨heap_alloc_new _ _, (Below.refl _ _).alloc (Nat.le_refl _) _⟩⟩
theorem take_ci {w0 w : World} {s : ByteArray} {a e : Nat} (n : Int) (hs : s.size ≤ maxLen) (ha : a ≤ s.size) (hn : (Lit.int .i64 n).wf = true) (h : CI w0 s a e w) :
    Calls Tryz.prog 157 #[.pointer (some ⟨w0.heap.size, 0, none⟩), .int .i64 n] w fun r w' => r = .returned (.string (piece s a e n)) ∧ CI w0 s (atB s a e n) (errB s a e n) w' :=
  (take_any _ s a e n hs ha hn w h.cur).mono fun _ _ ⟨he, hc, hg⟩ => ⟨he, h.grown hc hg⟩
theorem two_ci {w0 w : World} {s : ByteArray} {a e : Nat} (hs : s.size ≤ maxLen) (ha : a ≤ s.size) (h : CI w0 s a e w) :
    Calls Tryz.prog 156 #[.pointer (some ⟨w0.heap.size, 0, none⟩)] w fun r w' => r = .returned (.int .u16 (numB s a e 2 : Nat)) ∧ CI w0 s (atB s a e (2 : Nat)) (errB s a e (2 : Nat)) w' :=
  (two_of _ s a e hs ha w h.cur).mono fun _ _ ⟨he, hc, hg⟩ => ⟨he, h.grown hc hg⟩
theorem err_ci {w0 w : World} {s : ByteArray} {a e : Nat} (h : CI w0 s a e w) :
    Calls Tryz.prog 158 #[.pointer (some ⟨w0.heap.size, 0, none⟩)] w fun r w' => r = .returned (.int .i64 (e : Nat)) ∧ w = w' := err_any _ s a e w h.cur
theorem left_ci {w0 w : World} {s : ByteArray} {a e : Nat} (hs : s.size ≤ maxLen) (ha : a ≤ s.size) (h : CI w0 s a e w) :
    Calls Tryz.prog 155 #[.pointer (some ⟨w0.heap.size, 0, none⟩)] w fun r w' => r = .returned (.int .i64 ((s.size : Int) - a)) ∧ ∃ d, w' = w.drewN d := left_any _ s a e hs ha w h.cur
theorem errB_zero {s : ByteArray} {a e : Nat} {n : Int} (h : errB s a e n = 0) : e = 0 ∧ 0 ≤ n ∧ a + n.toNat ≤ s.size ∧ atB s a e n = a + n.toNat := by
  unfold errB at h
  split at h
  · rename_i hm
    have hm' := hm
    unfold mayB at hm
    have := of_decide_eq_true hm
    refine ⟨this.1, by omega, by omega, ?_⟩
    unfold atB
    rw [if_pos hm']
  · cases h
theorem numB_one (s : ByteArray) (a : Nat) (h : a + 1 ≤ s.size) : numB s a 0 1 = (nums s).getD a 0 := by
  unfold numB
  rw [nums_piece s a 1 h]
  have hl : a < (nums s).length := by rw [nums_len]; omega
  rw [List.drop_eq_getElem_cons hl]
  simp only [List.take_succ_cons, List.take_zero, numL, List.getD_eq_getElem?_getD, List.getElem?_eq_getElem hl, Option.getD_some]
  omega

/-! ### PrintOwner -/
def ownT (u g : Nat) : ByteArray := (⟨#[1, 4]⟩ : ByteArray) ++ text (le u 4) ++ ⟨#[4]⟩ ++ text (le g 4)
theorem printOwner_any (u g : Nat) (hu : u < 4294967296) (hg : g < 4294967296) (w : World) :
    Calls Tryz.prog 193 #[.int .u32 u, .int .u32 g] w fun e w' => e = .returned (.string (ownT u g)) ∧ Below w.heap.size w w' := by
  have z1 : (text (le u 4)).size ≤ 4 := by rw [text_size, le_len]; omega
  have z2 : (text (le g 4)).size ≤ 4 := by rw [text_size, le_len]; omega
  go_enter Tryz.func193, Tryz.ntmps193
  go_wp2_with fail
  refine (four_any u hu _).mono ?_; rintro r w1 ⟨rfl, h1⟩
  go_wp2_with fail
  refine (four_any g hg _).mono ?_; rintro r w2 ⟨rfl, h2⟩
  have H := Lib.hid (below_then h1 h2)
  clear h1 h2
  go_wp2_with fail
  go_ret
  exact ⟨rfl, H.out⟩
end Go.Proofs.YtpkhpaklhfomkaaGreatDoor
