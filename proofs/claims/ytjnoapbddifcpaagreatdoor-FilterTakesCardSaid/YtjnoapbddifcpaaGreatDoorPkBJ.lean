/-
  Plain facts on the step of a sum, its rounds, and the product of two numbers as polynomials. No Go in sight.
  Contracts of the sum's step, product and shift.
  Contract of the table's making.
  Contracts of the sum that goes on, by a table and by none.
  Contracts: a text's sum, two sums joined; the document's answers; the chapter's example.
-/
import Derived.Test.YtjnoapbddifcpaaGreatDoorPkAA
import Derived.Test.YtjnoapbddifcpaaGreatDoorPkBB
import Derived.Deep.QuietTactic
import Derived.BigQuiet

namespace Go.Proofs.YtjnoapbddifcpaaGreatDoor.Crc

/-- A step. -/
def st (n : Nat) : Nat := if n % 2 = 1 then (n / 2) ^^^ 3988292384 else n / 2
/-- So many steps. -/
def it : Nat → Nat → Nat
  | 0, n => n
  | k + 1, n => st (it k n)

theorem st_even (n : Nat) (h : n % 2 ≠ 1) : st n = n / 2 := if_neg h
theorem st_odd (n : Nat) (h : n % 2 = 1) : st n = (n / 2) ^^^ 3988292384 := if_pos h

theorem st_lt (n : Nat) (h : n < 4294967296) : st n < 4294967296 := by
  unfold st
  split
  · exact Nat.xor_lt_two_pow (n := 32) (by omega) (by omega)
  · omega
theorem it_lt (k n : Nat) (h : n < 4294967296) : it k n < 4294967296 := by
  induction k with
  | zero => exact h
  | succ k ih => exact st_lt _ ih

theorem xor_mod2 (a b : Nat) : (a ^^^ b) % 2 = (a % 2 + b % 2) % 2 := by
  have h := Nat.xor_mod_two_eq_one (a := a) (b := b)
  omega
theorem xor_div2 (a b : Nat) : (a ^^^ b) / 2 = (a / 2) ^^^ (b / 2) := by
  have := Nat.shiftRight_xor_distrib (a := a) (b := b) (i := 1)
  simpa [Nat.shiftRight_eq_div_pow] using this

theorem st_xor (a b : Nat) : st (a ^^^ b) = st a ^^^ st b := by
  have h := xor_mod2 a b
  have hd := xor_div2 a b
  by_cases ha : a % 2 = 1 <;> by_cases hb : b % 2 = 1
  · rw [st_even _ (by omega), st_odd a ha, st_odd b hb, hd]
    rw [Nat.xor_comm (b / 2), ← Nat.xor_assoc, Nat.xor_assoc (a / 2), Nat.xor_self, Nat.xor_zero]
  · rw [st_odd _ (by omega), st_odd a ha, st_even b hb, hd, Nat.xor_assoc, Nat.xor_comm (b / 2), ← Nat.xor_assoc]
  · rw [st_odd _ (by omega), st_even a ha, st_odd b hb, hd, Nat.xor_assoc]
  · rw [st_even _ (by omega), st_even a ha, st_even b hb, hd]
theorem it_xor (k a b : Nat) : it k (a ^^^ b) = it k a ^^^ it k b := by
  induction k with
  | zero => rfl
  | succ k ih => show st (it k (a ^^^ b)) = st (it k a) ^^^ st (it k b); rw [ih, st_xor]
/-- Eight steps of what has noughts below are eight places. -/
theorem it_pow (k m : Nat) : it k (2 ^ k * m) = m := by
  induction k generalizing m with
  | zero => simp [it]
  | succ k ih =>
    have e : 2 ^ (k + 1) * m = 2 ^ k * (2 * m) := by rw [Nat.pow_succ, Nat.mul_assoc]
    show st (it k (2 ^ (k + 1) * m)) = m
    rw [e, ih, st_even _ (by omega)]
    omega

/-! ### bytes -/
theorem split_byte (c : Nat) : c = (c % 256) ^^^ (256 * (c / 256)) := by
  apply Nat.eq_of_testBit_eq
  intro i
  have e : 256 * (c / 256) = (c / 2 ^ 8) * 2 ^ 8 := by omega
  rw [Nat.testBit_xor, show (256 : Nat) = 2 ^ 8 from rfl, Nat.testBit_mod_two_pow, show 2 ^ 8 * (c / 2 ^ 8) = (c / 2 ^ 8) * 2 ^ 8 from Nat.mul_comm _ _, ← Nat.shiftLeft_eq, Nat.testBit_shiftLeft, Nat.testBit_div_two_pow]
  by_cases h : i < 8
  · simp [h, Nat.not_le.mpr h]
  · simp [h, Nat.le_of_not_lt h, Nat.sub_add_cancel (Nat.le_of_not_lt h)]
/-- What a byte does to a sum, by the table. -/
theorem by_table (c s : Nat) (_hs : s < 256) : it 8 ((c % 256) ^^^ s) ^^^ (c / 256) = it 8 (c ^^^ s) := by
  have e : c ^^^ s = ((c % 256) ^^^ s) ^^^ (256 * (c / 256)) := by
    conv => lhs; rw [split_byte c]
    rw [Nat.xor_assoc, Nat.xor_comm (256 * (c / 256)), ← Nat.xor_assoc]
  rw [e, it_xor 8 ((c % 256) ^^^ s), show it 8 (256 * (c / 256)) = c / 256 from it_pow 8 (c / 256)]

/-- The bare sum of bytes behind c, by any table. -/
def through (T : Nat → Nat) (c : Nat) : List Nat → Nat
  | [] => c
  | s :: l => through T (T ((c % 256) ^^^ s) ^^^ (c / 256)) l
/-- The bare sum. -/
def raw (c : Nat) : List Nat → Nat
  | [] => c
  | s :: l => raw (it 8 (c ^^^ s)) l
theorem through_snoc (T : Nat → Nat) (c s : Nat) (l : List Nat) : through T c (l ++ [s]) = T ((through T c l % 256) ^^^ s) ^^^ (through T c l / 256) := by
  induction l generalizing c with
  | nil => rfl
  | cons x l ih => exact ih _
theorem raw_snoc (c s : Nat) (l : List Nat) : raw c (l ++ [s]) = it 8 (raw c l ^^^ s) := by
  induction l generalizing c with
  | nil => rfl
  | cons x l ih => exact ih _
theorem raw_lt (c : Nat) (l : List Nat) (hc : c < 4294967296) (hl : ∀ s ∈ l, s < 256) : raw c l < 4294967296 := by
  induction l generalizing c with
  | nil => exact hc
  | cons x l ih =>
    have hx := hl x (by simp)
    exact ih _ (it_lt 8 _ (Nat.xor_lt_two_pow (n := 32) hc (by omega))) fun s hs => hl s (by simp [hs])
theorem through_it (c : Nat) (l : List Nat) (hl : ∀ s ∈ l, s < 256) : through (it 8) c l = raw c l := by
  induction l generalizing c with
  | nil => rfl
  | cons x l ih =>
    show through (it 8) (it 8 ((c % 256) ^^^ x) ^^^ (c / 256)) l = raw (it 8 (c ^^^ x)) l
    rw [by_table c x (hl x (by simp))]
    exact ih _ fun s hs => hl s (by simp [hs])
/-- All bits turned. -/
def neg (n : Nat) : Nat := 4294967295 - n
theorem neg_xor (n : Nat) (h : n < 4294967296) : neg n = n ^^^ 4294967295 := by
  unfold neg
  apply Nat.eq_of_testBit_eq
  intro i
  have h32 : (4294967295 : Nat) = 2 ^ 32 - 1 := by decide
  rw [show 4294967295 - n = 2 ^ 32 - (n + 1) from by omega, Nat.testBit_two_pow_sub_succ (by omega), Nat.testBit_xor, h32, Nat.testBit_two_pow_sub_one]
  by_cases hi : i < 32
  · simp [hi]
  · have : n.testBit i = false := Nat.testBit_lt_two_pow (Nat.lt_of_lt_of_le h (by
      have := Nat.pow_le_pow_right (n := 2) (by omega) (Nat.le_of_not_lt hi)
      omega))
    simp [hi, this]
theorem neg_lt (n : Nat) : neg n < 4294967296 := by unfold neg; omega

/-! ### the product -/
/-- The number whose one bit is the power 0. -/
def e0 : Nat := 2147483648
/-- The product's first k rounds. -/
def pr (a b : Nat) : Nat → Nat
  | 0 => 0
  | k + 1 => if a.testBit (31 - k) then pr a b k ^^^ it k b else pr a b k
def product (a b : Nat) : Nat := pr a b 32

/-! ### shifts -/
/-- The powers that a shift goes by. -/
def pw (r : Nat) : Nat := it (8 * 2 ^ r) e0
/-- A number, so many bytes 0 behind it. -/
def shift (n s : Nat) : Nat := it (8 * n) s
end Go.Proofs.YtjnoapbddifcpaaGreatDoor.Crc

namespace Go.Proofs.YtjnoapbddifcpaaGreatDoor
open Go.RowKit

theorem and1_u32 (n : Nat) (hn : n < 4294967296) : bits .and .u32 (n : Int) 1 = ((n % 2 : Nat) : Int) := by
  have h := u32_and_nat n 1 hn (by omega)
  rw [Nat.and_one_is_mod] at h
  exact h
theorem half_xor (n : Nat) (hn : n < 4294967296) : bits .xor .u32 ((n : Int) / 2) 3988292384 = ((n / 2 ^^^ 3988292384 : Nat) : Int) :=
  u32_xor_nat (n / 2) 3988292384 (by omega) (by omega)

theorem step_any (n : Nat) (hn : n < 4294967296) (w : World) :
    Calls Tryz.prog 189 #[.int .u32 n] w fun e w' => e = .returned (.int .u32 (Crc.st n : Nat)) ∧ w = w' := by
  have ha := and1_u32 n hn
  by_cases h : n % 2 = 1
  · have hb : (bits .and .u32 (n : Int) 1 == 0) = false := by rw [ha, h]; rfl
    clear ha
    go_enter Tryz.func189, Tryz.ntmps189
    go_wp2
    go_ret
    exact ⟨ret_eq (by rw [Crc.st_odd n h]; exact half_xor n hn), rfl⟩
  · have hb : (bits .and .u32 (n : Int) 1 == 0) = true := by rw [ha, show n % 2 = 0 by omega]; rfl
    clear ha
    go_enter Tryz.func189, Tryz.ntmps189
    go_wp2
    go_ret
    exact ⟨ret_eq (by rw [Crc.st_even n h]; rfl), rfl⟩

theorem xor32 (a b : Nat) (ha : a < 4294967296) (hb : b < 4294967296) : bits .xor .u32 (a : Int) (b : Int) = ((a ^^^ b : Nat) : Int) := u32_xor_nat a b ha hb

end Go.Proofs.YtjnoapbddifcpaaGreatDoor

namespace Go.Proofs.YtjnoapbddifcpaaGreatDoor
open Go.RowKit

/-- The 256 cells of a table. -/
def tab (f : Nat → Nat) : Array Value := ((List.range 256).map fun i => Value.int .u32 (f i : Nat)).toArray
theorem tab_size (f : Nat → Nat) : (tab f).size = 256 := by simp [tab]
theorem tab_at (f : Nat → Nat) (i : Nat) (hi : i < 256) : (tab f)[i]? = some (.int .u32 (f i : Nat)) := by
  unfold tab
  simp [List.getElem?_range hi]
theorem tab_ext (f g : Nat → Nat) (h : ∀ i, i < 256 → f i = g i) : tab f = tab g := by
  unfold tab
  congr 1
  apply List.map_congr_left
  intro i hi
  rw [h i (by simpa using hi)]
theorem tab_set (f : Nat → Nat) (k x : Nat) (hk : k < 256) : (tab f).setIfInBounds k (.int .u32 (x : Nat)) = tab (fun i => if i = k then x else f i) := by
  apply Array.ext_getElem?
  intro i
  rw [Array.getElem?_setIfInBounds, tab_size]
  by_cases hi : i < 256
  · by_cases h : k = i
    · subst h
      rw [if_pos rfl, if_pos hi, tab_at _ _ hi, if_pos rfl]
    · rw [if_neg h, tab_at _ _ hi, tab_at _ _ hi, if_neg (fun e => h e.symm)]
  · have hn : ∀ g : Nat → Nat, (tab g)[i]? = none := fun g => by rw [Array.getElem?_eq_none_iff, tab_size]; omega
    rw [hn, hn]
    by_cases h : k = i
    · rw [if_pos h, if_neg (by omega)]
    · rw [if_neg h]

theorem zero_table (w : World) : (zeroValue 273).run Tryz.prog w = .ok (.agg (tab fun _ => 0)) w := by kernel_rfl
theorem info_table : (Tryz.prog.info? 273).map (·.size) = some 256 := by kernel_rfl

theorem tab_one (f : Nat → Nat) : (tab f).all (·.oneCell') = true := by
  rw [Array.all_eq_true_iff_forall_mem]
  intro v hv
  unfold tab at hv
  simp at hv
  obtain ⟨i, _, rfl⟩ := hv
  rfl

/-- A block that is a table. -/
def IsTab (w : World) (g : Nat) (f : Nat → Nat) : Prop := w.heap[g]? = some (.cells (tab f) 273 (0, 0))
theorem IsTab.cell {w : World} {g : Nat} {f : Nat → Nat} (h : IsTab w g f) (i : Nat) (hi : i < 256) : w.cell? ⟨g, i, none⟩ = some (.int .u32 (f i : Nat)) := by
  rw [cell_of_row w g i _ _ _ h, tab_at f i hi]
theorem IsTab.frozen {w : World} {g : Nat} {f : Nat → Nat} (h : IsTab w g f) (i : Nat) : w.frozen? ⟨g, i, none⟩ = false := frozen_of_row w g i _ _ h
theorem IsTab.lt {w : World} {g : Nat} {f : Nat → Nat} (h : IsTab w g f) : g < w.heap.size := by
  rcases Nat.lt_or_ge g w.heap.size with hlt | hge
  · exact hlt
  · unfold IsTab at h; rw [Array.getElem?_eq_none hge] at h; cases h
theorem IsTab.set {w : World} {g : Nat} {f : Nat → Nat} (h : IsTab w g f) (k x : Nat) (hk : k < 256) : IsTab (w.setCell ⟨g, k, none⟩ (.int .u32 (x : Nat))) g (fun i => if i = k then x else f i) := by
  have e := heap_setCell_same w g k _ _ (.int .u32 (x : Nat)) h
  rw [tab_set f k x hk] at e
  exact e
theorem IsTab.other {w : World} {g : Nat} {f : Nat → Nat} (h : IsTab w g f) (a : Addr) (v : Value) (hne : g ≠ a.block) : IsTab (w.setCell a v) g f := (heap_setCell_other w a g v hne).trans h
theorem IsTab.below {w w' : World} {B g : Nat} {f : Nat → Nat} (h : IsTab w g f) (hb : Below B w w') (hg : g < B) : IsTab w' g f := (hb.block g hg).trans h
theorem IsTab.alloc {w : World} {g : Nat} {f : Nat → Nat} (h : IsTab w g f) (o : Obj) : IsTab (w.alloc o) g f := (Below.heap_alloc w o g h.lt).trans h
theorem IsTab.new (w : World) (f : Nat → Nat) : IsTab (w.alloc (.cells (tab f) 273)) w.heap.size f := heap_alloc_new w _
theorem IsTab.ext {w : World} {g : Nat} {f f' : Nat → Nat} (h : IsTab w g f) (e : ∀ i, i < 256 → f i = f' i) : IsTab w g f' := by
  unfold IsTab at *
  rw [← tab_ext f f' e]
  exact h

/-- The table, its first k numbers made. -/
def part (k : Nat) (i : Nat) : Nat := if i < k then Crc.it 8 i else 0

set_option maxRecDepth 100000 in
theorem make_any (w : World) :
    Calls Tryz.prog 173 #[] w fun e w' => e = .returned (.agg (tab (Crc.it 8))) ∧ Below w.heap.size w w' := by
  have hz := zero_table
  go_enter Tryz.func173, Tryz.ntmps173
  go_wp2
  go_loopw [4] (fun i wr => ∃ k : Nat, k ≤ 256 ∧ i = .int .i64 k ∧ IsTab wr w.heap.size (fun _ => 0) ∧ IsTab wr (w.heap.size + 1) (part k) ∧ Below w.heap.size w wr) (fun i _ => 256 - (intOf i).toNat)
  case atStart =>
    refine ⟨0, Nat.zero_le _, rfl, ?_, ?_, ?_⟩
    · exact (IsTab.new w _).alloc _
    · have h := IsTab.new (w.alloc (.cells (tab fun _ => 0) 273)) (part 0)
      simp at h
      exact h
    · exact ((Below.refl _ _).alloc (Nat.le_refl _) _).alloc (by simp) _
  case round =>
    obtain ⟨k, hk, rfl, h0, h1, hb⟩ := hrel
    have H0 := Lib.hid h0
    have H1 := Lib.hid h1
    have HB := Lib.hid hb
    clear hz
    by_cases hlt : k < 256
    · have hc := h1.cell k hlt
      have hf := h1.frozen k
      have hd : decide ((k : Int) < 256) = true := decide_eq_true (by omega)
      clear h0 h1 hb
      go_wp2
      go_loop [3, 9] (fun n i => ∃ j : Nat, j ≤ 8 ∧ i = .int .i64 j ∧ n = .int .u32 (Crc.it j k : Nat)) (fun _ i => 8 - (intOf i).toNat)
      case atStart => exact ⟨0, Nat.zero_le _, rfl, by go_num⟩
      case round =>
        obtain ⟨j, hj, rfl, rfl⟩ := hrel
        have hl := Crc.it_lt j k (by omega)
        by_cases hj8 : j < 8
        · go_wp2_with (go_at_call 189; refine (step_any _ hl _).mono ?_; rintro e w' ⟨rfl, rfl⟩)
          go_round
          case rel => exact ⟨j + 1, by omega, by go_num, rfl⟩
          case measure => simp [intOf]; omega
        · obtain rfl : j = 8 := by omega
          go_wp2
          go_roundw
          case rel => exact ⟨k + 1, by omega, by go_num, H0.out.other _ _ (by simp), (H1.out.set k _ hlt).ext (by intro i _; unfold part; by_cases h : i = k <;> by_cases h2 : i < k <;> simp [h, h2] <;> omega), HB.out.setCell (by simp) _⟩
          case measure => simp [intOf]; omega
    · obtain rfl : k = 256 := by omega
      clear h0 h1 hb
      go_wp2_with (first | (refine wpList_load_row rfl 273 (.tmp 1) rfl (w.heap.size + 1) rfl 273 _ (0, 0) _ H1.out Tryz.underlying273 rfl (by rw [tab_size]; exact info_table) ?_) | (refine wpList_store_row rfl 273 (.tmp 0) (.tmp 18) rfl w.heap.size (tab (part 256)) rfl rfl 273 (tab fun _ => 0) H0.out (by rw [tab_size]; exact info_table) (by rw [tab_size, tab_size]) (tab_one _) ?_))
      have h2 : IsTab (wr.setRow w.heap.size (tab (part 256))) w.heap.size (Crc.it 8) :=
        IsTab.ext (f := part 256) (setRow_heap wr w.heap.size _ (tab (part 256)) _ _ H0.out) (fun i hi => by unfold part; rw [if_pos hi])
      exact bodyPost_ret (results_cell_row rfl _ _ w.heap.size 273 (tab (Crc.it 8)) (0, 0) _ rfl h2 Tryz.underlying273 rfl (by rw [tab_size]; exact info_table)) rfl ⟨rfl, below_setRow HB.out (Nat.le_refl _) _⟩
end Go.Proofs.YtjnoapbddifcpaaGreatDoor

namespace Go.Proofs.YtjnoapbddifcpaaGreatDoor
open Go.RowKit

theorem through_lt (f : Nat → Nat) (hf : ∀ i, i < 256 → f i < 4294967296) (c : Nat) (l : List Nat) (hc : c < 4294967296) (hl : ∀ s ∈ l, s < 256) : Crc.through f c l < 4294967296 := by
  induction l generalizing c with
  | nil => exact hc
  | cons x l ih =>
    have hx := hl x (by simp)
    refine ih _ (Nat.xor_lt_two_pow (n := 32) (hf _ (Nat.xor_lt_two_pow (n := 8) (by omega) (by omega))) (by omega)) fun s hs => hl s (by simp [hs])

theorem update_tab (f : Nat → Nat) (hf : ∀ i, i < 256 → f i < 4294967296) (g c : Nat) (hc : c < 4294967296) (s : ByteArray) (hs : s.size ≤ maxLen) (w : World) (ht : IsTab w g f) :
    Calls Tryz.prog 190 #[.pointer (some ⟨g, 0, none⟩), .int .u32 c, .string s] w fun e w' => e = .returned (.int .u32 (Crc.neg (Crc.through f (Crc.neg c) (nums s)) : Nat)) ∧ ∃ n, w' = w.drewN n := by
  unfold maxLen at hs
  have HT := Lib.hid ht
  clear ht
  go_enter Tryz.func190, Tryz.ntmps190
  go_wp2
  have e0 : bits BinOp.xor IntKind.u32 IntKind.u32.max (c : Int) = ((Crc.neg c : Nat) : Int) := by
    rw [Crc.neg_xor c hc, Nat.xor_comm]
    exact u32_xor_nat 4294967295 c (by omega) hc
  rw [e0]
  clear e0
  go_loopw [1, 16] (fun x i wr => ∃ k : Nat, k ≤ s.size ∧ i = .int .i64 k ∧ x = .int .u32 (Crc.through f (Crc.neg c) ((nums s).take k) : Nat) ∧ ∃ n, wr = w.drewN n) (fun _ i _ => s.size - (intOf i).toNat)
  case atStart => exact ⟨0, Nat.zero_le _, rfl, rfl, 0, rfl⟩
  case round =>
    obtain ⟨k, hk, rfl, rfl, nd, rfl⟩ := hrel
    have hX := through_lt f hf (Crc.neg c) _ (Crc.neg_lt c) (nums_take_lt s k)
    generalize hXX : Crc.through f (Crc.neg c) ((nums s).take k) = X at hX
    have HX := Lib.hid hXX
    clear hXX
    by_cases hlt : k < s.size
    · have hsk : s[k].toNat < 256 := s[k].toNat_lt
      have hxx : bits .xor .u8 ((X : Int) % 256) (s[k].toNat : Int) = (((X % 256) ^^^ s[k].toNat : Nat) : Int) := u8_xor_nat (X % 256) _ (by omega) hsk
      have hJ : (X % 256) ^^^ s[k].toNat < 256 := Nat.xor_lt_two_pow (n := 8) (by omega) hsk
      have hcell := HT.out.cell _ hJ
      go_wp2
      go_quiet (fail)
      go_wp2
      go_roundw
      case rel =>
        refine ⟨k + 1, by omega, by go_num, ?_, nd + nq, rfl⟩
        rw [nums_snoc s k hlt, Crc.through_snoc, HX.out]
        congr 1
        exact xor32 _ (X / 256) (hf _ hJ) (by omega)
      case measure => simp [intOf]; omega
    · obtain rfl : k = s.size := by omega
      go_wp2
      go_ret
      refine ⟨ret_eq ?_, nd, rfl⟩
      have h := HX.out
      rw [← nums_len, List.take_length] at h
      rw [h, Crc.neg_xor X hX, Nat.xor_comm]
      exact u32_xor_nat 4294967295 X (by omega) hX

theorem it8_lt (i : Nat) (hi : i < 256) : Crc.it 8 i < 4294967296 := Crc.it_lt 8 i (by omega)

end Go.Proofs.YtjnoapbddifcpaaGreatDoor

namespace Go.Proofs.YtjnoapbddifcpaaGreatDoor
open Go.RowKit

/-- The sum of a text, by any table's function. -/
def sumBy (f : Nat → Nat) (c : Nat) (s : ByteArray) : Nat := Crc.neg (Crc.through f (Crc.neg c) (nums s))
/-- The sum of a text that goes on from c. -/
def sum (c : Nat) (s : ByteArray) : Nat := Crc.neg (Crc.raw (Crc.neg c) (nums s))
theorem sumBy_it (c : Nat) (s : ByteArray) : sumBy (Crc.it 8) c s = sum c s := by
  unfold sumBy sum
  rw [Crc.through_it _ _ (nums_lt s)]
theorem sum_lt (c : Nat) (s : ByteArray) : sum c s < 4294967296 := Crc.neg_lt _
theorem sum_tab (g : Nat) (s : ByteArray) (hs : s.size ≤ maxLen) (w : World) (ht : IsTab w g (Crc.it 8)) :
    Calls Tryz.prog 174 #[.pointer (some ⟨g, 0, none⟩), .string s] w fun e w' => e = .returned (.int .u32 (sum 0 s : Nat)) ∧ ∃ n, w' = w.drewN n := by
  have hu := update_tab (Crc.it 8) it8_lt g 0 (by omega) s hs w ht
  have HU := Lib.hid hu
  clear hu ht
  have e := sumBy_it 0 s
  unfold sumBy at e
  have HE := Lib.hid e
  clear e
  go_enter Tryz.func174, Tryz.ntmps174
  go_wp2_with (go_at_call 190; refine (HU.out).mono ?_; rintro e w' ⟨rfl, n, rfl⟩)
  go_ret
  exact ⟨ret_eq (by rw [HE.out]), n, rfl⟩

theorem rstep_any (n : Nat) (hn : n < 4294967296) (w : World) :
    Calls Tryz.prog 196 #[.int .u32 n] w fun e w' => e = .returned (.int .u32 (Crc.st n : Nat)) ∧ w = w' := by
  by_cases h : n % 2 = 1
  · go_enter Tryz.func196, Tryz.ntmps196
    go_wp2
    go_ret
    exact ⟨ret_eq (by rw [Crc.st_odd n h]; exact half_xor n hn), rfl⟩
  · go_enter Tryz.func196, Tryz.ntmps196
    go_wp2
    go_ret
    exact ⟨ret_eq (by rw [Crc.st_even n h]; rfl), rfl⟩

theorem rbyte_any (n : Nat) (hn : n < 4294967296) (w : World) :
    Calls Tryz.prog 183 #[.int .u32 n] w fun e w' => e = .returned (.int .u32 (Crc.it 8 n : Nat)) ∧ w = w' := by
  go_enter Tryz.func183, Tryz.ntmps183
  go_wp2
  go_loop [0, 3] (fun x i => ∃ k : Nat, k ≤ 8 ∧ i = .int .i64 k ∧ x = .int .u32 (Crc.it k n : Nat)) (fun _ i => 8 - (intOf i).toNat)
  case atStart => exact ⟨0, Nat.zero_le _, rfl, rfl⟩
  case round =>
    obtain ⟨k, hk, rfl, rfl⟩ := hrel
    have hl := Crc.it_lt k n hn
    by_cases hlt : k < 8
    · go_wp2_with (go_at_call 196; refine (rstep_any _ hl _).mono ?_; rintro e w' ⟨rfl, rfl⟩)
      go_round
      case rel => exact ⟨k + 1, by omega, by go_num, rfl⟩
      case measure => simp [intOf]; omega
    · obtain rfl : k = 8 := by omega
      go_wp2
      go_ret
      exact ⟨rfl, rfl⟩

theorem neg_int (c : Nat) (hc : c < 4294967296) : (4294967295 : Int) - (c : Int) = ((Crc.neg c : Nat) : Int) := by unfold Crc.neg; omega

theorem rupdate_any (c : Nat) (hc : c < 4294967296) (s : ByteArray) (hs : s.size ≤ maxLen) (w : World) :
    Calls Tryz.prog 160 #[.int .u32 c, .string s] w fun e w' => e = .returned (.int .u32 (sum c s : Nat)) ∧ w = w' := by
  unfold maxLen at hs
  go_enter Tryz.func160, Tryz.ntmps160
  go_wp2
  rw [neg_int c hc]
  go_loop [0, 5] (fun x i => ∃ k : Nat, k ≤ s.size ∧ i = .int .i64 k ∧ x = .int .u32 (Crc.raw (Crc.neg c) ((nums s).take k) : Nat)) (fun _ i => s.size - (intOf i).toNat)
  case atStart => exact ⟨0, Nat.zero_le _, rfl, rfl⟩
  case round =>
    obtain ⟨k, hk, rfl, rfl⟩ := hrel
    have hX := Crc.raw_lt (Crc.neg c) _ (Crc.neg_lt c) (nums_take_lt s k)
    generalize hXX : Crc.raw (Crc.neg c) ((nums s).take k) = X at hX
    have HX := Lib.hid hXX
    clear hXX
    by_cases hlt : k < s.size
    · have hsk : s[k].toNat < 256 := s[k].toNat_lt
      have hxx := xor32 X s[k].toNat hX (by omega)
      have hl : X ^^^ s[k].toNat < 4294967296 := Nat.xor_lt_two_pow (n := 32) hX (by omega)
      go_wp2_with (go_at_call 183; refine (rbyte_any _ hl _).mono ?_; rintro e w' ⟨rfl, rfl⟩)
      go_round
      case rel => exact ⟨k + 1, by omega, by go_num, by rw [nums_snoc s k hlt, Crc.raw_snoc, HX.out]⟩
      case measure => simp [intOf]; omega
    · obtain rfl : k = s.size := by omega
      go_wp2
      go_ret
      refine ⟨ret_eq ?_, rfl⟩
      have h := HX.out
      rw [← nums_len, List.take_length] at h
      rw [neg_int X hX]
      unfold sum
      rw [h]

theorem rsum_any (s : ByteArray) (hs : s.size ≤ maxLen) (w : World) :
    Calls Tryz.prog 118 #[.string s] w fun e w' => e = .returned (.int .u32 (sum 0 s : Nat)) ∧ w = w' := by
  have hu := rupdate_any 0 (by omega) s hs w
  have HU := Lib.hid hu
  clear hu
  go_enter Tryz.func118, Tryz.ntmps118
  go_wp2_with (go_at_call 160; refine (HU.out).mono ?_; rintro e w' ⟨rfl, rfl⟩)
  go_ret
  exact ⟨rfl, rfl⟩

def nine : ByteArray := ⟨#[49, 50, 51, 52, 53, 54, 55, 56, 57]⟩
end Go.Proofs.YtjnoapbddifcpaaGreatDoor
