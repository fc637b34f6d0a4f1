/-
  Contract of the table's making.
  Contracts of the sum that goes on, by a table and by none.
  Contracts: a text's sum, two sums joined; the document's answers; the chapter's example.
  Contracts: what a path's field tells: strays, sumOf, ParsePath, PrintPath, the document's.
  What the frames of this seat share: a wrap that hands on both what the listed variables hold and the world's shape; a start that meets the condition; what the condition gives our walks.
  CP437's upper half: what the package-level variable holds; contracts: runeOf, byteOf.
  Contracts: byteOf; the document's table.
-/
import Derived.Test.YtijfcmlgohbndaaGreatDoorPkAH
import Derived.Test.YtijfcmlgohbndaaGreatDoorPkAA
import Derived.Deep.QuietTactic
import Derived.BigQuiet
import Derived.Test.YtijfcmlgohbndaaGreatDoorPkAE
import Derived.Test.YtijfcmlgohbndaaGreatDoorPkAG
import Derived.Test.YtijfcmlgohbndaaGreatDoorShelf
import Derived.SizedLaws
import Derived.LaidMore
import Derived.LaidHandle
import Derived.Lib.LaidU8T
import Derived.PinnedBridge
import Derived.Shelf.Vars
import Derived.Stop.Joined
import Derived.Lib.LaidTab
import Derived.Laws.Rows

namespace Go.Proofs.YtijfcmlgohbndaaGreatDoor
open Go.RowKit

/-- The 256 cells of a table. -/
def tab (f : Nat → Nat) : Array Value := ((List.range 256).map fun i => Value.int .u32 (f i : Nat)).toArray
theorem tab_size (f : Nat → Nat) : (tab f).size = 256 := by simp [tab]
theorem tab_at (f : Nat → Nat) (i : Nat) (hi : i < 256) : (tab f)[i]? = some (.int .u32 (f i : Nat)) := by
  unfold tab
  simp [List.getElem?_range hi]
theorem tab_ext (f g : Nat → Nat) (h : ∀ i, i < 256 → f i = g i) : tab f = tab g := by
  unfold tab
  congr 1
  apply List.map_congr_left
  intro i hi
  rw [h i (by simpa using hi)]
theorem tab_set (f : Nat → Nat) (k x : Nat) (hk : k < 256) : (tab f).setIfInBounds k (.int .u32 (x : Nat)) = tab (fun i => if i = k then x else f i) := by
  apply Array.ext_getElem?
  intro i
  rw [Array.getElem?_setIfInBounds, tab_size]
  by_cases hi : i < 256
  · by_cases h : k = i
    · subst h
      rw [if_pos rfl, if_pos hi, tab_at _ _ hi, if_pos rfl]
    · rw [if_neg h, tab_at _ _ hi, tab_at _ _ hi, if_neg (fun e => h e.symm)]
  · have hn : ∀ g : Nat → Nat, (tab g)[i]? = none := fun g => by rw [Array.getElem?_eq_none_iff, tab_size]; omega
    rw [hn, hn]
    by_cases h : k = i
    · rw [if_pos h, if_neg (by omega)]
    · rw [if_neg h]

theorem zero_table (w : World) : (zeroValue 193).run Tryz.prog w = .ok (.agg (tab fun _ => 0)) w := by kernel_rfl
theorem info_table : (Tryz.prog.info? 193).map (·.size) = some 256 := by kernel_rfl

theorem tab_one (f : Nat → Nat) : (tab f).all (·.oneCell') = true := by
  rw [Array.all_eq_true_iff_forall_mem]
  intro v hv
  unfold tab at hv
  simp at hv
  obtain ⟨i, _, rfl⟩ := hv
  rfl

/-- A block that is a table. -/
def IsTab (w : World) (g : Nat) (f : Nat → Nat) : Prop := w.heap[g]? = some (.cells (tab f) 193 (0, 0))
theorem IsTab.cell {w : World} {g : Nat} {f : Nat → Nat} (h : IsTab w g f) (i : Nat) (hi : i < 256) : w.cell? ⟨g, i, none⟩ = some (.int .u32 (f i : Nat)) := by
  rw [cell_of_row w g i _ _ _ h, tab_at f i hi]
theorem IsTab.frozen {w : World} {g : Nat} {f : Nat → Nat} (h : IsTab w g f) (i : Nat) : w.frozen? ⟨g, i, none⟩ = false := frozen_of_row w g i _ _ h
theorem IsTab.lt {w : World} {g : Nat} {f : Nat → Nat} (h : IsTab w g f) : g < w.heap.size := by
  rcases Nat.lt_or_ge g w.heap.size with hlt | hge
  · exact hlt
  · unfold IsTab at h; rw [Array.getElem?_eq_none hge] at h; cases h
theorem IsTab.set {w : World} {g : Nat} {f : Nat → Nat} (h : IsTab w g f) (k x : Nat) (hk : k < 256) : IsTab (w.setCell ⟨g, k, none⟩ (.int .u32 (x : Nat))) g (fun i => if i = k then x else f i) := by
  have e := heap_setCell_same w g k _ _ (.int .u32 (x : Nat)) h
  rw [tab_set f k x hk] at e
  exact e
theorem IsTab.other {w : World} {g : Nat} {f : Nat → Nat} (h : IsTab w g f) (a : Addr) (v : Value) (hne : g ≠ a.block) : IsTab (w.setCell a v) g f := (heap_setCell_other w a g v hne).trans h
theorem IsTab.below {w w' : World} {B g : Nat} {f : Nat → Nat} (h : IsTab w g f) (hb : Below B w w') (hg : g < B) : IsTab w' g f := (hb.block g hg).trans h
theorem IsTab.alloc {w : World} {g : Nat} {f : Nat → Nat} (h : IsTab w g f) (o : Obj) : IsTab (w.alloc o) g f := (Below.heap_alloc w o g h.lt).trans h
theorem IsTab.new (w : World) (f : Nat → Nat) : IsTab (w.alloc (.cells (tab f) 193)) w.heap.size f := heap_alloc_new w _
theorem IsTab.ext {w : World} {g : Nat} {f f' : Nat → Nat} (h : IsTab w g f) (e : ∀ i, i < 256 → f i = f' i) : IsTab w g f' := by
  unfold IsTab at *
  rw [← tab_ext f f' e]
  exact h

/-- The table, its first k numbers made. -/
def part (k : Nat) (i : Nat) : Nat := if i < k then Crc.it 8 i else 0

set_option maxRecDepth 100000 in
theorem make_any (w : World) :
    Calls Tryz.prog 107 #[] w fun e w' => e = .returned (.agg (tab (Crc.it 8))) ∧ Below w.heap.size w w' := by
  have hz := zero_table
  go_enter Tryz.func107, Tryz.ntmps107
  go_wp2
  go_loopw [4] (fun i wr => ∃ k : Nat, k ≤ 256 ∧ i = .int .i64 k ∧ IsTab wr w.heap.size (fun _ => 0) ∧ IsTab wr (w.heap.size + 1) (part k) ∧ Below w.heap.size w wr) (fun i _ => 256 - (intOf i).toNat)
  case atStart =>
    refine ⟨0, Nat.zero_le _, rfl, ?_, ?_, ?_⟩
    · exact (IsTab.new w _).alloc _
    · have h := IsTab.new (w.alloc (.cells (tab fun _ => 0) 193)) (part 0)
      simp at h
      exact h
    · exact ((Below.refl _ _).alloc (Nat.le_refl _) _).alloc (by simp) _
  case round =>
    obtain ⟨k, hk, rfl, h0, h1, hb⟩ := hrel
    have H0 := Lib.hid h0
    have H1 := Lib.hid h1
    have HB := Lib.hid hb
    clear hz
    by_cases hlt : k < 256
    · have hc := h1.cell k hlt
      have hf := h1.frozen k
      have hd : decide ((k : Int) < 256) = true := decide_eq_true (by omega)
      clear h0 h1 hb
      go_wp2
      go_loop [3, 9] (fun n i => ∃ j : Nat, j ≤ 8 ∧ i = .int .i64 j ∧ n = .int .u32 (Crc.it j k : Nat)) (fun _ i => 8 - (intOf i).toNat)
      case atStart => exact ⟨0, Nat.zero_le _, rfl, by go_num⟩
      case round =>
        obtain ⟨j, hj, rfl, rfl⟩ := hrel
        have hl := Crc.it_lt j k (by omega)
        by_cases hj8 : j < 8
        · go_wp2_with (go_at_call 123; refine (step_any _ hl _).mono ?_; rintro e w' ⟨rfl, rfl⟩)
          go_round
          case rel => exact ⟨j + 1, by omega, by go_num, rfl⟩
          case measure => simp [intOf]; omega
        · obtain rfl : j = 8 := by omega
          go_wp2
          go_roundw
          case rel => exact ⟨k + 1, by omega, by go_num, H0.out.other _ _ (by simp), (H1.out.set k _ hlt).ext (by intro i _; unfold part; by_cases h : i = k <;> by_cases h2 : i < k <;> simp [h, h2] <;> omega), HB.out.setCell (by simp) _⟩
          case measure => simp [intOf]; omega
    · obtain rfl : k = 256 := by omega
      clear h0 h1 hb
      go_wp2_with (first | (refine wpList_load_row rfl 193 (.tmp 1) rfl (w.heap.size + 1) rfl 193 _ (0, 0) _ H1.out Tryz.underlying193 rfl (by rw [tab_size]; exact info_table) ?_) | (refine wpList_store_row rfl 193 (.tmp 0) (.tmp 18) rfl w.heap.size (tab (part 256)) rfl rfl 193 (tab fun _ => 0) H0.out (by rw [tab_size]; exact info_table) (by rw [tab_size, tab_size]) (tab_one _) ?_))
      have h2 : IsTab (wr.setRow w.heap.size (tab (part 256))) w.heap.size (Crc.it 8) :=
        IsTab.ext (f := part 256) (setRow_heap wr w.heap.size _ (tab (part 256)) _ _ H0.out) (fun i hi => by unfold part; rw [if_pos hi])
      exact bodyPost_ret (results_cell_row rfl _ _ w.heap.size 193 (tab (Crc.it 8)) (0, 0) _ rfl h2 Tryz.underlying193 rfl (by rw [tab_size]; exact info_table)) rfl ⟨rfl, below_setRow HB.out (Nat.le_refl _) _⟩
end Go.Proofs.YtijfcmlgohbndaaGreatDoor

namespace Go.Proofs.YtijfcmlgohbndaaGreatDoor
open Go.RowKit

theorem through_lt (f : Nat → Nat) (hf : ∀ i, i < 256 → f i < 4294967296) (c : Nat) (l : List Nat) (hc : c < 4294967296) (hl : ∀ s ∈ l, s < 256) : Crc.through f c l < 4294967296 := by
  induction l generalizing c with
  | nil => exact hc
  | cons x l ih =>
    have hx := hl x (by simp)
    refine ih _ (Nat.xor_lt_two_pow (n := 32) (hf _ (Nat.xor_lt_two_pow (n := 8) (by omega) (by omega))) (by omega)) fun s hs => hl s (by simp [hs])

theorem update_tab (f : Nat → Nat) (hf : ∀ i, i < 256 → f i < 4294967296) (g c : Nat) (hc : c < 4294967296) (s : ByteArray) (hs : s.size ≤ maxLen) (w : World) (ht : IsTab w g f) :
    Calls Tryz.prog 124 #[.pointer (some ⟨g, 0, none⟩), .int .u32 c, .string s] w fun e w' => e = .returned (.int .u32 (Crc.neg (Crc.through f (Crc.neg c) (nums s)) : Nat)) ∧ ∃ n, w' = w.drewN n := by
  unfold maxLen at hs
  have HT := Lib.hid ht
  clear ht
  go_enter Tryz.func124, Tryz.ntmps124
  go_wp2
  have e0 : bits BinOp.xor IntKind.u32 IntKind.u32.max (c : Int) = ((Crc.neg c : Nat) : Int) := by
    rw [Crc.neg_xor c hc, Nat.xor_comm]
    exact u32_xor_nat 4294967295 c (by omega) hc
  rw [e0]
  clear e0
  go_loopw [1, 16] (fun x i wr => ∃ k : Nat, k ≤ s.size ∧ i = .int .i64 k ∧ x = .int .u32 (Crc.through f (Crc.neg c) ((nums s).take k) : Nat) ∧ ∃ n, wr = w.drewN n) (fun _ i _ => s.size - (intOf i).toNat)
  case atStart => exact ⟨0, Nat.zero_le _, rfl, rfl, 0, rfl⟩
  case round =>
    obtain ⟨k, hk, rfl, rfl, nd, rfl⟩ := hrel
    have hX := through_lt f hf (Crc.neg c) _ (Crc.neg_lt c) (nums_take_lt s k)
    generalize hXX : Crc.through f (Crc.neg c) ((nums s).take k) = X at hX
    have HX := Lib.hid hXX
    clear hXX
    by_cases hlt : k < s.size
    · have hsk : s[k].toNat < 256 := s[k].toNat_lt
      have hxx : bits .xor .u8 ((X : Int) % 256) (s[k].toNat : Int) = (((X % 256) ^^^ s[k].toNat : Nat) : Int) := u8_xor_nat (X % 256) _ (by omega) hsk
      have hJ : (X % 256) ^^^ s[k].toNat < 256 := Nat.xor_lt_two_pow (n := 8) (by omega) hsk
      have hcell := HT.out.cell _ hJ
      go_wp2
      go_quiet (fail)
      go_wp2
      go_roundw
      case rel =>
        refine ⟨k + 1, by omega, by go_num, ?_, nd + nq, rfl⟩
        rw [nums_snoc s k hlt, Crc.through_snoc, HX.out]
        congr 1
        exact xor32 _ (X / 256) (hf _ hJ) (by omega)
      case measure => simp [intOf]; omega
    · obtain rfl : k = s.size := by omega
      go_wp2
      go_ret
      refine ⟨ret_eq ?_, nd, rfl⟩
      have h := HX.out
      rw [← nums_len, List.take_length] at h
      rw [h, Crc.neg_xor X hX, Nat.xor_comm]
      exact u32_xor_nat 4294967295 X (by omega) hX

theorem it8_lt (i : Nat) (hi : i < 256) : Crc.it 8 i < 4294967296 := Crc.it_lt 8 i (by omega)

theorem update_nil (c : Nat) (hc : c < 4294967296) (s : ByteArray) (hs : s.size ≤ maxLen) (w : World) :
    Calls Tryz.prog 124 #[.pointer none, .int .u32 c, .string s] w fun e w' => e = .returned (.int .u32 (Crc.neg (Crc.raw (Crc.neg c) (nums s)) : Nat)) ∧ Below w.heap.size w w' := by
  unfold maxLen at hs
  have hz := zero_table
  go_enter Tryz.func124, Tryz.ntmps124
  go_wp2_with (first | (go_at_call 107; refine (make_any _).mono ?_; rintro e w1 ⟨rfl, hb1⟩) | (refine wpList_store_row rfl 193 (.tmp 7) (.tmp 11) rfl w1.heap.size (tab (Crc.it 8)) rfl rfl 193 (tab fun _ => 0) (heap_alloc_new _ _) (by rw [tab_size]; exact info_table) (by rw [tab_size, tab_size]) (tab_one _) ?_))
  have ht : IsTab ((w1.alloc (.cells (tab fun _ => 0) 193)).setRow w1.heap.size (tab (Crc.it 8))) w1.heap.size (Crc.it 8) := setRow_heap _ _ _ _ _ _ (heap_alloc_new _ _)
  have hb : Below w.heap.size w ((w1.alloc (.cells (tab fun _ => 0) 193)).setRow w1.heap.size (tab (Crc.it 8))) := below_setRow (hb1.alloc hb1.size _) hb1.size _
  generalize (w1.alloc (.cells (tab fun _ => 0) 193)).setRow w1.heap.size (tab (Crc.it 8)) = W1 at *
  generalize w1.heap.size = g at *
  have HT := Lib.hid ht
  have HB := Lib.hid hb
  clear ht hb hb1 hz
  have e0 : bits BinOp.xor IntKind.u32 IntKind.u32.max (c : Int) = ((Crc.neg c : Nat) : Int) := by
    rw [Crc.neg_xor c hc, Nat.xor_comm]
    exact u32_xor_nat 4294967295 c (by omega) hc
  rw [e0]
  clear e0
  go_loopw [1, 16] (fun x i wr => ∃ k : Nat, k ≤ s.size ∧ i = .int .i64 k ∧ x = .int .u32 (Crc.through (Crc.it 8) (Crc.neg c) ((nums s).take k) : Nat) ∧ ∃ n, wr = W1.drewN n) (fun _ i _ => s.size - (intOf i).toNat)
  case atStart => exact ⟨0, Nat.zero_le _, rfl, rfl, 0, rfl⟩
  case round =>
    obtain ⟨k, hk, rfl, rfl, nd, rfl⟩ := hrel
    have hX := through_lt (Crc.it 8) it8_lt (Crc.neg c) _ (Crc.neg_lt c) (nums_take_lt s k)
    generalize hXX : Crc.through (Crc.it 8) (Crc.neg c) ((nums s).take k) = X at hX
    have HX := Lib.hid hXX
    clear hXX
    by_cases hlt : k < s.size
    · have hsk : s[k].toNat < 256 := s[k].toNat_lt
      have hxx : bits .xor .u8 ((X : Int) % 256) (s[k].toNat : Int) = (((X % 256) ^^^ s[k].toNat : Nat) : Int) := u8_xor_nat (X % 256) _ (by omega) hsk
      have hJ : (X % 256) ^^^ s[k].toNat < 256 := Nat.xor_lt_two_pow (n := 8) (by omega) hsk
      have hcell := HT.out.cell _ hJ
      go_wp2
      go_quiet (fail)
      go_wp2
      go_roundw
      case rel =>
        refine ⟨k + 1, by omega, by go_num, ?_, nd + nq, rfl⟩
        rw [nums_snoc s k hlt, Crc.through_snoc, HX.out]
        congr 1
        exact xor32 _ (X / 256) (it8_lt _ hJ) (by omega)
      case measure => simp [intOf]; omega
    · obtain rfl : k = s.size := by omega
      go_wp2
      go_ret
      refine ⟨ret_eq ?_, below_drewN HB.out nd⟩
      have h := HX.out
      rw [← nums_len, List.take_length] at h
      rw [Crc.through_it _ _ (nums_lt s)] at h
      rw [h, Crc.neg_xor X hX, Nat.xor_comm]
      exact u32_xor_nat 4294967295 X (by omega) hX


end Go.Proofs.YtijfcmlgohbndaaGreatDoor

namespace Go.Proofs.YtijfcmlgohbndaaGreatDoor
open Go.RowKit

/-- The sum of a text, by any table's function. -/
def sumBy (f : Nat → Nat) (c : Nat) (s : ByteArray) : Nat := Crc.neg (Crc.through f (Crc.neg c) (nums s))
/-- The sum of a text that goes on from c. -/
def sum (c : Nat) (s : ByteArray) : Nat := Crc.neg (Crc.raw (Crc.neg c) (nums s))
theorem sumBy_it (c : Nat) (s : ByteArray) : sumBy (Crc.it 8) c s = sum c s := by
  unfold sumBy sum
  rw [Crc.through_it _ _ (nums_lt s)]
theorem sum_lt (c : Nat) (s : ByteArray) : sum c s < 4294967296 := Crc.neg_lt _
theorem sumBy_lt (f : Nat → Nat) (c : Nat) (s : ByteArray) : sumBy f c s < 4294967296 := Crc.neg_lt _

theorem sum_tab (g : Nat) (s : ByteArray) (hs : s.size ≤ maxLen) (w : World) (ht : IsTab w g (Crc.it 8)) :
    Calls Tryz.prog 108 #[.pointer (some ⟨g, 0, none⟩), .string s] w fun e w' => e = .returned (.int .u32 (sum 0 s : Nat)) ∧ ∃ n, w' = w.drewN n := by
  have hu := update_tab (Crc.it 8) it8_lt g 0 (by omega) s hs w ht
  have HU := Lib.hid hu
  clear hu ht
  have e := sumBy_it 0 s
  unfold sumBy at e
  have HE := Lib.hid e
  clear e
  go_enter Tryz.func108, Tryz.ntmps108
  go_wp2_with (go_at_call 124; refine (HU.out).mono ?_; rintro e w' ⟨rfl, n, rfl⟩)
  go_ret
  exact ⟨ret_eq (by rw [HE.out]), n, rfl⟩

theorem neg_int (c : Nat) (hc : c < 4294967296) : (4294967295 : Int) - (c : Int) = ((Crc.neg c : Nat) : Int) := by unfold Crc.neg; omega

def nine : ByteArray := ⟨#[49, 50, 51, 52, 53, 54, 55, 56, 57]⟩
theorem sum_nine : sum 0 nine = 3421780262 := by decide +kernel

theorem nine_calls (g : Nat) (w : World) (ht : IsTab w g (Crc.it 8)) :
    Calls Tryz.prog 108 #[.pointer (some ⟨g, 0, none⟩), .string ⟨#[49, 50, 51, 52, 53, 54, 55, 56, 57]⟩] w fun e w' => e = .returned (.int .u32 3421780262) ∧ ∃ n, w' = w.drewN n := by
  have h := sum_tab g nine (by decide) w ht
  rw [sum_nine] at h
  exact h

theorem made_tab (w1 : World) : IsTab ((w1.alloc (.cells (tab fun _ => 0) 193)).setRow w1.heap.size (tab (Crc.it 8))) w1.heap.size (Crc.it 8) := setRow_heap _ _ _ _ _ _ (heap_alloc_new _ _)
theorem made_below {w w1 : World} (hb1 : Below w.heap.size w w1) : Below w.heap.size w ((w1.alloc (.cells (tab fun _ => 0) 193)).setRow w1.heap.size (tab (Crc.it 8))) := below_setRow (hb1.alloc hb1.size _) hb1.size _

end Go.Proofs.YtijfcmlgohbndaaGreatDoor

namespace Go.Proofs.YtijfcmlgohbndaaGreatDoor
set_option maxRecDepth 100000
open Go.RowKit Go.Deep Go.Joins

theorem decode_utf8 (s : ByteArray) (w : World) :
    Calls Tryz.prog 59 #[.string s, .bool true] w fun e w' => e = .returned (if straysB s = true then .tuple #[.string .empty, .int .i64 20] else .tuple #[.string s, .int .i64 0]) ∧ Below w.heap.size w w' := by
  have HS := Lib.hid (fun w => strays_any s w)
  cases hst : straysB s with
  | true =>
    rw [hst] at HS
    rw [if_pos rfl]
    go_enter Tryz.func59, Tryz.ntmps59
    go_wp2_with fail
    refine (HS.out _).mono ?_
    rintro e w1 ⟨rfl, hb⟩
    go_wp2_with fail
    go_ret2
    exact ⟨rfl, hb⟩
  | false =>
    rw [hst] at HS
    rw [if_neg (by decide)]
    go_enter Tryz.func59, Tryz.ntmps59
    go_wp2_with fail
    refine (HS.out _).mono ?_
    rintro e w1 ⟨rfl, hb⟩
    go_wp2_with fail
    go_ret2
    exact ⟨rfl, hb⟩
theorem made_tabX (w1 : World) : IsTab ((w1.alloc (.cells (tab fun _ => 0) 193)).setRow w1.heap.size (tab (Crc.it 8))) w1.heap.size (Crc.it 8) := setRow_heap _ _ _ _ _ _ (heap_alloc_new _ _)
theorem made_belowX {w w1 : World} (hb1 : Below w.heap.size w w1) : Below w.heap.size w ((w1.alloc (.cells (tab fun _ => 0) 193)).setRow w1.heap.size (tab (Crc.it 8))) := below_setRow (hb1.alloc hb1.size _) hb1.size _
theorem sumOf_any (s : ByteArray) (hs : s.size ≤ maxLen) (w : World) :
    Calls Tryz.prog 86 #[.string s] w fun e w' => e = .returned (.int .u32 (sum 0 s : Nat)) ∧ Below w.heap.size w w' := by
  have hz := zero_table
  have HS := Lib.hid (fun g w1 h => sum_tab g s hs w1 h)
  go_enter Tryz.func86, Tryz.ntmps86
  go_wp2_with (first | (go_at_call 107; refine (make_any _).mono ?_; rintro e w1 ⟨rfl, hb1⟩) | (refine wpList_store_row rfl 193 (.tmp 3) (.tmp 4) rfl w1.heap.size (tab (Crc.it 8)) rfl rfl 193 (tab fun _ => 0) (heap_alloc_new _ _) (by rw [tab_size]; exact info_table) (by rw [tab_size, tab_size]) (tab_one _) ?_) | (go_at_call 108; refine (HS.out _ _ (made_tabX _)).mono ?_; rintro e w2 ⟨rfl, n, rfl⟩))
  go_ret
  exact ⟨rfl, below_drewN (made_belowX hb1) n⟩

/-- What a path's field tells. -/
def pthN (s : ByteArray) : Nat := numL (((nums s).drop 1).take 4)
def pthR (s raw : ByteArray) : Value :=
  if ¬ (5 ≤ s.size ∧ (nums s).getD 0 0 = 1) then .tuple #[.string ⟨#[]⟩, .bool false, .int .i64 24]
  else if pthN s ≠ sum 0 raw then .tuple #[.string ⟨#[]⟩, .bool false, .int .i64 0]
  else if straysB (s.extract 5 s.size) = true then .tuple #[.string ⟨#[]⟩, .bool false, .int .i64 20] else .tuple #[.string (s.extract 5 s.size), .bool true, .int .i64 0]
theorem pthN_lt (s : ByteArray) : pthN s < 4294967296 := by
  have h := numL_lt (((nums s).drop 1).take 4) (fun x hx => nums_lt s x (List.mem_of_mem_drop (List.mem_of_mem_take hx)))
  exact Nat.lt_of_lt_of_le h (Nat.pow_le_pow_right (n := 256) (by omega) (show (((nums s).drop 1).take 4).length ≤ 4 by rw [List.length_take]; omega))
theorem pth_head {s raw : ByteArray} (h : ¬ (5 ≤ s.size ∧ (nums s).getD 0 0 = 1)) : pthR s raw = .tuple #[.string ⟨#[]⟩, .bool false, .int .i64 24] := if_pos h
theorem pth_sum {s raw : ByteArray} (h : 5 ≤ s.size ∧ (nums s).getD 0 0 = 1) (h2 : pthN s ≠ sum 0 raw) : pthR s raw = .tuple #[.string ⟨#[]⟩, .bool false, .int .i64 0] := by
  unfold pthR
  rw [if_neg (fun k => k h), if_pos h2]
theorem pth_rest {s raw : ByteArray} (h : 5 ≤ s.size ∧ (nums s).getD 0 0 = 1) (h2 : pthN s = sum 0 raw) : pthR s raw = if straysB (s.extract 5 s.size) = true then .tuple #[.string ⟨#[]⟩, .bool false, .int .i64 20] else .tuple #[.string (s.extract 5 s.size), .bool true, .int .i64 0] := by
  unfold pthR
  rw [if_neg (fun k => k h), if_neg (fun k => k h2)]
theorem tup_str (b : Bool) (T : ByteArray) : (if b = true then Value.tuple #[.string .empty, .int .i64 20] else .tuple #[.string T, .int .i64 0]) = .tuple #[.string (if b = true then ⟨#[]⟩ else T), .int .i64 (if b = true then 20 else 0)] := by
  cases b <;> rfl
theorem dec_yes {T : ByteArray} (h : straysB T = true) (w : World) : Calls Tryz.prog 59 #[.string T, .bool true] w fun e w' => e = .returned (.tuple #[.string ⟨#[]⟩, .int .i64 20]) ∧ Below w.heap.size w w' := by
  have k := decode_utf8 T w
  rw [if_pos h] at k
  exact k
theorem dec_no {T : ByteArray} (h : straysB T = false) (w : World) : Calls Tryz.prog 59 #[.string T, .bool true] w fun e w' => e = .returned (.tuple #[.string T, .int .i64 0]) ∧ Below w.heap.size w w' := by
  have k := decode_utf8 T w
  rw [if_neg (by rw [h]; decide)] at k
  exact k
set_option maxHeartbeats 2000000 in
theorem parsePath_any (s raw : ByteArray) (hs : s.size ≤ maxLen) (hr : raw.size ≤ maxLen) (w : World) :
    Calls Tryz.prog 60 #[.string s, .string raw] w fun e w' => e = .returned (pthR s raw) ∧ Below w.heap.size w w' := by
  have HSU := Lib.hid (fun w1 => sumOf_any raw hr w1)
  have HL := Lib.hid hs
  by_cases h5 : 5 ≤ s.size
  · have HT1 := Lib.hid (fun w1 (h : CI w s 0 0 w1) => take_ci 1 hs (Nat.zero_le _) (by decide) h)
    have e1 : piece s 0 0 1 = text [(nums s).getD 0 0] := piece_one s 0 (by omega)
    have e2 : atB s 0 0 1 = 1 := atB_yes s 0 1 (by omega)
    have e3 : errB s 0 0 1 = 0 := errB_yes s 0 1 (by omega)
    have e4 : numB s 1 0 4 = pthN s := by
      unfold numB pthN
      rw [nums_piece s 1 4 (by omega)]
    rw [e1, e2, e3] at HT1
    have HF1 := Lib.hid (fun w1 (h : CI w s 1 0 w1) => four_ci hs (by omega) h)
    rw [e4, atB_yes s 1 4 (by omega), errB_yes s 1 4 (by omega)] at HF1
    have HLF := Lib.hid (fun w1 (h : CI w s 5 0 w1) => left_ci hs h5 h)
    rw [show ((s.size : Int) - ((5 : Nat) : Int)) = ((s.size - 5 : Nat) : Int) by omega] at HLF
    have HTR := Lib.hid (fun w1 (h : CI w s 5 0 w1) => take_ci ((s.size - 5 : Nat) : Int) hs h5 (WalkArith.wf_i64 (by unfold maxLen at hs; omega)) h)
    have e5 : piece s 5 0 ((s.size - 5 : Nat) : Int) = s.extract 5 s.size := by
      unfold piece
      rw [if_pos (mayB_yes s 5 (s.size - 5) (by omega)), Int.toNat_natCast, show 5 + (s.size - 5) = s.size by omega]
    rw [e5] at HTR
    have hlt := pthN_lt s
    have hsl := sum_lt 0 raw
    have HPH := Lib.hid (fun h => pth_head (s := s) (raw := raw) h)
    have HPS := Lib.hid (fun h => pth_sum (s := s) (raw := raw) h)
    have HPR := Lib.hid (fun h => pth_rest (s := s) (raw := raw) h)
    have HY : Hid (s.extract 5 s.size = s.extract 5 s.size) := rfl
    clear e1 e2 e3 e4 e5
    generalize hy : (nums s).getD 0 0 = y at *
    generalize hT : s.extract 5 s.size = T at *
    generalize pthN s = pn at *
    generalize sum 0 raw = sn at *
    go_enter Tryz.func60, Tryz.ntmps60
    go_wp2_with fail
    refine (over_ci s _).mono ?_; rintro r w1 ⟨rfl, C1⟩
    go_wp2_with fail
    refine (HT1.out _ C1).mono ?_; rintro r w2 ⟨rfl, C2⟩
    clear C1
    go_wp2_with fail
    refine (HF1.out _ C2).mono ?_; rintro r w3 ⟨rfl, C3⟩
    have HE := Lib.hid (err_ci C3)
    clear C2
    go_wp2_with fail
    refine (HE.out).mono ?_; rintro r w4 ⟨rfl, rfl⟩
    have HC3 := Lib.hid C3
    clear C3 HE
    by_cases hy1 : y = 1
    · subst hy1
      have ht : text [1] = ⟨#[1]⟩ := rfl
      rw [ht]
      go_wp2_with fail
      refine (HSU.out _).mono ?_; rintro r w5 ⟨rfl, hb5⟩
      have HC5 := Lib.hid (HC3.out.below hb5)
      clear hb5
      by_cases hps : pn = sn
      · have hpb : ((pn : Int) != (sn : Int)) = false := by rw [hps]; simp
        have HR := Lib.hid (HPR.out ⟨h5, by first | rfl | trivial⟩ hps)
        clear hps HPS HPH HPR
        cases hst : straysB T with
        | true =>
          rw [hst, if_pos rfl] at HR
          have HDE := Lib.hid (fun w1 => dec_yes hst w1)
          clear hst
          go_wp2_with fail
          refine (HLF.out _ HC5.out).mono ?_; rintro r w6 ⟨rfl, d, rfl⟩
          have HC6 := Lib.hid (HC5.out.drewN d)
          go_wp2_with fail
          refine (HTR.out _ HC6.out).mono ?_; rintro r w7 ⟨rfl, C7⟩
          have HC7 := Lib.hid C7
          clear C7
          go_wp2_with fail
          refine (HDE.out _).mono ?_; rintro r w8 ⟨rfl, hb8⟩
          have HB8 := Lib.hid (below_then HC7.out.bel hb8)
          clear hb8
          go_wp2_with fail
          go_ret3
          exact ⟨by rw [HR.out]; rfl, HB8.out⟩
        | false =>
          rw [hst, if_neg (by decide)] at HR
          have HDE := Lib.hid (fun w1 => dec_no hst w1)
          clear hst
          go_wp2_with fail
          refine (HLF.out _ HC5.out).mono ?_; rintro r w6 ⟨rfl, d, rfl⟩
          have HC6 := Lib.hid (HC5.out.drewN d)
          go_wp2_with fail
          refine (HTR.out _ HC6.out).mono ?_; rintro r w7 ⟨rfl, C7⟩
          have HC7 := Lib.hid C7
          clear C7
          go_wp2_with fail
          refine (HDE.out _).mono ?_; rintro r w8 ⟨rfl, hb8⟩
          have HB8 := Lib.hid (below_then HC7.out.bel hb8)
          clear hb8
          go_wp2_with fail
          go_ret3
          exact ⟨by rw [HR.out]; rfl, HB8.out⟩
      · have hpb : ((pn : Int) != (sn : Int)) = true := by rw [bne_iff_ne]; omega
        have HR := Lib.hid (HPS.out ⟨h5, by first | rfl | trivial⟩ hps)
        go_wp2_with fail
        go_ret3
        exact ⟨by rw [HR.out]; rfl, HC5.out.bel⟩
    · have HR := Lib.hid (HPH.out (fun k => hy1 k.2))
      have hyl : y < 256 := by rw [← hy]; exact getD_lt s 0
      have hne : (text [y]).toList ≠ [1] := fun k => by
        have h2 : text [y] = ⟨#[1]⟩ := by
          apply ByteArray.ext
          apply Array.ext'
          have := k
          rw [Lib.toList_data] at this
          exact this
        have h3 := nums_text [y] (by simpa using hyl)
        rw [h2] at h3
        have h4 : [1] = [y] := h3
        simp at h4
        omega
      have hb : ((text [y]).toList == [1]) = false := by rw [beq_eq_false_iff_ne]; exact hne
      clear hy1 hne
      generalize text [y] = t1 at *
      go_wp2_with fail
      go_ret3
      exact ⟨by rw [HR.out]; rfl, HC3.out.bel⟩
  · have HR := Lib.hid (pth_head (s := s) (raw := raw) (fun k => h5 k.1))
    have hno : errB s (atB s 0 0 1) (errB s 0 0 1) (4 : Nat) ≠ 0 := fun k => by
      obtain ⟨e1, _, z1, _⟩ := errB_zero k
      obtain ⟨_, _, _, z2⟩ := errB_zero e1
      rw [z2, Int.toNat_natCast] at z1
      have : (1 : Int).toNat = 1 := rfl
      omega
    have HT1 := Lib.hid (fun w1 (h : CI w s 0 0 w1) => take_ci 1 hs (Nat.zero_le _) (by decide) h)
    have hle1 := atB_le s 0 0 1 (Nat.zero_le _)
    generalize piece s 0 0 1 = p1 at *
    generalize atB s 0 0 1 = a1 at *
    generalize errB s 0 0 1 = e1 at *
    have HF1 := Lib.hid (fun w1 (h : CI w s a1 e1 w1) => four_ci hs hle1 h)
    have hnl := numB_lt s a1 e1 4
    generalize numB s a1 e1 4 = n1 at *
    generalize atB s a1 e1 (4 : Nat) = a2 at *
    generalize errB s a1 e1 (4 : Nat) = e2 at *
    have heb : ((e2 : Int) != 0) = true := by rw [bne_iff_ne]; omega
    clear hno h5
    go_enter Tryz.func60, Tryz.ntmps60
    go_wp2_with fail
    refine (over_ci s _).mono ?_; rintro r w1 ⟨rfl, C1⟩
    go_wp2_with fail
    refine (HT1.out _ C1).mono ?_; rintro r w2 ⟨rfl, C2⟩
    clear C1
    go_wp2_with fail
    refine (HF1.out _ C2).mono ?_; rintro r w3 ⟨rfl, C3⟩
    have HE := Lib.hid (err_ci C3)
    clear C2
    go_wp2_with fail
    refine (HE.out).mono ?_; rintro r w4 ⟨rfl, rfl⟩
    have HC3 := Lib.hid C3
    clear C3 HE
    go_wp2_with fail
    go_ret3
    exact ⟨by rw [HR.out]; rfl, HC3.out.bel⟩
theorem nums_extp (t : ByteArray) (a b : Nat) : nums (t.extract a b) = ((nums t).drop a).take (b - a) := by
  unfold nums
  rw [ByteArray.data_extract]
  simp
/-- What PrintPath writes. -/
def ptT (path raw : ByteArray) : ByteArray := (⟨#[1]⟩ : ByteArray) ++ text (le (sum 0 raw) 4) ++ path
end Go.Proofs.YtijfcmlgohbndaaGreatDoor

namespace Go.Proofs.YtijfcmlgohbndaaGreatDoor
set_option maxRecDepth 100000
open Go.RowKit Go.Shelf Go.Lib

variable {H : Type} {enc : TypeId × Value → H}
theorem returns_door {a : Assume} {C : Checked} {os : Os} {f : FuncId} {fn : Func} {s : ChangeSpec} {conds : List PathCond} {apart fresh handsOn again : Bool} {X : World → Prop}
    (hX : ∀ w w' : World, w.heap = w'.heap → X w → X w')
    (own : ownKnob C.prog.godebug = none) (started : os.Started) (noInit : C.prog.inits.idxOf? f = none) (hfn : C.prog.funcs[f]? = some fn)
    (witness : ∃ (w : World) (tape : Tape) (i : Input), w.os = os ∧ (w.forCall tape i).Shaped C.prog ∧ i.vars = [] ∧ Input.okWide C.prog (w.forCall tape i) .any w.heap.size f i ∧
      ((s.pre enc C.prog fn conds apart (w.forCall tape i).memory i.args ∧ X (w.forCall tape i).memory) ∧ sizedMet enc C.prog fn (OpenSpec.ofChange s) apart (w.forCall tape i).memory i.args) ∧ a.holds C.prog (lone (Frame.enter C.prog f i.args .normal) [] (w.forCall tape i)))
    (contract : ∀ (W : World) (base : Nat) (args : Array Value) (ds gs : List (DataW H)) (before : List MemPlace),
      (∀ (j : Nat) t v, fn.params[j]? = some t → args[j]? = some v → Value.okWide C.prog W .any base t v) →
      DataW.Whole enc C.prog fn.params.toList s.vars apart W args.toList ds gs before →
      X W → W.ShapedOpen C.prog →
      Calls C.prog f args W fun e W' => ∃ v, e = .returned v ∧ s.post enc C.prog fn apart fresh handsOn again W args v W') :
    ReturnsInHanded a C os f .any (fun w args => (s.pre enc C.prog fn conds apart w args ∧ X w) ∧ sizedMet enc C.prog fn (OpenSpec.ofChange s) apart w args) (s.post enc C.prog fn apart fresh handsOn again) := by
  refine returnsInHanded_of_calls own started noInit witness fun w tape i _ hsh _ hok hpre _ => ?_
  obtain ⟨_, _, _, g, hg, _, _, _, _, hval⟩ := hok
  obtain rfl : g = fn := Option.some.inj (hg.symm.trans hfn)
  obtain ⟨⟨⟨ds, gs, before, hw, _⟩, hx⟩, _⟩ := hpre
  refine (contract (w.forCall tape i) w.heap.size i.args ds gs before hval (DataW.Whole.of_heap (w' := w.forCall tape i) (by rfl) hw) (hX _ _ (by rfl) hx) hsh).mono fun e W' ⟨v, he, hp⟩ => ?_
  subst he
  exact ChangeSpec.post_blind hp

theorem door_own : ownKnob Tryz.prog.godebug = none := by kernel_rfl
/-- The tables of unicode/utf8, and that of great letters. -/
def tabs3 : List (String × DataW Unit) := Rows.planModesRow.laid
/-- A start in which the door's run has laid its variables, and the pinned table lies in its block. -/
noncomputable def doorW (os : Os) : World :=
  { World.doorLaid Tryz.prog 24 os with heap := (World.doorLaid Tryz.prog 24 os).heap.setIfInBounds 2 (.cells ((List.range 256).map fun c => Value.int .u8 (firstT c)).toArray 226 (0, 0)) }
theorem door_met3 (os : Os) (args : Array Value) : laidMetH Tryz.prog tabs3 ((doorW os).forCall (fun _ _ => 0) ⟨#[], args, []⟩).memory :=
  laidMetH_of_parts3 (fuel := 8) (laidMet_of_run' 8 (by kernel_rfl) (by kernel_rfl)) (by kernel_rfl) (by kernel_rfl)
theorem u8extra : U8Extra Tryz.prog sh_lays197_ren := { n3 := by kernel_rfl, n4 := by kernel_rfl, y3 := by kernel_rfl, y4 := by kernel_rfl, c5 := by kernel_rfl, c119 := by kernel_rfl, c138 := by kernel_rfl }
theorem accept_eq : (Rows.laid_unicode_utf8_acceptRanges : DataW Unit) = acceptData := by kernel_rfl
theorem first_eq : (Rows.laid_unicode_utf8_first : DataW Unit) = firstData := Pinned.utf8First_eq
theorem maxLen_of {W : World} (h : W.ShapedOpen Tryz.prog) : ∃ m, W.cell? ⟨1, 0, none⟩ = some (.int .i64 m) :=
  cell_of_shapedOpen_int (t := 3) (zero := #[.int .i64 0]) h (of_decide_eq_true (by kernel_rfl)) (by kernel_rfl) rfl (by kernel_rfl) (by kernel_rfl) Tryz.underlying3
theorem env_of3 {W : World} (h : laidMetH Tryz.prog tabs3 W) (hs : W.ShapedOpen Tryz.prog) : Env W := by
  rw [MakeChecks.laidMetH_plain _ _ _ (by kernel_rfl)] at h
  obtain ⟨ps, hv, _⟩ := h
  have h1 := LaidVars_reads hv _ Rows.laid_unicode_utf8_acceptRanges (.head _)
  have h2 := LaidVars_reads hv _ Rows.laid_unicode_utf8_first (.tail _ (.tail _ (.head _)))
  rw [accept_eq] at h1
  rw [first_eq] at h2
  exact ⟨utf8Tabs_of_readsT { sh_lays197 with } u8extra h2 h1, maxLen_of hs⟩
end Go.Proofs.YtijfcmlgohbndaaGreatDoor

namespace Go.Proofs.YtijfcmlgohbndaaGreatDoor
set_option maxRecDepth 100000
open Go.RowKit Go.Deep Go.Joins Go.Lib

def cpL : List Nat := [
  199, 252, 233, 226, 228, 224, 229, 231, 234, 235, 232, 239, 238, 236, 196, 197,
  201, 230, 198, 244, 246, 242, 251, 249, 255, 214, 220, 162, 163, 165, 8359, 402,
  225, 237, 243, 250, 241, 209, 170, 186, 191, 8976, 172, 189, 188, 161, 171, 187,
  9617, 9618, 9619, 9474, 9508, 9569, 9570, 9558, 9557, 9571, 9553, 9559, 9565, 9564, 9563, 9488,
  9492, 9524, 9516, 9500, 9472, 9532, 9566, 9567, 9562, 9556, 9577, 9574, 9568, 9552, 9580, 9575,
  9576, 9572, 9573, 9561, 9560, 9554, 9555, 9579, 9578, 9496, 9484, 9608, 9604, 9612, 9616, 9600,
  945, 223, 915, 960, 931, 963, 181, 964, 934, 920, 937, 948, 8734, 966, 949, 8745,
  8801, 177, 8805, 8804, 8992, 8993, 247, 8776, 176, 8729, 183, 8730, 8319, 178, 9632, 160]
theorem cpL_len : cpL.length = 128 := by decide
theorem cpL_facts : ∀ i, i < 128 → 128 ≤ cpL.getD i 0 ∧ cpL.getD i 0 < 55296 := by decide
theorem cpL_nodup : cpL.Nodup := by decide
def upV : Array Value := (cpL.map fun (n : Nat) => Value.int .i32 (n : Nat)).toArray
/-- What name.upper holds. -/
def Upper (w : World) : Prop := ∃ t fr, w.heap[0]? = some (.cells upV t fr)
theorem Upper.below {w w' : World} (h : Upper w) (hb : Below w.heap.size w w') : Upper w' := by
  obtain ⟨t, fr, h⟩ := h
  exact ⟨t, fr, (hb.block _ (Array.getElem?_eq_some_iff.1 h).1).trans h⟩
theorem upV_at (k : Nat) (hk : k < 128) : upV[k]? = some (.int .i32 ((cpL.getD k 0 : Nat) : Int)) := by
  unfold upV
  rw [List.getElem?_toArray, List.getElem?_map, List.getElem?_eq_getElem (by rw [cpL_len]; exact hk), List.getD_eq_getElem?_getD, List.getElem?_eq_getElem (by rw [cpL_len]; exact hk)]
  rfl
theorem Upper.cell {w : World} (h : Upper w) (k : Nat) (hk : k < 128) : w.cell? ⟨0, k, none⟩ = some (.int .i32 ((cpL.getD k 0 : Nat) : Int)) := by
  obtain ⟨t, fr, h⟩ := h
  rw [Lib.cell_of_heap h]
  exact upV_at k hk
theorem upper_eq : (Rows.laid_portmanteau_name_upper : DataW Unit) = tabData .i32 (cpL.map fun (n : Nat) => (n : Int)) := by kernel_rfl
theorem upper_of {W : World} (h : laidMetH Tryz.prog tabs3 W) : Upper W := by
  rw [MakeChecks.laidMetH_plain _ _ _ (by kernel_rfl)] at h
  obtain ⟨ps, hv, _⟩ := h
  have h1 := LaidVars_reads hv _ Rows.laid_portmanteau_name_upper (.tail _ (.head _))
  rw [upper_eq] at h1
  obtain ⟨g, t, cs, fuel, p, hg, hty, hvar, hd⟩ := h1
  obtain rfl := Option.some.inj ((show Tryz.prog.globalNamed _ = some 0 by kernel_rfl).symm.trans hg)
  obtain rfl := Option.some.inj ((show (Tryz.prog.globals[0]?).map (·.type) = some 190 by kernel_rfl).symm.trans hty)
  have hcs := cells_of_tab (n := 128) (e := 21) Tryz.underlying190 Tryz.underlying21 (by kernel_rfl) (by kernel_rfl) hd
  have he : cs = upV := by
    apply Array.toList_inj.1
    rw [hcs]
    unfold upV
    rw [List.map_map]
    rfl
  subst he
  unfold World.var? at hvar
  rw [hg] at hvar
  simp only [Option.bind_some] at hvar
  split at hvar
  · rename_i cs t fr hh
    injection hvar with e
    subst e
    exact ⟨t, fr, hh⟩
  · cases hvar

/-- A byte's rune by CP437. -/
def cpN (b : Nat) : Nat := if b < 128 then b else cpL.getD (b - 128) 0
theorem runeOf_any (b : Nat) (hb : b < 256) (w : World) (hU : Upper w) :
    Calls Tryz.prog 83 #[.int .u8 (b : Nat)] w fun e w' => e = .returned (.int .i32 (cpN b : Nat)) ∧ w' = w := by
  by_cases h : b < 128
  · have hw : IntKind.i32.wrap (b : Int) = (b : Int) := by unfold IntKind.wrap; simp [IntKind.bits, IntKind.signed]; omega
    have HX : Hid (cpN b = b) := by show _ = _; unfold cpN; rw [if_pos h]
    go_enter Tryz.func83, Tryz.ntmps83
    go_wp2_with fail
    go_ret
    rw [HX.out]
    exact ⟨rfl, rfl⟩
  · have HX : Hid (cpN b = cpL.getD (b - 128) 0) := by show _ = _; unfold cpN; rw [if_neg h]
    obtain ⟨k, hk⟩ : ∃ k, b - 128 = k := ⟨_, rfl⟩
    have hki : (b : Int) - 128 = (k : Int) := by omega
    have hw : IntKind.u8.wrap (k : Int) = (k : Int) := by unfold IntKind.wrap; simp [IntKind.bits, IntKind.signed]; omega
    have hk1 : k < 128 := by omega
    have hc := hU.cell k hk1
    rw [hk] at HX
    clear hk hU
    generalize cpL.getD k 0 = x at *
    go_enter Tryz.func83, Tryz.ntmps83
    go_wp2_with fail
    go_ret
    rw [HX.out]
    exact ⟨rfl, rfl⟩
end Go.Proofs.YtijfcmlgohbndaaGreatDoor

namespace Go.Proofs.YtijfcmlgohbndaaGreatDoor
set_option maxRecDepth 100000
open Go.RowKit Go.Deep Go.Joins Go.Lib

theorem run_index_up (W : World) : ∀ k : Nat, k < 128 → (Instr.index 190 (.agg upV) (.int .i64 (k : Nat))).run Tryz.prog W = .ok (.int .i32 ((cpL.getD k 0 : Nat) : Int)) W
  | 0, _ => by kernel_rfl
  | 1, _ => by kernel_rfl
  | 2, _ => by kernel_rfl
  | 3, _ => by kernel_rfl
  | 4, _ => by kernel_rfl
  | 5, _ => by kernel_rfl
  | 6, _ => by kernel_rfl
  | 7, _ => by kernel_rfl
  | 8, _ => by kernel_rfl
  | 9, _ => by kernel_rfl
  | 10, _ => by kernel_rfl
  | 11, _ => by kernel_rfl
  | 12, _ => by kernel_rfl
  | 13, _ => by kernel_rfl
  | 14, _ => by kernel_rfl
  | 15, _ => by kernel_rfl
  | 16, _ => by kernel_rfl
  | 17, _ => by kernel_rfl
  | 18, _ => by kernel_rfl
  | 19, _ => by kernel_rfl
  | 20, _ => by kernel_rfl
  | 21, _ => by kernel_rfl
  | 22, _ => by kernel_rfl
  | 23, _ => by kernel_rfl
  | 24, _ => by kernel_rfl
  | 25, _ => by kernel_rfl
  | 26, _ => by kernel_rfl
  | 27, _ => by kernel_rfl
  | 28, _ => by kernel_rfl
  | 29, _ => by kernel_rfl
  | 30, _ => by kernel_rfl
  | 31, _ => by kernel_rfl
  | 32, _ => by kernel_rfl
  | 33, _ => by kernel_rfl
  | 34, _ => by kernel_rfl
  | 35, _ => by kernel_rfl
  | 36, _ => by kernel_rfl
  | 37, _ => by kernel_rfl
  | 38, _ => by kernel_rfl
  | 39, _ => by kernel_rfl
  | 40, _ => by kernel_rfl
  | 41, _ => by kernel_rfl
  | 42, _ => by kernel_rfl
  | 43, _ => by kernel_rfl
  | 44, _ => by kernel_rfl
  | 45, _ => by kernel_rfl
  | 46, _ => by kernel_rfl
  | 47, _ => by kernel_rfl
  | 48, _ => by kernel_rfl
  | 49, _ => by kernel_rfl
  | 50, _ => by kernel_rfl
  | 51, _ => by kernel_rfl
  | 52, _ => by kernel_rfl
  | 53, _ => by kernel_rfl
  | 54, _ => by kernel_rfl
  | 55, _ => by kernel_rfl
  | 56, _ => by kernel_rfl
  | 57, _ => by kernel_rfl
  | 58, _ => by kernel_rfl
  | 59, _ => by kernel_rfl
  | 60, _ => by kernel_rfl
  | 61, _ => by kernel_rfl
  | 62, _ => by kernel_rfl
  | 63, _ => by kernel_rfl
  | 64, _ => by kernel_rfl
  | 65, _ => by kernel_rfl
  | 66, _ => by kernel_rfl
  | 67, _ => by kernel_rfl
  | 68, _ => by kernel_rfl
  | 69, _ => by kernel_rfl
  | 70, _ => by kernel_rfl
  | 71, _ => by kernel_rfl
  | 72, _ => by kernel_rfl
  | 73, _ => by kernel_rfl
  | 74, _ => by kernel_rfl
  | 75, _ => by kernel_rfl
  | 76, _ => by kernel_rfl
  | 77, _ => by kernel_rfl
  | 78, _ => by kernel_rfl
  | 79, _ => by kernel_rfl
  | 80, _ => by kernel_rfl
  | 81, _ => by kernel_rfl
  | 82, _ => by kernel_rfl
  | 83, _ => by kernel_rfl
  | 84, _ => by kernel_rfl
  | 85, _ => by kernel_rfl
  | 86, _ => by kernel_rfl
  | 87, _ => by kernel_rfl
  | 88, _ => by kernel_rfl
  | 89, _ => by kernel_rfl
  | 90, _ => by kernel_rfl
  | 91, _ => by kernel_rfl
  | 92, _ => by kernel_rfl
  | 93, _ => by kernel_rfl
  | 94, _ => by kernel_rfl
  | 95, _ => by kernel_rfl
  | 96, _ => by kernel_rfl
  | 97, _ => by kernel_rfl
  | 98, _ => by kernel_rfl
  | 99, _ => by kernel_rfl
  | 100, _ => by kernel_rfl
  | 101, _ => by kernel_rfl
  | 102, _ => by kernel_rfl
  | 103, _ => by kernel_rfl
  | 104, _ => by kernel_rfl
  | 105, _ => by kernel_rfl
  | 106, _ => by kernel_rfl
  | 107, _ => by kernel_rfl
  | 108, _ => by kernel_rfl
  | 109, _ => by kernel_rfl
  | 110, _ => by kernel_rfl
  | 111, _ => by kernel_rfl
  | 112, _ => by kernel_rfl
  | 113, _ => by kernel_rfl
  | 114, _ => by kernel_rfl
  | 115, _ => by kernel_rfl
  | 116, _ => by kernel_rfl
  | 117, _ => by kernel_rfl
  | 118, _ => by kernel_rfl
  | 119, _ => by kernel_rfl
  | 120, _ => by kernel_rfl
  | 121, _ => by kernel_rfl
  | 122, _ => by kernel_rfl
  | 123, _ => by kernel_rfl
  | 124, _ => by kernel_rfl
  | 125, _ => by kernel_rfl
  | 126, _ => by kernel_rfl
  | 127, _ => by kernel_rfl
  | k + 128, h => absurd h (by omega)
theorem cp_inj {i j : Nat} (hi : i < 128) (hj : j < 128) (h : cpL.getD i 0 = cpL.getD j 0) : i = j := by
  have li : i < cpL.length := by rw [cpL_len]; exact hi
  have lj : j < cpL.length := by rw [cpL_len]; exact hj
  rw [List.getD_eq_getElem?_getD, List.getD_eq_getElem?_getD, List.getElem?_eq_getElem li, List.getElem?_eq_getElem lj] at h
  have hp := List.pairwise_iff_getElem.1 cpL_nodup
  rcases Nat.lt_trichotomy i j with hl | hl | hl
  · exact absurd h (hp i j li lj hl)
  · exact hl
  · exact absurd h.symm (hp j i lj li hl)
theorem info_up : (Tryz.prog.info? 190).map (·.size) = some upV.size := by kernel_rfl
end Go.Proofs.YtijfcmlgohbndaaGreatDoor
