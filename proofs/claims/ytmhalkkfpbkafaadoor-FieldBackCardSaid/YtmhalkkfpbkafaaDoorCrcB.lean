/-
  Contract of the table's making.
-/
import Derived.Test.YtmhalkkfpbkafaaDoorCrcA
namespace Go.Proofs.YtmhalkkfpbkafaaDoor
open Go.RowKit

/-- The 256 cells of a table. -/
def tab (f : Nat → Nat) : Array Value := ((List.range 256).map fun i => Value.int .u32 (f i : Nat)).toArray
theorem tab_size (f : Nat → Nat) : (tab f).size = 256 := by simp [tab]
theorem tab_at (f : Nat → Nat) (i : Nat) (hi : i < 256) : (tab f)[i]? = some (.int .u32 (f i : Nat)) := by
  unfold tab
  simp [List.getElem?_range hi]
theorem tab_ext (f g : Nat → Nat) (h : ∀ i, i < 256 → f i = g i) : tab f = tab g := by
  unfold tab
  congr 1
  apply List.map_congr_left
  intro i hi
  rw [h i (by simpa using hi)]
theorem tab_set (f : Nat → Nat) (k x : Nat) (hk : k < 256) : (tab f).setIfInBounds k (.int .u32 (x : Nat)) = tab (fun i => if i = k then x else f i) := by
  apply Array.ext_getElem?
  intro i
  rw [Array.getElem?_setIfInBounds, tab_size]
  by_cases hi : i < 256
  · by_cases h : k = i
    · subst h
      rw [if_pos rfl, if_pos hi, tab_at _ _ hi, if_pos rfl]
    · rw [if_neg h, tab_at _ _ hi, tab_at _ _ hi, if_neg (fun e => h e.symm)]
  · have hn : ∀ g : Nat → Nat, (tab g)[i]? = none := fun g => by rw [Array.getElem?_eq_none_iff, tab_size]; omega
    rw [hn, hn]
    by_cases h : k = i
    · rw [if_pos h, if_neg (by omega)]
    · rw [if_neg h]

theorem zero_table (w : World) : (zeroValue 136).run Tryd.prog w = .ok (.agg (tab fun _ => 0)) w := by kernel_rfl
theorem info_table : (Tryd.prog.info? 136).map (·.size) = some 256 := by kernel_rfl

theorem tab_one (f : Nat → Nat) : (tab f).all (·.oneCell') = true := by
  rw [Array.all_eq_true_iff_forall_mem]
  intro v hv
  unfold tab at hv
  simp at hv
  obtain ⟨i, _, rfl⟩ := hv
  rfl

/-- A block that is a table. -/
def IsTab (w : World) (g : Nat) (f : Nat → Nat) : Prop := w.heap[g]? = some (.cells (tab f) 136 (0, 0))
theorem IsTab.cell {w : World} {g : Nat} {f : Nat → Nat} (h : IsTab w g f) (i : Nat) (hi : i < 256) : w.cell? ⟨g, i, none⟩ = some (.int .u32 (f i : Nat)) := by
  rw [cell_of_row w g i _ _ _ h, tab_at f i hi]
theorem IsTab.frozen {w : World} {g : Nat} {f : Nat → Nat} (h : IsTab w g f) (i : Nat) : w.frozen? ⟨g, i, none⟩ = false := frozen_of_row w g i _ _ h
theorem IsTab.lt {w : World} {g : Nat} {f : Nat → Nat} (h : IsTab w g f) : g < w.heap.size := by
  rcases Nat.lt_or_ge g w.heap.size with hlt | hge
  · exact hlt
  · unfold IsTab at h; rw [Array.getElem?_eq_none hge] at h; cases h
theorem IsTab.set {w : World} {g : Nat} {f : Nat → Nat} (h : IsTab w g f) (k x : Nat) (hk : k < 256) : IsTab (w.setCell ⟨g, k, none⟩ (.int .u32 (x : Nat))) g (fun i => if i = k then x else f i) := by
  have e := heap_setCell_same w g k _ _ (.int .u32 (x : Nat)) h
  rw [tab_set f k x hk] at e
  exact e
theorem IsTab.other {w : World} {g : Nat} {f : Nat → Nat} (h : IsTab w g f) (a : Addr) (v : Value) (hne : g ≠ a.block) : IsTab (w.setCell a v) g f := (heap_setCell_other w a g v hne).trans h
theorem IsTab.below {w w' : World} {B g : Nat} {f : Nat → Nat} (h : IsTab w g f) (hb : Below B w w') (hg : g < B) : IsTab w' g f := (hb.block g hg).trans h
theorem IsTab.alloc {w : World} {g : Nat} {f : Nat → Nat} (h : IsTab w g f) (o : Obj) : IsTab (w.alloc o) g f := (Below.heap_alloc w o g h.lt).trans h
theorem IsTab.new (w : World) (f : Nat → Nat) : IsTab (w.alloc (.cells (tab f) 136)) w.heap.size f := heap_alloc_new w _
theorem IsTab.ext {w : World} {g : Nat} {f f' : Nat → Nat} (h : IsTab w g f) (e : ∀ i, i < 256 → f i = f' i) : IsTab w g f' := by
  unfold IsTab at *
  rw [← tab_ext f f' e]
  exact h

/-- The table, its first k numbers made. -/
def part (k : Nat) (i : Nat) : Nat := if i < k then Crc.it 8 i else 0

set_option maxRecDepth 100000 in
theorem make_any (w : World) :
    Calls Tryd.prog 72 #[] w fun e w' => e = .returned (.agg (tab (Crc.it 8))) ∧ Below w.heap.size w w' := by
  have hz := zero_table
  go_enter Tryd.func72, Tryd.ntmps72
  go_wp2
  go_loopw [4] (fun i wr => ∃ k : Nat, k ≤ 256 ∧ i = .int .i64 k ∧ IsTab wr w.heap.size (fun _ => 0) ∧ IsTab wr (w.heap.size + 1) (part k) ∧ Below w.heap.size w wr) (fun i _ => 256 - (intOf i).toNat)
  case atStart =>
    refine ⟨0, Nat.zero_le _, rfl, ?_, ?_, ?_⟩
    · exact (IsTab.new w _).alloc _
    · have h := IsTab.new (w.alloc (.cells (tab fun _ => 0) 136)) (part 0)
      simp at h
      exact h
    · exact ((Below.refl _ _).alloc (Nat.le_refl _) _).alloc (by simp) _
  case round =>
    obtain ⟨k, hk, rfl, h0, h1, hb⟩ := hrel
    have H0 := Lib.hid h0
    have H1 := Lib.hid h1
    have HB := Lib.hid hb
    clear hz
    by_cases hlt : k < 256
    · have hc := h1.cell k hlt
      have hf := h1.frozen k
      have hd : decide ((k : Int) < 256) = true := decide_eq_true (by omega)
      clear h0 h1 hb
      go_wp2
      go_loop [3, 9] (fun n i => ∃ j : Nat, j ≤ 8 ∧ i = .int .i64 j ∧ n = .int .u32 (Crc.it j k : Nat)) (fun _ i => 8 - (intOf i).toNat)
      case atStart => exact ⟨0, Nat.zero_le _, rfl, by go_num⟩
      case round =>
        obtain ⟨j, hj, rfl, rfl⟩ := hrel
        have hl := Crc.it_lt j k (by omega)
        by_cases hj8 : j < 8
        · go_wp2_with (go_at_call 83; refine (step_any _ hl _).mono ?_; rintro e w' ⟨rfl, rfl⟩)
          go_round
          case rel => exact ⟨j + 1, by omega, by go_num, rfl⟩
          case measure => simp [intOf]; omega
        · obtain rfl : j = 8 := by omega
          go_wp2
          go_roundw
          case rel => exact ⟨k + 1, by omega, by go_num, H0.out.other _ _ (by simp), (H1.out.set k _ hlt).ext (by intro i _; unfold part; by_cases h : i = k <;> by_cases h2 : i < k <;> simp [h, h2] <;> omega), HB.out.setCell (by simp) _⟩
          case measure => simp [intOf]; omega
    · obtain rfl : k = 256 := by omega
      clear h0 h1 hb
      go_wp2_with (first | (refine wpList_load_row rfl 136 (.tmp 1) rfl (w.heap.size + 1) rfl 136 _ (0, 0) _ H1.out Tryd.underlying136 rfl (by rw [tab_size]; exact info_table) ?_) | (refine wpList_store_row rfl 136 (.tmp 0) (.tmp 18) rfl w.heap.size (tab (part 256)) rfl rfl 136 (tab fun _ => 0) H0.out (by rw [tab_size]; exact info_table) (by rw [tab_size, tab_size]) (tab_one _) ?_))
      have h2 : IsTab (wr.setRow w.heap.size (tab (part 256))) w.heap.size (Crc.it 8) :=
        IsTab.ext (f := part 256) (setRow_heap wr w.heap.size _ (tab (part 256)) _ _ H0.out) (fun i hi => by unfold part; rw [if_pos hi])
      exact bodyPost_ret (results_cell_row rfl _ _ w.heap.size 136 (tab (Crc.it 8)) (0, 0) _ rfl h2 Tryd.underlying136 rfl (by rw [tab_size]; exact info_table)) rfl ⟨rfl, below_setRow HB.out (Nat.le_refl _) _⟩
end Go.Proofs.YtmhalkkfpbkafaaDoor
