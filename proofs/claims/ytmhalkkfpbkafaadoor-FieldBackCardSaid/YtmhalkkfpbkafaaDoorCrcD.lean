/-
  Contracts: a text's sum, two sums joined; the document's answers; the chapter's example.
-/
import Derived.Test.YtmhalkkfpbkafaaDoorCrcC
namespace Go.Proofs.YtmhalkkfpbkafaaDoor
open Go.RowKit

/-- The sum of a text, by any table's function. -/
def sumBy (f : Nat → Nat) (c : Nat) (s : ByteArray) : Nat := Crc.neg (Crc.through f (Crc.neg c) (nums s))
/-- The sum of a text that goes on from c. -/
def sum (c : Nat) (s : ByteArray) : Nat := Crc.neg (Crc.raw (Crc.neg c) (nums s))
theorem sumBy_it (c : Nat) (s : ByteArray) : sumBy (Crc.it 8) c s = sum c s := by
  unfold sumBy sum
  rw [Crc.through_it _ _ (nums_lt s)]
theorem sum_lt (c : Nat) (s : ByteArray) : sum c s < 4294967296 := Crc.neg_lt _
theorem sumBy_lt (f : Nat → Nat) (c : Nat) (s : ByteArray) : sumBy f c s < 4294967296 := Crc.neg_lt _

theorem sum_tab (g : Nat) (s : ByteArray) (hs : s.size ≤ maxLen) (w : World) (ht : IsTab w g (Crc.it 8)) :
    Calls Tryd.prog 73 #[.pointer (some ⟨g, 0, none⟩), .string s] w fun e w' => e = .returned (.int .u32 (sum 0 s : Nat)) ∧ ∃ n, w' = w.drewN n := by
  have hu := update_tab (Crc.it 8) it8_lt g 0 (by omega) s hs w ht
  have HU := Lib.hid hu
  clear hu ht
  have e := sumBy_it 0 s
  unfold sumBy at e
  have HE := Lib.hid e
  clear e
  go_enter Tryd.func73, Tryd.ntmps73
  go_wp2_with (go_at_call 84; refine (HU.out).mono ?_; rintro e w' ⟨rfl, n, rfl⟩)
  go_ret
  exact ⟨ret_eq (by rw [HE.out]), n, rfl⟩

theorem neg_int (c : Nat) (hc : c < 4294967296) : (4294967295 : Int) - (c : Int) = ((Crc.neg c : Nat) : Int) := by unfold Crc.neg; omega

def nine : ByteArray := ⟨#[49, 50, 51, 52, 53, 54, 55, 56, 57]⟩
theorem sum_nine : sum 0 nine = 3421780262 := by decide +kernel

theorem nine_calls (g : Nat) (w : World) (ht : IsTab w g (Crc.it 8)) :
    Calls Tryd.prog 73 #[.pointer (some ⟨g, 0, none⟩), .string ⟨#[49, 50, 51, 52, 53, 54, 55, 56, 57]⟩] w fun e w' => e = .returned (.int .u32 3421780262) ∧ ∃ n, w' = w.drewN n := by
  have h := sum_tab g nine (by decide) w ht
  rw [sum_nine] at h
  exact h

theorem made_tab (w1 : World) : IsTab ((w1.alloc (.cells (tab fun _ => 0) 136)).setRow w1.heap.size (tab (Crc.it 8))) w1.heap.size (Crc.it 8) := setRow_heap _ _ _ _ _ _ (heap_alloc_new _ _)
theorem made_below {w w1 : World} (hb1 : Below w.heap.size w w1) : Below w.heap.size w ((w1.alloc (.cells (tab fun _ => 0) 136)).setRow w1.heap.size (tab (Crc.it 8))) := below_setRow (hb1.alloc hb1.size _) hb1.size _

end Go.Proofs.YtmhalkkfpbkafaaDoor
