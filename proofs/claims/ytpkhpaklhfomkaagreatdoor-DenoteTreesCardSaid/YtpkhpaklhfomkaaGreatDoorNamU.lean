/-
  UTF-8 by mathematics: what a stray is, the runes of a text; what the package-level variables of the library hold.
-/
import Derived.Test.YtpkhpaklhfomkaaGreatDoorBytesMath
import Derived.Lib.DecodeNEq
import Derived.Laws.RangeString
import Derived.Laws.RangeAny
import Derived.Shelf.Unicode.DecodeSlow
import Derived.Below
namespace Go.Proofs.YtpkhpaklhfomkaaGreatDoor
open Go.RowKit

/-- What the two tables of unicode/utf8 and the search's limit hold. -/
def Env (w : World) : Prop := Lib.Utf8Tabs 1 2 w ∧ ∃ m, w.cell? ⟨0, 0, none⟩ = some (.int .i64 m)
theorem cell_below {w w' : World} (hb : Below w.heap.size w w') {p : Addr} {v : Value} (h : w.cell? p = some v) : w'.cell? p = some v :=
  (hb.cell (World.block_lt_of_cell? _ _ h)).trans h
theorem Env.below {w w' : World} (h : Env w) (hb : Below w.heap.size w w') : Env w' := by
  obtain ⟨⟨h1, h2⟩, m, h3⟩ := h
  exact ⟨⟨fun c hc => cell_below hb (h1 c hc), fun i hi => ⟨cell_below hb (h2 i hi).1, cell_below hb (h2 i hi).2⟩⟩, m, cell_below hb h3⟩
theorem Env.then {W w w' : World} (h : Env w) (_ : Below W.heap.size W w) (hb : Below w.heap.size w w') : Env w' := h.below hb
theorem Env.alloc {w : World} (h : Env w) (o : Obj) : Env (w.alloc o) := h.below ((Below.refl _ _).alloc (Nat.le_refl _) o)
theorem Env.drew {w : World} (h : Env w) : Env w.drew := h.below (Below.refl _ _).drew

/-! ### runes -/
/-- Is the byte at a place a stray? -/
def strayAt (s : ByteArray) (i : Nat) : Bool := decide (Utf8.decode s i = (65533, 1))
theorem decode_pos (s : ByteArray) (pos : Nat) (h : pos < s.size) : 1 ≤ (Utf8.decode s pos).2 := by
  by_cases ha : (s[pos]'h).toNat < 128
  · rw [decode_ascii s pos h ha]
    exact Nat.le_refl _
  · exact (decode_high s pos h (by omega)).2
def strayF (s : ByteArray) : Nat → Nat → Bool
  | 0, _ => false
  | f + 1, pos => if pos < s.size then (if strayAt s pos = true then true else strayF s f (pos + (Utf8.decode s pos).2)) else false
theorem strayF_end (s : ByteArray) (f pos : Nat) (h : ¬ pos < s.size) : strayF s f pos = false := by
  cases f with
  | zero => rfl
  | succ f => rw [strayF, if_neg h]
/-- Has a text a stray? -/
def straysB (s : ByteArray) : Bool := strayF s s.size 0
def runeF (s : ByteArray) : Nat → Nat → List Nat
  | 0, _ => []
  | f + 1, pos => if pos < s.size then (Utf8.decode s pos).1 :: runeF s f (pos + (Utf8.decode s pos).2) else []
theorem runeF_end (s : ByteArray) (f pos : Nat) (h : ¬ pos < s.size) : runeF s f pos = [] := by
  cases f with
  | zero => rfl
  | succ f => rw [runeF, if_neg h]
/-- The runes of a text. -/
def runesB (s : ByteArray) : List Nat := runeF s s.size 0

theorem byte_lt (s : ByteArray) (i : Nat) : (s.get! i).toNat < 256 := (s.get! i).toNat_lt
theorem get_bang (s : ByteArray) (i : Nat) (h : i < s.size) : (s.get! i).toNat = s[i].toNat := by
  have := get_at s i h
  rw [Nat.add_zero] at this
  rw [this]
open Go.Lib in
set_option maxRecDepth 100000 in
set_option maxHeartbeats 4000000 in
/-- The rune U+FFFD itself. -/
theorem fffd (n b0 b1 b2 b3 : Nat) (h0 : b0 < 256) (_ : b1 < 256) (_ : b2 < 256) (_ : b3 < 256) (h : (decodeN n b0 b1 b2 b3).1 = 65533) : (decodeN n b0 b1 b2 b3).2 = 1 ∧ ¬ (2 < n ∧ b0 = 239 ∧ b1 = 191 ∧ b2 = 189) ∨ (decodeN n b0 b1 b2 b3).2 = 3 ∧ 2 < n ∧ b0 = 239 ∧ b1 = 191 ∧ b2 = 189 := by
  unfold decodeN at h ⊢
  repeat' split at h
  all_goals simp only at h
  all_goals first
    | (exfalso; omega)
    | (repeat' (first | rw [if_pos ‹_›] | rw [if_neg ‹_›]))
  all_goals first
    | (left; refine ⟨rfl, ?_⟩; omega)
    | (right; refine ⟨rfl, ?_⟩; omega)
end Go.Proofs.YtpkhpaklhfomkaaGreatDoor
