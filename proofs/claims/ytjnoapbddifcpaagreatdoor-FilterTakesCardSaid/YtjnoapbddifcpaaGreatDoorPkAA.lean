/-
  Small facts that all our walks use: a number of a kind as a natural one.
  Bytes as one number: its bits, its bytes, pieces of it.
  UTF-8 by mathematics: what a stray is, the runes of a text; what the package-level variables of the library hold.
-/
import Derived.Test.YtjnoapbddifcpaaGreatDoorRows
import Derived.WalkKit
import Derived.WalkSpells
import Derived.WalkLawsBesides
import Derived.OpenShut
import Derived.Lib.Hide
import Derived.Laws.IdiomStrings
import Derived.Laws.BytesArg
import Derived.Lib.SmallJoins
import Derived.Deep.AppendLies
import Derived.Lib.DecodeNEq
import Derived.Laws.RangeString
import Derived.Laws.RangeAny
import Derived.Shelf.Unicode.DecodeSlow
import Derived.Below

namespace Go.Proofs.YtjnoapbddifcpaaGreatDoor
open Go.RowKit

theorem ret_eq {k : IntKind} {a b : Int} (h : a = b) : Ending.returned (.int k a) = .returned (.int k b) := by rw [h]
theorem below_drewN {B : Nat} {a w : World} (h : Below B a w) (n : Nat) : Below B a (w.drewN n) := h.trans ⟨rfl, rfl, rfl, Nat.le_refl _, fun _ _ => rfl⟩
theorem below_setRow {B : Nat} {a w : World} (h : Below B a w) {g : Nat} (hg : B ≤ g) (cs : Array Value) : Below B a (w.setRow g cs) :=
  h.trans ⟨rfl, rfl, rfl, by simp, fun k hk => setRow_other w g k cs (by omega)⟩
/-- A call behind a call: what was below stays below. -/
theorem below_then {W w w' : World} (h : Below W.heap.size W w) (k : Below w.heap.size w w') : Below W.heap.size W w' := h.trans (k.mono h.size)
end Go.Proofs.YtjnoapbddifcpaaGreatDoor

namespace Go.Proofs.YtjnoapbddifcpaaGreatDoor
open Go.RowKit Go.Joins

/-- Numbers as a text's bytes. -/
def text (l : List Nat) : ByteArray := ⟨(l.map UInt8.ofNat).toArray⟩
/-- The lowest k bytes of a number, the lowest first. -/
def le (n : Nat) : Nat → List Nat
  | 0 => []
  | k + 1 => le n k ++ [n / 256 ^ k % 256]
def cells8 (l : List Nat) : List Value := l.map fun x => Value.int .u8 (x : Nat)
theorem cells8_app (l m : List Nat) : cells8 (l ++ m) = cells8 l ++ cells8 m := by simp [cells8]

theorem string_of_own {W : World} {base n : Nat} {v : Value} {l : List Nat} (h : W.ownsRow base 5 1 v n (cells8 l)) (hl : ∀ x ∈ l, x < 256) :
    (convert 223 9 v).run Tryz.prog W = .ok (.string (text l)) W := by
  have hn : l.length = n := by have := h.1; simpa [cells8] using this
  rcases ownsRow_forms h with ⟨rfl, h0⟩ | ⟨g, cap, rfl⟩
  · have : l = [] := List.eq_nil_of_length_eq_zero (by omega)
    subst this
    exact run_convert_bytes_nil W 223 5 Tryz.underlying223 Tryz.underlying5 0 0 9 Tryz.underlying9
  · have hb := run_convert_bytes_back (P := Tryz.prog) W 223 9 5 ⟨g, 0, none⟩ cap (l.map UInt8.ofNat) Tryz.underlying223 Tryz.underlying5 Tryz.underlying9 (fun j hj => by
      have hj' : j < l.length := by simpa using hj
      rw [Addr.add_lit, Nat.zero_add, h.cellAt j (by omega)]
      have hx : l[j] < 256 := hl _ (List.getElem_mem hj')
      simp only [cells8, List.getElem?_map, List.getElem?_eq_getElem hj', Option.map_some, List.getElem_map]
      rw [show (UInt8.ofNat l[j]).toNat = l[j] from Nat.mod_eq_of_lt hx])
    rw [List.length_map, hn] at hb
    exact hb

theorem info8 : (Tryz.prog.info? 5).map (fun i => (i.zero, i.size, i.bytes)) = some (some (.int .u8 0), 1, 1) := by kernel_rfl

/-- What bytes are, the lowest first. -/
def numL : List Nat → Nat
  | [] => 0
  | x :: l => x + 256 * numL l
theorem numL_lt (l : List Nat) (hl : ∀ x ∈ l, x < 256) : numL l < 256 ^ l.length := by
  induction l with
  | nil => decide
  | cons x l ih =>
    have h1 := ih fun y hy => hl y (by simp [hy])
    have h2 := hl x (by simp)
    show x + 256 * numL l < 256 ^ (l.length + 1)
    rw [Nat.pow_succ]
    omega
theorem numL_snoc (l : List Nat) (x : Nat) : numL (l ++ [x]) = numL l + x * 256 ^ l.length := by
  induction l with
  | nil => simp [numL]
  | cons y l ih =>
    show y + 256 * numL (l ++ [x]) = y + 256 * numL l + x * 256 ^ (l.length + 1)
    rw [ih, Nat.mul_add, Nat.pow_succ, Nat.add_assoc, Nat.mul_left_comm, Nat.mul_comm 256 (256 ^ l.length)]

/-- A text's bytes as numbers. -/
def nums (s : ByteArray) : List Nat := s.data.toList.map UInt8.toNat
theorem nums_lt (s : ByteArray) : ∀ x ∈ nums s, x < 256 := by
  intro x hx
  unfold nums at hx
  simp at hx
  obtain ⟨y, _, rfl⟩ := hx
  exact y.toNat_lt
theorem nums_len (s : ByteArray) : (nums s).length = s.size := by simp [nums]
theorem nums_get (s : ByteArray) (k : Nat) (h : k < s.size) : (nums s)[k]? = some s[k].toNat := by
  rw [List.getElem?_eq_getElem (by rw [nums_len]; exact h)]
  congr 1
  unfold nums
  simp
  rfl
theorem nums_snoc (s : ByteArray) (k : Nat) (h : k < s.size) : (nums s).take (k + 1) = (nums s).take k ++ [s[k].toNat] := by
  rw [List.take_add_one, nums_get s k h]
  rfl
theorem text_nums (s : ByteArray) : text (nums s) = s := by
  unfold text nums
  rw [List.map_map, show (UInt8.ofNat ∘ UInt8.toNat) = id from by funext x; simp, List.map_id, Array.toArray_toList]
theorem text_size (l : List Nat) : (text l).size = l.length := by simp [text, ByteArray.size]
theorem nums_text (l : List Nat) (h : ∀ x ∈ l, x < 256) : nums (text l) = l := by
  unfold text nums
  simp only [List.map_map]
  calc l.map (UInt8.toNat ∘ UInt8.ofNat) = l.map id := List.map_congr_left fun x hx => by simpa using h x hx
    _ = l := List.map_id l

/-- The number that a text is. -/
def num (s : ByteArray) : Nat := numL (nums s)
/-- m bits from a place on. -/
def bitsAt (N a m : Nat) : Nat := N / 2 ^ a % 2 ^ m
end Go.Proofs.YtjnoapbddifcpaaGreatDoor

namespace Go.Proofs.YtjnoapbddifcpaaGreatDoor
open Go.RowKit

/-- What the two tables of unicode/utf8 and the search's limit hold. -/
def Env (w : World) : Prop := Lib.Utf8Tabs 1 2 w ∧ ∃ m, w.cell? ⟨3, 0, none⟩ = some (.int .i64 m)
theorem cell_below {w w' : World} (hb : Below w.heap.size w w') {p : Addr} {v : Value} (h : w.cell? p = some v) : w'.cell? p = some v :=
  (hb.cell (World.block_lt_of_cell? _ _ h)).trans h
theorem Env.below {w w' : World} (h : Env w) (hb : Below w.heap.size w w') : Env w' := by
  obtain ⟨⟨h1, h2⟩, m, h3⟩ := h
  exact ⟨⟨fun c hc => cell_below hb (h1 c hc), fun i hi => ⟨cell_below hb (h2 i hi).1, cell_below hb (h2 i hi).2⟩⟩, m, cell_below hb h3⟩
theorem Env.then {W w w' : World} (h : Env w) (_ : Below W.heap.size W w) (hb : Below w.heap.size w w') : Env w' := h.below hb
theorem Env.alloc {w : World} (h : Env w) (o : Obj) : Env (w.alloc o) := h.below ((Below.refl _ _).alloc (Nat.le_refl _) o)
theorem Env.drew {w : World} (h : Env w) : Env w.drew := h.below (Below.refl _ _).drew

/-! ### runes -/
/-- Is the byte at a place a stray? -/
def strayAt (s : ByteArray) (i : Nat) : Bool := decide (Utf8.decode s i = (65533, 1))
theorem decode_pos (s : ByteArray) (pos : Nat) (h : pos < s.size) : 1 ≤ (Utf8.decode s pos).2 := by
  by_cases ha : (s[pos]'h).toNat < 128
  · rw [decode_ascii s pos h ha]
    exact Nat.le_refl _
  · exact (decode_high s pos h (by omega)).2
def strayF (s : ByteArray) : Nat → Nat → Bool
  | 0, _ => false
  | f + 1, pos => if pos < s.size then (if strayAt s pos = true then true else strayF s f (pos + (Utf8.decode s pos).2)) else false
theorem strayF_end (s : ByteArray) (f pos : Nat) (h : ¬ pos < s.size) : strayF s f pos = false := by
  cases f with
  | zero => rfl
  | succ f => rw [strayF, if_neg h]
/-- Has a text a stray? -/
def straysB (s : ByteArray) : Bool := strayF s s.size 0
def runeF (s : ByteArray) : Nat → Nat → List Nat
  | 0, _ => []
  | f + 1, pos => if pos < s.size then (Utf8.decode s pos).1 :: runeF s f (pos + (Utf8.decode s pos).2) else []
theorem runeF_end (s : ByteArray) (f pos : Nat) (h : ¬ pos < s.size) : runeF s f pos = [] := by
  cases f with
  | zero => rfl
  | succ f => rw [runeF, if_neg h]
/-- The runes of a text. -/
def runesB (s : ByteArray) : List Nat := runeF s s.size 0

theorem byte_lt (s : ByteArray) (i : Nat) : (s.get! i).toNat < 256 := (s.get! i).toNat_lt
theorem get_bang (s : ByteArray) (i : Nat) (h : i < s.size) : (s.get! i).toNat = s[i].toNat := by
  have := get_at s i h
  rw [Nat.add_zero] at this
  rw [this]
open Go.Lib in
set_option maxRecDepth 100000 in
set_option maxHeartbeats 4000000 in
/-- The rune U+FFFD itself. -/
theorem fffd (n b0 b1 b2 b3 : Nat) (h0 : b0 < 256) (_ : b1 < 256) (_ : b2 < 256) (_ : b3 < 256) (h : (decodeN n b0 b1 b2 b3).1 = 65533) : (decodeN n b0 b1 b2 b3).2 = 1 ∧ ¬ (2 < n ∧ b0 = 239 ∧ b1 = 191 ∧ b2 = 189) ∨ (decodeN n b0 b1 b2 b3).2 = 3 ∧ 2 < n ∧ b0 = 239 ∧ b1 = 191 ∧ b2 = 189 := by
  unfold decodeN at h ⊢
  repeat' split at h
  all_goals simp only at h
  all_goals first
    | (exfalso; omega)
    | (repeat' (first | rw [if_pos ‹_›] | rw [if_neg ‹_›]))
  all_goals first
    | (left; refine ⟨rfl, ?_⟩; omega)
    | (right; refine ⟨rfl, ?_⟩; omega)
end Go.Proofs.YtjnoapbddifcpaaGreatDoor
