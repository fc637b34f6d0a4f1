/-
  Bytes as one number: its bits, its bytes, pieces of it.
  UTF-8 by mathematics: what a stray is, the runes of a text; what the package-level variables of the library hold.
-/
import Derived.Test.YtmeapijckncoeaaGreatDoorPkAA
import Derived.Laws.IdiomStrings
import Derived.Laws.BytesArg
import Derived.Lib.SmallJoins
import Derived.Deep.AppendLies
import Derived.Lib.DecodeNEq
import Derived.Laws.RangeString
import Derived.Laws.RangeAny
import Derived.Shelf.Unicode.DecodeSlow
import Derived.Below

namespace Go.Proofs.YtmeapijckncoeaaGreatDoor
open Go.RowKit Go.Joins

/-- Numbers as a text's bytes. -/
def text (l : List Nat) : ByteArray := ⟨(l.map UInt8.ofNat).toArray⟩
/-- The lowest k bytes of a number, the lowest first. -/
def le (n : Nat) : Nat → List Nat
  | 0 => []
  | k + 1 => le n k ++ [n / 256 ^ k % 256]
theorem le_len (n k : Nat) : (le n k).length = k := by
  induction k with
  | zero => rfl
  | succ k ih => simp [le, ih]
theorem le_lt (n k : Nat) : ∀ x ∈ le n k, x < 256 := by
  induction k with
  | zero => intro x hx; cases hx
  | succ k ih =>
    intro x hx
    rw [le, List.mem_append] at hx
    rcases hx with hx | hx
    · exact ih x hx
    · simp at hx; omega
def cells8 (l : List Nat) : List Value := l.map fun x => Value.int .u8 (x : Nat)
theorem cells8_app (l m : List Nat) : cells8 (l ++ m) = cells8 l ++ cells8 m := by simp [cells8]

theorem info8 : (Tryz.prog.info? 5).map (fun i => (i.zero, i.size, i.bytes)) = some (some (.int .u8 0), 1, 1) := by kernel_rfl

/-- What bytes are, the lowest first. -/
def numL : List Nat → Nat
  | [] => 0
  | x :: l => x + 256 * numL l
theorem numL_lt (l : List Nat) (hl : ∀ x ∈ l, x < 256) : numL l < 256 ^ l.length := by
  induction l with
  | nil => decide
  | cons x l ih =>
    have h1 := ih fun y hy => hl y (by simp [hy])
    have h2 := hl x (by simp)
    show x + 256 * numL l < 256 ^ (l.length + 1)
    rw [Nat.pow_succ]
    omega
theorem numL_snoc (l : List Nat) (x : Nat) : numL (l ++ [x]) = numL l + x * 256 ^ l.length := by
  induction l with
  | nil => simp [numL]
  | cons y l ih =>
    show y + 256 * numL (l ++ [x]) = y + 256 * numL l + x * 256 ^ (l.length + 1)
    rw [ih, Nat.mul_add, Nat.pow_succ, Nat.add_assoc, Nat.mul_left_comm, Nat.mul_comm 256 (256 ^ l.length)]

/-- A text's bytes as numbers. -/
def nums (s : ByteArray) : List Nat := s.data.toList.map UInt8.toNat
theorem nums_lt (s : ByteArray) : ∀ x ∈ nums s, x < 256 := by
  intro x hx
  unfold nums at hx
  simp at hx
  obtain ⟨y, _, rfl⟩ := hx
  exact y.toNat_lt
theorem nums_len (s : ByteArray) : (nums s).length = s.size := by simp [nums]
theorem nums_get (s : ByteArray) (k : Nat) (h : k < s.size) : (nums s)[k]? = some s[k].toNat := by
  rw [List.getElem?_eq_getElem (by rw [nums_len]; exact h)]
  congr 1
  unfold nums
  simp
  rfl
theorem nums_snoc (s : ByteArray) (k : Nat) (h : k < s.size) : (nums s).take (k + 1) = (nums s).take k ++ [s[k].toNat] := by
  rw [List.take_add_one, nums_get s k h]
  rfl
theorem text_nums (s : ByteArray) : text (nums s) = s := by
  unfold text nums
  rw [List.map_map, show (UInt8.ofNat ∘ UInt8.toNat) = id from by funext x; simp, List.map_id, Array.toArray_toList]
theorem text_size (l : List Nat) : (text l).size = l.length := by simp [text, ByteArray.size]
theorem nums_text (l : List Nat) (h : ∀ x ∈ l, x < 256) : nums (text l) = l := by
  unfold text nums
  simp only [List.map_map]
  calc l.map (UInt8.toNat ∘ UInt8.ofNat) = l.map id := List.map_congr_left fun x hx => by simpa using h x hx
    _ = l := List.map_id l

/-- A byte of the number. -/
theorem numL_get : ∀ (l : List Nat) (_ : ∀ x ∈ l, x < 256) (k x : Nat), l[k]? = some x → numL l / 256 ^ k % 256 = x
  | [], _, k, x, h => by simp at h
  | y :: l, hl, 0, x, h => by
    have := hl y (by simp)
    simp at h
    simp [numL]
    omega
  | y :: l, hl, k + 1, x, h => by
    have hy := hl y (by simp)
    have ih := numL_get l (fun z hz => hl z (by simp [hz])) k x (by simpa using h)
    rw [numL, Nat.pow_succ, Nat.mul_comm (256 ^ k), ← Nat.div_div_eq_div_mul, show (y + 256 * numL l) / 256 = numL l by omega]
    exact ih
theorem numL_take : ∀ (l : List Nat) (_ : ∀ x ∈ l, x < 256) (k : Nat), numL (l.take k) = numL l % 256 ^ k
  | l, hl, 0 => by simp [numL, Nat.mod_one]
  | [], hl, k + 1 => by simp [numL]
  | y :: l, hl, k + 1 => by
    have hy := hl y (by simp)
    rw [List.take_succ_cons, numL, numL_take l (fun z hz => hl z (by simp [hz])) k, numL, Nat.pow_succ, Nat.mul_comm (256 ^ k), Nat.mod_mul, show (y + 256 * numL l) % 256 = y by omega, show (y + 256 * numL l) / 256 = numL l by omega]
theorem numL_drop : ∀ (l : List Nat) (_ : ∀ x ∈ l, x < 256) (k : Nat), numL (l.drop k) = numL l / 256 ^ k
  | l, hl, 0 => by simp
  | [], hl, k + 1 => by simp [numL]
  | y :: l, hl, k + 1 => by
    have hy := hl y (by simp)
    rw [List.drop_succ_cons, numL_drop l (fun z hz => hl z (by simp [hz])) k, numL, Nat.pow_succ, Nat.mul_comm (256 ^ k), ← Nat.div_div_eq_div_mul, show (y + 256 * numL l) / 256 = numL l by omega]
theorem numL_app : ∀ (l m : List Nat), numL (l ++ m) = numL l + numL m * 256 ^ l.length
  | [], m => by simp [numL]
  | y :: l, m => by
    rw [List.cons_append, numL, numL_app l m, numL, List.length_cons, Nat.pow_succ, Nat.mul_add, Nat.add_assoc, Nat.mul_left_comm, Nat.mul_comm 256 (256 ^ l.length)]
theorem numL_le (n k : Nat) : numL (le n k) = n % 256 ^ k := by
  induction k with
  | zero => simp [le, numL, Nat.mod_one]
  | succ k ih => rw [le, numL_snoc, ih, le_len, Nat.mod_pow_succ, Nat.mul_comm]
/-- Bytes below 256 are their number's. -/
theorem le_of_numL : ∀ (l : List Nat) (_ : ∀ x ∈ l, x < 256) (k : Nat), k ≤ l.length → le (numL l) k = l.take k
  | l, hl, 0, _ => by simp [le]
  | l, hl, k + 1, hk => by
    rw [le, le_of_numL l hl k (by omega), List.take_add_one, List.getElem?_eq_getElem (by omega : k < l.length)]
    rw [numL_get l hl k l[k] (List.getElem?_eq_getElem (by omega))]
    rfl
theorem le_nums (s : ByteArray) : le (numL (nums s)) s.size = nums s := by
  rw [le_of_numL _ (nums_lt s) _ (by rw [nums_len]; exact Nat.le_refl _), ← nums_len, List.take_length]

/-- The number that a text is. -/
def num (s : ByteArray) : Nat := numL (nums s)
theorem p256 (k : Nat) : (256 : Nat) ^ k = 2 ^ (8 * k) := by rw [Nat.pow_mul]
theorem num_lt (s : ByteArray) : num s < 2 ^ (8 * s.size) := by
  have h := numL_lt _ (nums_lt s)
  rw [nums_len, p256] at h
  exact h
theorem num_text (M k : Nat) : num (text (le M k)) = M % 2 ^ (8 * k) := by
  unfold num
  rw [nums_text _ (le_lt M k), numL_le, p256]

/-- m bits from a place on. -/
def bitsAt (N a m : Nat) : Nat := N / 2 ^ a % 2 ^ m
theorem bitsAt_lt (N a m : Nat) : bitsAt N a m < 2 ^ m := Nat.mod_lt _ (Nat.two_pow_pos _)
theorem bitsAt_zero (N a : Nat) : bitsAt N a 0 = 0 := by unfold bitsAt; rw [Nat.pow_zero, Nat.mod_one]
theorem bitsAt_lt32 (N a m : Nat) (h : m ≤ 32) : bitsAt N a m < 4294967296 :=
  Nat.lt_of_lt_of_le (bitsAt_lt N a m) (Nat.pow_le_pow_right (n := 2) (by omega) h)
theorem bitsAt_succ (N a m : Nat) : bitsAt N a (m + 1) = bitsAt N a m + 2 ^ m * bitsAt N (a + m) 1 := by
  unfold bitsAt
  rw [Nat.mod_pow_succ, Nat.div_div_eq_div_mul, ← Nat.pow_add, Nat.pow_one]
/-- One byte's bit is the whole's. -/
theorem bit_of_byte (s : ByteArray) (a : Nat) (h : a / 8 < s.size) : s[a / 8].toNat / 2 ^ (a % 8) % 2 = bitsAt (num s) a 1 := by
  have hg := numL_get _ (nums_lt s) (a / 8) _ (nums_get s (a / 8) h)
  rw [← hg]
  unfold bitsAt num
  generalize numL (nums s) = N
  have e : a = 8 * (a / 8) + a % 8 := by omega
  conv => rhs; rw [e]
  rw [Nat.pow_add, ← Nat.div_div_eq_div_mul, ← p256]
  generalize N / 256 ^ (a / 8) = X
  have hr : a % 8 < 8 := Nat.mod_lt _ (by omega)
  generalize a % 8 = r at hr
  rw [show (256 : Nat) = 2 ^ r * 2 ^ (8 - r) from by rw [← Nat.pow_add, show r + (8 - r) = 8 by omega], Nat.mod_mul_right_div_self, Nat.mod_mod_of_dvd _ (by exact ⟨2 ^ (7 - r), by rw [← Nat.pow_succ', show (7 - r).succ = 8 - r by omega]⟩), Nat.pow_one]
/-- A window of 40 bits is enough for any 32. -/
theorem window_bits (N a m : Nat) (h : a % 8 + m ≤ 40) : N / 256 ^ (a / 8) % 256 ^ 5 / 2 ^ (a % 8) % 2 ^ m = bitsAt N a m := by
  unfold bitsAt
  have e : a = 8 * (a / 8) + a % 8 := by omega
  conv => rhs; rw [e]
  rw [Nat.pow_add, ← Nat.div_div_eq_div_mul, ← p256]
  generalize N / 256 ^ (a / 8) = X
  generalize a % 8 = r at h
  rw [show (256 : Nat) ^ 5 = 2 ^ r * 2 ^ (40 - r) from by rw [← Nat.pow_add, show r + (40 - r) = 40 by omega], Nat.mod_mul_right_div_self, Nat.mod_mod_of_dvd _ (by exact ⟨2 ^ (40 - r - m), by rw [← Nat.pow_add, show m + (40 - r - m) = 40 - r by omega]⟩)]
/-- The lowest m bits by the mask. -/
theorem and_low (v m : Nat) : v &&& (2 ^ m - 1) = v % 2 ^ m := Nat.and_two_pow_sub_one_eq_mod v m

theorem or_step (N x k : Nat) (hN : N < 2 ^ k) : N ||| x * 2 ^ k = N + x * 2 ^ k := by
  have h := Nat.shiftLeft_add_eq_or_of_lt hN x
  rw [Nat.shiftLeft_eq] at h
  rw [Nat.or_comm, ← h, Nat.add_comm]
end Go.Proofs.YtmeapijckncoeaaGreatDoor

namespace Go.Proofs.YtmeapijckncoeaaGreatDoor
open Go.RowKit

/-- What the two tables of unicode/utf8 and the search's limit hold. -/
def Env (w : World) : Prop := Lib.Utf8Tabs 1 2 w ∧ ∃ m, w.cell? ⟨0, 0, none⟩ = some (.int .i64 m)
theorem cell_below {w w' : World} (hb : Below w.heap.size w w') {p : Addr} {v : Value} (h : w.cell? p = some v) : w'.cell? p = some v :=
  (hb.cell (World.block_lt_of_cell? _ _ h)).trans h
theorem Env.below {w w' : World} (h : Env w) (hb : Below w.heap.size w w') : Env w' := by
  obtain ⟨⟨h1, h2⟩, m, h3⟩ := h
  exact ⟨⟨fun c hc => cell_below hb (h1 c hc), fun i hi => ⟨cell_below hb (h2 i hi).1, cell_below hb (h2 i hi).2⟩⟩, m, cell_below hb h3⟩
theorem Env.then {W w w' : World} (h : Env w) (_ : Below W.heap.size W w) (hb : Below w.heap.size w w') : Env w' := h.below hb
theorem Env.alloc {w : World} (h : Env w) (o : Obj) : Env (w.alloc o) := h.below ((Below.refl _ _).alloc (Nat.le_refl _) o)
theorem Env.drew {w : World} (h : Env w) : Env w.drew := h.below (Below.refl _ _).drew

/-! ### runes -/
/-- Is the byte at a place a stray? -/
def strayAt (s : ByteArray) (i : Nat) : Bool := decide (Utf8.decode s i = (65533, 1))
theorem decode_pos (s : ByteArray) (pos : Nat) (h : pos < s.size) : 1 ≤ (Utf8.decode s pos).2 := by
  by_cases ha : (s[pos]'h).toNat < 128
  · rw [decode_ascii s pos h ha]
    exact Nat.le_refl _
  · exact (decode_high s pos h (by omega)).2
def strayF (s : ByteArray) : Nat → Nat → Bool
  | 0, _ => false
  | f + 1, pos => if pos < s.size then (if strayAt s pos = true then true else strayF s f (pos + (Utf8.decode s pos).2)) else false
theorem strayF_end (s : ByteArray) (f pos : Nat) (h : ¬ pos < s.size) : strayF s f pos = false := by
  cases f with
  | zero => rfl
  | succ f => rw [strayF, if_neg h]
/-- Has a text a stray? -/
def straysB (s : ByteArray) : Bool := strayF s s.size 0
def runeF (s : ByteArray) : Nat → Nat → List Nat
  | 0, _ => []
  | f + 1, pos => if pos < s.size then (Utf8.decode s pos).1 :: runeF s f (pos + (Utf8.decode s pos).2) else []
theorem runeF_end (s : ByteArray) (f pos : Nat) (h : ¬ pos < s.size) : runeF s f pos = [] := by
  cases f with
  | zero => rfl
  | succ f => rw [runeF, if_neg h]
/-- The runes of a text. -/
def runesB (s : ByteArray) : List Nat := runeF s s.size 0

theorem byte_lt (s : ByteArray) (i : Nat) : (s.get! i).toNat < 256 := (s.get! i).toNat_lt
theorem get_bang (s : ByteArray) (i : Nat) (h : i < s.size) : (s.get! i).toNat = s[i].toNat := by
  have := get_at s i h
  rw [Nat.add_zero] at this
  rw [this]
open Go.Lib in
set_option maxRecDepth 100000 in
set_option maxHeartbeats 4000000 in
/-- The rune U+FFFD itself. -/
theorem fffd (n b0 b1 b2 b3 : Nat) (h0 : b0 < 256) (_ : b1 < 256) (_ : b2 < 256) (_ : b3 < 256) (h : (decodeN n b0 b1 b2 b3).1 = 65533) : (decodeN n b0 b1 b2 b3).2 = 1 ∧ ¬ (2 < n ∧ b0 = 239 ∧ b1 = 191 ∧ b2 = 189) ∨ (decodeN n b0 b1 b2 b3).2 = 3 ∧ 2 < n ∧ b0 = 239 ∧ b1 = 191 ∧ b2 = 189 := by
  unfold decodeN at h ⊢
  repeat' split at h
  all_goals simp only at h
  all_goals first
    | (exfalso; omega)
    | (repeat' (first | rw [if_pos ‹_›] | rw [if_neg ‹_›]))
  all_goals first
    | (left; refine ⟨rfl, ?_⟩; omega)
    | (right; refine ⟨rfl, ?_⟩; omega)
end Go.Proofs.YtmeapijckncoeaaGreatDoor
