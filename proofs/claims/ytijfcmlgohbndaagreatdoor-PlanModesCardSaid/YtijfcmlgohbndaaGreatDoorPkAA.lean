/-
  Small facts that all our walks use: a number of a kind as a natural one.
  Bytes as one number: its bits, its bytes, pieces of it.
  Contracts: numbers as bytes, both ways, of the program and of the document.
  Contracts: what bytes are as a number, of the program and of the document; numbers in two, four, eight bytes.
  Contracts: the cursor's calls.
  Contracts: a cursor that is none; the chapter's examples.
  Contracts: the document's cursor.
  Texts as numbers; what a cursor takes where there is enough.
  Fields: their cells; the fields that bytes are; the bytes of fields.
-/
import Derived.Test.YtijfcmlgohbndaaGreatDoorRows
import Derived.WalkKit
import Derived.WalkSpells
import Derived.WalkLawsBesides
import Derived.OpenShut
import Derived.Lib.Hide
import Derived.Laws.IdiomStrings
import Derived.Laws.BytesArg
import Derived.Lib.SmallJoins
import Derived.Deep.AppendLies
import Derived.Deep.QuietTactic
import Derived.BigQuiet
import Derived.Deep.RegionWith
import Derived.Deep.DeepMust
import Derived.Maps.AppendAt

namespace Go.Proofs.YtijfcmlgohbndaaGreatDoor
open Go.RowKit

theorem nat_of {a : Int} {B : Nat} (h : 0 ≤ a ∧ a ≤ B) : ∃ n : Nat, a = n ∧ n < B + 1 := by
  obtain ⟨n, rfl⟩ := Int.eq_ofNat_of_zero_le h.1
  exact ⟨n, rfl, by omega⟩
theorem nat_u8 {a : Int} (w : (Lit.int .u8 a).wf = true) : ∃ n : Nat, a = n ∧ n < 256 := nat_of (bounds_u8 w)
theorem nat_u16 {a : Int} (w : (Lit.int .u16 a).wf = true) : ∃ n : Nat, a = n ∧ n < 65536 := nat_of (bounds_u16 w)
theorem nat_u32 {a : Int} (w : (Lit.int .u32 a).wf = true) : ∃ n : Nat, a = n ∧ n < 4294967296 := nat_of (bounds_u32 w)
theorem nat_u64 {a : Int} (w : (Lit.int .u64 a).wf = true) : ∃ n : Nat, a = n ∧ n < 18446744073709551616 := nat_of (bounds_u64 w)
theorem ret_eq {k : IntKind} {a b : Int} (h : a = b) : Ending.returned (.int k a) = .returned (.int k b) := by rw [h]
theorem below_drewN {B : Nat} {a w : World} (h : Below B a w) (n : Nat) : Below B a (w.drewN n) := h.trans ⟨rfl, rfl, rfl, Nat.le_refl _, fun _ _ => rfl⟩
theorem below_setRow {B : Nat} {a w : World} (h : Below B a w) {g : Nat} (hg : B ≤ g) (cs : Array Value) : Below B a (w.setRow g cs) :=
  h.trans ⟨rfl, rfl, rfl, by simp, fun k hk => setRow_other w g k cs (by omega)⟩
/-- A call behind a call: what was below stays below. -/
theorem below_then {W w w' : World} (h : Below W.heap.size W w) (k : Below w.heap.size w w') : Below W.heap.size W w' := h.trans (k.mono h.size)
end Go.Proofs.YtijfcmlgohbndaaGreatDoor

namespace Go.Proofs.YtijfcmlgohbndaaGreatDoor
open Go.RowKit Go.Joins

/-- Numbers as a text's bytes. -/
def text (l : List Nat) : ByteArray := ⟨(l.map UInt8.ofNat).toArray⟩
/-- The lowest k bytes of a number, the lowest first. -/
def le (n : Nat) : Nat → List Nat
  | 0 => []
  | k + 1 => le n k ++ [n / 256 ^ k % 256]
theorem le_len (n k : Nat) : (le n k).length = k := by
  induction k with
  | zero => rfl
  | succ k ih => simp [le, ih]
theorem le_lt (n k : Nat) : ∀ x ∈ le n k, x < 256 := by
  induction k with
  | zero => intro x hx; cases hx
  | succ k ih =>
    intro x hx
    rw [le, List.mem_append] at hx
    rcases hx with hx | hx
    · exact ih x hx
    · simp at hx; omega
def cells8 (l : List Nat) : List Value := l.map fun x => Value.int .u8 (x : Nat)
theorem cells8_app (l m : List Nat) : cells8 (l ++ m) = cells8 l ++ cells8 m := by simp [cells8]

theorem string_of_own {W : World} {base n : Nat} {v : Value} {l : List Nat} (h : W.ownsRow base 5 1 v n (cells8 l)) (hl : ∀ x ∈ l, x < 256) :
    (convert 168 9 v).run Tryz.prog W = .ok (.string (text l)) W := by
  have hn : l.length = n := by have := h.1; simpa [cells8] using this
  rcases ownsRow_forms h with ⟨rfl, h0⟩ | ⟨g, cap, rfl⟩
  · have : l = [] := List.eq_nil_of_length_eq_zero (by omega)
    subst this
    exact run_convert_bytes_nil W 168 5 Tryz.underlying168 Tryz.underlying5 0 0 9 Tryz.underlying9
  · have hb := run_convert_bytes_back (P := Tryz.prog) W 168 9 5 ⟨g, 0, none⟩ cap (l.map UInt8.ofNat) Tryz.underlying168 Tryz.underlying5 Tryz.underlying9 (fun j hj => by
      have hj' : j < l.length := by simpa using hj
      rw [Addr.add_lit, Nat.zero_add, h.cellAt j (by omega)]
      have hx : l[j] < 256 := hl _ (List.getElem_mem hj')
      simp only [cells8, List.getElem?_map, List.getElem?_eq_getElem hj', Option.map_some, List.getElem_map]
      rw [show (UInt8.ofNat l[j]).toNat = l[j] from Nat.mod_eq_of_lt hx])
    rw [List.length_map, hn] at hb
    exact hb

theorem info8 : (Tryz.prog.info? 5).map (fun i => (i.zero, i.size, i.bytes)) = some (some (.int .u8 0), 1, 1) := by kernel_rfl

/-- What bytes are, the lowest first. -/
def numL : List Nat → Nat
  | [] => 0
  | x :: l => x + 256 * numL l
theorem numL_lt (l : List Nat) (hl : ∀ x ∈ l, x < 256) : numL l < 256 ^ l.length := by
  induction l with
  | nil => decide
  | cons x l ih =>
    have h1 := ih fun y hy => hl y (by simp [hy])
    have h2 := hl x (by simp)
    show x + 256 * numL l < 256 ^ (l.length + 1)
    rw [Nat.pow_succ]
    omega
theorem numL_snoc (l : List Nat) (x : Nat) : numL (l ++ [x]) = numL l + x * 256 ^ l.length := by
  induction l with
  | nil => simp [numL]
  | cons y l ih =>
    show y + 256 * numL (l ++ [x]) = y + 256 * numL l + x * 256 ^ (l.length + 1)
    rw [ih, Nat.mul_add, Nat.pow_succ, Nat.add_assoc, Nat.mul_left_comm, Nat.mul_comm 256 (256 ^ l.length)]

/-- A text's bytes as numbers. -/
def nums (s : ByteArray) : List Nat := s.data.toList.map UInt8.toNat
theorem nums_lt (s : ByteArray) : ∀ x ∈ nums s, x < 256 := by
  intro x hx
  unfold nums at hx
  simp at hx
  obtain ⟨y, _, rfl⟩ := hx
  exact y.toNat_lt
theorem nums_len (s : ByteArray) : (nums s).length = s.size := by simp [nums]
theorem nums_get (s : ByteArray) (k : Nat) (h : k < s.size) : (nums s)[k]? = some s[k].toNat := by
  rw [List.getElem?_eq_getElem (by rw [nums_len]; exact h)]
  congr 1
  unfold nums
  simp
  rfl
theorem nums_snoc (s : ByteArray) (k : Nat) (h : k < s.size) : (nums s).take (k + 1) = (nums s).take k ++ [s[k].toNat] := by
  rw [List.take_add_one, nums_get s k h]
  rfl
theorem text_nums (s : ByteArray) : text (nums s) = s := by
  unfold text nums
  rw [List.map_map, show (UInt8.ofNat ∘ UInt8.toNat) = id from by funext x; simp, List.map_id, Array.toArray_toList]
theorem text_size (l : List Nat) : (text l).size = l.length := by simp [text, ByteArray.size]
theorem nums_text (l : List Nat) (h : ∀ x ∈ l, x < 256) : nums (text l) = l := by
  unfold text nums
  simp only [List.map_map]
  calc l.map (UInt8.toNat ∘ UInt8.ofNat) = l.map id := List.map_congr_left fun x hx => by simpa using h x hx
    _ = l := List.map_id l

/-- A byte of the number. -/
theorem numL_get : ∀ (l : List Nat) (_ : ∀ x ∈ l, x < 256) (k x : Nat), l[k]? = some x → numL l / 256 ^ k % 256 = x
  | [], _, k, x, h => by simp at h
  | y :: l, hl, 0, x, h => by
    have := hl y (by simp)
    simp at h
    simp [numL]
    omega
  | y :: l, hl, k + 1, x, h => by
    have hy := hl y (by simp)
    have ih := numL_get l (fun z hz => hl z (by simp [hz])) k x (by simpa using h)
    rw [numL, Nat.pow_succ, Nat.mul_comm (256 ^ k), ← Nat.div_div_eq_div_mul, show (y + 256 * numL l) / 256 = numL l by omega]
    exact ih
theorem numL_take : ∀ (l : List Nat) (_ : ∀ x ∈ l, x < 256) (k : Nat), numL (l.take k) = numL l % 256 ^ k
  | l, hl, 0 => by simp [numL, Nat.mod_one]
  | [], hl, k + 1 => by simp [numL]
  | y :: l, hl, k + 1 => by
    have hy := hl y (by simp)
    rw [List.take_succ_cons, numL, numL_take l (fun z hz => hl z (by simp [hz])) k, numL, Nat.pow_succ, Nat.mul_comm (256 ^ k), Nat.mod_mul, show (y + 256 * numL l) % 256 = y by omega, show (y + 256 * numL l) / 256 = numL l by omega]
theorem numL_drop : ∀ (l : List Nat) (_ : ∀ x ∈ l, x < 256) (k : Nat), numL (l.drop k) = numL l / 256 ^ k
  | l, hl, 0 => by simp
  | [], hl, k + 1 => by simp [numL]
  | y :: l, hl, k + 1 => by
    have hy := hl y (by simp)
    rw [List.drop_succ_cons, numL_drop l (fun z hz => hl z (by simp [hz])) k, numL, Nat.pow_succ, Nat.mul_comm (256 ^ k), ← Nat.div_div_eq_div_mul, show (y + 256 * numL l) / 256 = numL l by omega]
theorem numL_app : ∀ (l m : List Nat), numL (l ++ m) = numL l + numL m * 256 ^ l.length
  | [], m => by simp [numL]
  | y :: l, m => by
    rw [List.cons_append, numL, numL_app l m, numL, List.length_cons, Nat.pow_succ, Nat.mul_add, Nat.add_assoc, Nat.mul_left_comm, Nat.mul_comm 256 (256 ^ l.length)]
theorem numL_le (n k : Nat) : numL (le n k) = n % 256 ^ k := by
  induction k with
  | zero => simp [le, numL, Nat.mod_one]
  | succ k ih => rw [le, numL_snoc, ih, le_len, Nat.mod_pow_succ, Nat.mul_comm]
/-- Bytes below 256 are their number's. -/
theorem le_of_numL : ∀ (l : List Nat) (_ : ∀ x ∈ l, x < 256) (k : Nat), k ≤ l.length → le (numL l) k = l.take k
  | l, hl, 0, _ => by simp [le]
  | l, hl, k + 1, hk => by
    rw [le, le_of_numL l hl k (by omega), List.take_add_one, List.getElem?_eq_getElem (by omega : k < l.length)]
    rw [numL_get l hl k l[k] (List.getElem?_eq_getElem (by omega))]
    rfl
theorem le_nums (s : ByteArray) : le (numL (nums s)) s.size = nums s := by
  rw [le_of_numL _ (nums_lt s) _ (by rw [nums_len]; exact Nat.le_refl _), ← nums_len, List.take_length]

/-- The number that a text is. -/
def num (s : ByteArray) : Nat := numL (nums s)
theorem p256 (k : Nat) : (256 : Nat) ^ k = 2 ^ (8 * k) := by rw [Nat.pow_mul]
theorem num_lt (s : ByteArray) : num s < 2 ^ (8 * s.size) := by
  have h := numL_lt _ (nums_lt s)
  rw [nums_len, p256] at h
  exact h
theorem num_text (M k : Nat) : num (text (le M k)) = M % 2 ^ (8 * k) := by
  unfold num
  rw [nums_text _ (le_lt M k), numL_le, p256]

/-- m bits from a place on. -/
def bitsAt (N a m : Nat) : Nat := N / 2 ^ a % 2 ^ m
theorem bitsAt_lt (N a m : Nat) : bitsAt N a m < 2 ^ m := Nat.mod_lt _ (Nat.two_pow_pos _)
theorem bitsAt_zero (N a : Nat) : bitsAt N a 0 = 0 := by unfold bitsAt; rw [Nat.pow_zero, Nat.mod_one]
theorem bitsAt_lt32 (N a m : Nat) (h : m ≤ 32) : bitsAt N a m < 4294967296 :=
  Nat.lt_of_lt_of_le (bitsAt_lt N a m) (Nat.pow_le_pow_right (n := 2) (by omega) h)
theorem bitsAt_succ (N a m : Nat) : bitsAt N a (m + 1) = bitsAt N a m + 2 ^ m * bitsAt N (a + m) 1 := by
  unfold bitsAt
  rw [Nat.mod_pow_succ, Nat.div_div_eq_div_mul, ← Nat.pow_add, Nat.pow_one]
/-- One byte's bit is the whole's. -/
theorem bit_of_byte (s : ByteArray) (a : Nat) (h : a / 8 < s.size) : s[a / 8].toNat / 2 ^ (a % 8) % 2 = bitsAt (num s) a 1 := by
  have hg := numL_get _ (nums_lt s) (a / 8) _ (nums_get s (a / 8) h)
  rw [← hg]
  unfold bitsAt num
  generalize numL (nums s) = N
  have e : a = 8 * (a / 8) + a % 8 := by omega
  conv => rhs; rw [e]
  rw [Nat.pow_add, ← Nat.div_div_eq_div_mul, ← p256]
  generalize N / 256 ^ (a / 8) = X
  have hr : a % 8 < 8 := Nat.mod_lt _ (by omega)
  generalize a % 8 = r at hr
  rw [show (256 : Nat) = 2 ^ r * 2 ^ (8 - r) from by rw [← Nat.pow_add, show r + (8 - r) = 8 by omega], Nat.mod_mul_right_div_self, Nat.mod_mod_of_dvd _ (by exact ⟨2 ^ (7 - r), by rw [← Nat.pow_succ', show (7 - r).succ = 8 - r by omega]⟩), Nat.pow_one]
/-- A window of 40 bits is enough for any 32. -/
theorem window_bits (N a m : Nat) (h : a % 8 + m ≤ 40) : N / 256 ^ (a / 8) % 256 ^ 5 / 2 ^ (a % 8) % 2 ^ m = bitsAt N a m := by
  unfold bitsAt
  have e : a = 8 * (a / 8) + a % 8 := by omega
  conv => rhs; rw [e]
  rw [Nat.pow_add, ← Nat.div_div_eq_div_mul, ← p256]
  generalize N / 256 ^ (a / 8) = X
  generalize a % 8 = r at h
  rw [show (256 : Nat) ^ 5 = 2 ^ r * 2 ^ (40 - r) from by rw [← Nat.pow_add, show r + (40 - r) = 40 by omega], Nat.mod_mul_right_div_self, Nat.mod_mod_of_dvd _ (by exact ⟨2 ^ (40 - r - m), by rw [← Nat.pow_add, show m + (40 - r - m) = 40 - r by omega]⟩)]
/-- The lowest m bits by the mask. -/
theorem and_low (v m : Nat) : v &&& (2 ^ m - 1) = v % 2 ^ m := Nat.and_two_pow_sub_one_eq_mod v m

theorem or_step (N x k : Nat) (hN : N < 2 ^ k) : N ||| x * 2 ^ k = N + x * 2 ^ k := by
  have h := Nat.shiftLeft_add_eq_or_of_lt hN x
  rw [Nat.shiftLeft_eq] at h
  rw [Nat.or_comm, ← h, Nat.add_comm]
end Go.Proofs.YtijfcmlgohbndaaGreatDoor

namespace Go.Proofs.YtijfcmlgohbndaaGreatDoor
set_option maxRecDepth 100000
open Go.RowKit Go.Joins

end Go.Proofs.YtijfcmlgohbndaaGreatDoor

namespace Go.Proofs.YtijfcmlgohbndaaGreatDoor
set_option maxRecDepth 100000
open Go.RowKit Go.Joins

theorem nums_take_lt (s : ByteArray) (k : Nat) : ∀ x ∈ (nums s).take k, x < 256 := fun x hx => nums_lt s x (List.mem_of_mem_take hx)
theorem or_step8 (N x k : Nat) (hN : N < 256 ^ k) : N ||| x * 2 ^ (8 * k) = N + x * 256 ^ k := by
  have e : (256 : Nat) ^ k = 2 ^ (8 * k) := by rw [Nat.pow_mul]
  rw [e] at hN ⊢
  have h := Nat.shiftLeft_add_eq_or_of_lt hN x
  rw [Nat.shiftLeft_eq] at h
  rw [Nat.or_comm, ← h, Nat.add_comm]

theorem pow_up (k : Nat) (hk : k < 8) : (256 : Nat) ^ (k + 1) ≤ 18446744073709551616 := by
  have h := Nat.pow_le_pow_right (n := 256) (by omega) (show k + 1 ≤ 8 by omega)
  exact h
theorem or_walk (X x k : Nat) (hX : X < 256 ^ k) (hx : x < 256) (hk : k < 8) : bits .or .u64 (X : Int) (IntKind.u64.wrap ((x : Int) * 2 ^ (8 * k))) = ((X + x * 256 ^ k : Nat) : Int) := by
  have hp := pow_up k hk
  rw [Nat.pow_succ] at hp
  have e : (2 : Nat) ^ (8 * k) = 256 ^ k := by rw [Nat.pow_mul]
  have hpos : 0 < (256 : Nat) ^ k := Nat.pow_pos (by omega)
  have h1 : x * 256 ^ k < 18446744073709551616 := by
    have : x * 256 ^ k < 256 ^ k * 256 := by rw [Nat.mul_comm]; exact Nat.mul_lt_mul_of_pos_left hx hpos
    omega
  have e2 : ((x : Int) * 2 ^ (8 * k)) = ((x * 2 ^ (8 * k) : Nat) : Int) := by simp
  have h2 : IntKind.u64.wrap ((x : Int) * 2 ^ (8 * k)) = ((x * 2 ^ (8 * k) : Nat) : Int) := by
    rw [e2, IntKind.wrap_u64, e]
    omega
  rw [h2, u64_or_nat X _ (by omega) (by rw [e]; exact h1), or_step8 X x k hX]

theorem number_long (s : ByteArray) (hs : s.size ≤ maxLen) (h8 : 8 < s.size) (w : World) :
    Calls Tryz.prog 68 #[.string s] w fun e w' => e = .returned (.tuple #[.int .u64 0, .int .i64 5]) ∧ w = w' := by
  unfold maxLen at hs
  go_enter Tryz.func68, Tryz.ntmps68
  go_wp2
  go_ret2
  exact ⟨rfl, rfl⟩

theorem number_any (s : ByteArray) (h8 : s.size ≤ 8) (w : World) :
    Calls Tryz.prog 68 #[.string s] w fun e w' => e = .returned (.tuple #[.int .u64 (numL (nums s) : Nat), .int .i64 0]) ∧ w = w' := by
  go_enter Tryz.func68, Tryz.ntmps68
  go_wp2
  go_loop [4, 11] (fun x i => ∃ k : Nat, k ≤ s.size ∧ i = .int .i64 k ∧ x = .int .u64 (numL ((nums s).take k) : Nat)) (fun _ i => s.size - (intOf i).toNat)
  case atStart => exact ⟨0, Nat.zero_le _, rfl, rfl⟩
  case round =>
    obtain ⟨k, hk, rfl, rfl⟩ := hrel
    have hN := numL_lt _ (nums_take_lt s k)
    rw [List.length_take, nums_len, Nat.min_eq_left hk] at hN
    generalize hNN : numL ((nums s).take k) = X at hN
    have HN := Lib.hid hN
    have HX := Lib.hid hNN
    clear hNN hN
    by_cases hlt : k < s.size
    · have hsk : s[k].toNat < 256 := s[k].toNat_lt
      go_wp2
      go_round
      case rel =>
        refine ⟨k + 1, by omega, by go_num, ?_⟩
        rw [nums_snoc s k hlt, numL_snoc, HX.out, List.length_take, nums_len, Nat.min_eq_left hk, or_walk X s[k].toNat k HN.out hsk (by omega)]
      case measure => simp [intOf]; omega
    · obtain rfl : k = s.size := by omega
      go_wp2
      go_ret2
      have h := HX.out
      rw [← nums_len, List.take_length] at h
      subst h
      exact ⟨rfl, rfl⟩

theorem nums_drop (s : ByteArray) (j : Nat) (h : j < s.size) : (nums s).drop j = s[j].toNat :: (nums s).drop (j + 1) := by
  rw [List.drop_eq_getElem_cons (by rw [nums_len]; exact h)]
  congr 1
  unfold nums
  simp
  rfl
theorem numL_small (s : ByteArray) (k : Nat) (hk : 1 ≤ k) (h8 : s.size ≤ 8) : numL ((nums s).drop k) < 72057594037927936 := by
  have h := numL_lt ((nums s).drop k) (fun x hx => nums_lt s x (List.mem_of_mem_drop hx))
  rw [List.length_drop, nums_len] at h
  exact Nat.lt_of_lt_of_le h (Nat.pow_le_pow_right (n := 256) (by omega) (show s.size - k ≤ 7 by omega))

theorem le_mod (n k : Nat) : ∀ j, j ≤ k → le (n % 256 ^ k) j = le n j := by
  intro j
  induction j with
  | zero => intro _; rfl
  | succ j ih =>
    intro hj
    rw [le, le, ih (by omega)]
    have e : n % 256 ^ k / 256 ^ j % 256 = n / 256 ^ j % 256 := by
      obtain ⟨d, rfl⟩ : ∃ d, k = j + (d + 1) := ⟨k - j - 1, by omega⟩
      rw [Nat.pow_add, Nat.mod_mul_right_div_self, Nat.pow_succ, Nat.mul_comm (256 ^ d), Nat.mod_mul_right_mod]
    rw [e]

end Go.Proofs.YtijfcmlgohbndaaGreatDoor

namespace Go.Proofs.YtijfcmlgohbndaaGreatDoor
set_option maxRecDepth 100000
open Go.RowKit Go.Joins

/-- A block that is a cursor: its text, its place, its error. -/
def Cur (w : World) (g : Nat) (s : ByteArray) (a e : Nat) : Prop := w.heap[g]? = some (.cells #[.string s, .int .i64 (a : Nat), .int .i64 (e : Nat)] 163 (0, 0))
theorem Cur.c0 {w : World} {g : Nat} {s : ByteArray} {a e : Nat} (h : Cur w g s a e) : w.cell? ⟨g, 0, none⟩ = some (.string s) := by rw [cell_of_row w g 0 _ _ _ h]; rfl
theorem Cur.c1 {w : World} {g : Nat} {s : ByteArray} {a e : Nat} (h : Cur w g s a e) : w.cell? ⟨g, 1, none⟩ = some (.int .i64 (a : Nat)) := by rw [cell_of_row w g 1 _ _ _ h]; rfl
theorem Cur.c2 {w : World} {g : Nat} {s : ByteArray} {a e : Nat} (h : Cur w g s a e) : w.cell? ⟨g, 2, none⟩ = some (.int .i64 (e : Nat)) := by rw [cell_of_row w g 2 _ _ _ h]; rfl
theorem Cur.fr {w : World} {g : Nat} {s : ByteArray} {a e : Nat} (h : Cur w g s a e) (i : Nat) : w.frozen? ⟨g, i, none⟩ = false := frozen_of_row w g i _ _ h
theorem Cur.lt {w : World} {g : Nat} {s : ByteArray} {a e : Nat} (h : Cur w g s a e) : g < w.heap.size := by
  rcases Nat.lt_or_ge g w.heap.size with hlt | hge
  · exact hlt
  · unfold Cur at h; rw [Array.getElem?_eq_none hge] at h; cases h
theorem Cur.drewN {w : World} {g : Nat} {s : ByteArray} {a e : Nat} (h : Cur w g s a e) (n : Nat) : Cur (w.drewN n) g s a e := h
theorem Cur.setAt {w : World} {g : Nat} {s : ByteArray} {a e : Nat} (h : Cur w g s a e) (a' : Nat) : Cur (w.setCell ⟨g, 1, none⟩ (.int .i64 (a' : Nat))) g s a' e := heap_setCell_same w g 1 _ _ _ h
theorem Cur.setErr {w : World} {g : Nat} {s : ByteArray} {a e : Nat} (h : Cur w g s a e) (e' : Nat) : Cur (w.setCell ⟨g, 2, none⟩ (.int .i64 (e' : Nat))) g s a e' := heap_setCell_same w g 2 _ _ _ h
theorem Cur.grown {w w' : World} {g : Nat} {s : ByteArray} {a e : Nat} {row : Option Nat} (h : Cur w g s a e) (hg : w.grownBy w' row) (hne : some g ≠ row) : Cur w' g s a e := (hg.block g h.lt hne).trans h
theorem Cur.below {w w' : World} {B g : Nat} {s : ByteArray} {a e : Nat} (h : Cur w g s a e) (hb : Below B w w') (hg : g < B) : Cur w' g s a e := (hb.block g hg).trans h

theorem grown_drewN (w : World) (n : Nat) (row : Option Nat) : w.grownBy (w.drewN n) row := ⟨rfl, rfl, rfl, Nat.le_refl _, fun _ _ _ => rfl⟩
theorem grown_set (w : World) (g i : Nat) (v : Value) : w.grownBy (w.setCell ⟨g, i, none⟩ v) (some g) :=
  ⟨rfl, rfl, rfl, by simp [World.setCell], fun k _ hne => Below.heap_setCell _ _ _ _ (fun e => hne (by rw [e]))⟩
theorem grown_then {w w1 w2 : World} {row : Option Nat} (h : w.grownBy w1 row) (k : w1.grownBy w2 row) : w.grownBy w2 row :=
  ⟨k.os.trans h.os, k.tape.trans h.tape, k.output.trans h.output, Nat.le_trans h.size k.size, fun i hi hne => (k.block i (Nat.lt_of_lt_of_le hi h.size) hne).trans (h.block i hi hne)⟩

/-- Can the next n bytes be taken? -/
def mayB (s : ByteArray) (a e : Nat) (n : Int) : Bool := decide (e = 0 ∧ 0 ≤ n ∧ n ≤ (s.size : Int) - a)

theorem over_any (s : ByteArray) (w : World) :
    Calls Tryz.prog 54 #[.string s] w fun e w' => e = .returned (.pointer (some ⟨w.heap.size, 0, none⟩)) ∧ w.alloc (.cells #[.string s, .int .i64 0, .int .i64 0] 163) = w' := by
  go_enter Tryz.func54, Tryz.ntmps54
  go_wp2
  go_ret
  exact ⟨rfl, rfl⟩

theorem may_any (g : Nat) (s : ByteArray) (a e : Nat) (n : Int) (hs : s.size ≤ maxLen) (ha : a ≤ s.size) (hn : (Lit.int .i64 n).wf = true) (w : World) (hc : Cur w g s a e) :
    Calls Tryz.prog 79 #[.pointer (some ⟨g, 0, none⟩), .int .i64 n] w fun r w' => r = .returned (.bool (mayB s a e n)) ∧ ∃ d, w' = w.drewN d := by
  unfold maxLen at hs
  have hb := bounds_i64 hn
  have c0 := hc.c0
  have c1 := hc.c1
  have c2 := hc.c2
  clear hc hn
  by_cases he : e = 0
  · have he' : ((e : Int) == 0) = true := by subst he; rfl
    by_cases h0 : 0 ≤ n
    · have h0' : decide (0 ≤ n) = true := decide_eq_true h0
      have HM : Hid (mayB s a e n = decide (n ≤ (s.size : Int) - a)) := by
        show _ = _
        unfold mayB
        exact decide_eq_decide.mpr ⟨fun h => h.2.2, fun h => ⟨he, h0, h⟩⟩
      clear he
      go_enter Tryz.func79, Tryz.ntmps79
      go_wp2
      go_quiet (fail)
      go_wp2
      go_ret
      exact ⟨by rw [HM.out]; rfl, _, rfl⟩
    · have h0' : decide (0 ≤ n) = false := decide_eq_false h0
      have HM : Hid (mayB s a e n = false) := decide_eq_false fun h => h0 h.2.1
      clear he
      go_enter Tryz.func79, Tryz.ntmps79
      go_wp2
      go_quiet (fail)
      go_wp2
      go_ret
      exact ⟨by rw [HM.out]; rfl, _, rfl⟩
  · have he' : ((e : Int) == 0) = false := by rw [beq_eq_false_iff_ne]; omega
    have HM : Hid (mayB s a e n = false) := decide_eq_false fun h => he h.1
    clear he
    go_enter Tryz.func79, Tryz.ntmps79
    go_wp2
    go_quiet (fail)
    go_wp2
    go_ret
    exact ⟨by rw [HM.out]; rfl, _, rfl⟩

theorem may_no (g : Nat) (s : ByteArray) (a e : Nat) (n : Int) (hs : s.size ≤ maxLen) (ha : a ≤ s.size) (hn : (Lit.int .i64 n).wf = true) (w : World) (hc : Cur w g s a e) (hm : mayB s a e n = false) :
    Calls Tryz.prog 79 #[.pointer (some ⟨g, 0, none⟩), .int .i64 n] w fun r w' => r = .returned (.bool false) ∧ ∃ d, w' = w.drewN d := by
  have h := may_any g s a e n hs ha hn w hc
  rw [hm] at h
  exact h
theorem may_yes (g : Nat) (s : ByteArray) (a e : Nat) (n : Int) (hs : s.size ≤ maxLen) (ha : a ≤ s.size) (hn : (Lit.int .i64 n).wf = true) (w : World) (hc : Cur w g s a e) (hm : mayB s a e n = true) :
    Calls Tryz.prog 79 #[.pointer (some ⟨g, 0, none⟩), .int .i64 n] w fun r w' => r = .returned (.bool true) ∧ ∃ d, w' = w.drewN d := by
  have h := may_any g s a e n hs ha hn w hc
  rw [hm] at h
  exact h

/-- What can be taken. -/
def piece (s : ByteArray) (a e : Nat) (n : Int) : ByteArray := if mayB s a e n then s.extract a (a + n.toNat) else ⟨#[]⟩

theorem peek_any (g : Nat) (s : ByteArray) (a e : Nat) (n : Int) (hs : s.size ≤ maxLen) (ha : a ≤ s.size) (hn : (Lit.int .i64 n).wf = true) (w : World) (hc : Cur w g s a e) :
    Calls Tryz.prog 80 #[.pointer (some ⟨g, 0, none⟩), .int .i64 n] w fun r w' => r = .returned (.string (piece s a e n)) ∧ ∃ d, w' = w.drewN d := by
  by_cases hm : mayB s a e n = true
  · have hmay := may_yes g s a e n hs ha hn w hc hm
    have HMAY := Lib.hid hmay
    have HP : Hid (piece s a e n = s.extract a (a + n.toNat)) := if_pos hm
    have hd : 0 ≤ n ∧ n ≤ (s.size : Int) - a := by
      unfold mayB at hm
      exact (of_decide_eq_true hm).2
    obtain ⟨hn0, hn1⟩ := hd
    unfold maxLen at hs
    have c0 := hc.c0
    have c1 := hc.c1
    obtain ⟨m, rfl⟩ := Int.eq_ofNat_of_zero_le hn0
    rw [Int.toNat_natCast] at HP
    clear hc hmay hm hn
    go_enter Tryz.func80, Tryz.ntmps80
    go_wp2_with (go_at_call 79; refine (HMAY.out).mono ?_; rintro r w' ⟨rfl, d, rfl⟩)
    go_quiet (fail)
    go_wp2
    go_ret
    exact ⟨by rw [HP.out]; rfl, d + nq, by rw [World.drewN_drewN]⟩
  · have hm' : mayB s a e n = false := by simpa using hm
    have hmay := may_no g s a e n hs ha hn w hc hm'
    have HMAY := Lib.hid hmay
    have HP : Hid (piece s a e n = ⟨#[]⟩) := if_neg hm
    clear hc hmay hm hm' hn
    go_enter Tryz.func80, Tryz.ntmps80
    go_wp2_with (go_at_call 79; refine (HMAY.out).mono ?_; rintro r w' ⟨rfl, d, rfl⟩)
    go_ret
    exact ⟨by rw [HP.out]; rfl, _, rfl⟩

/-- The place and the error behind a taking. -/
def atB (s : ByteArray) (a e : Nat) (n : Int) : Nat := if mayB s a e n then a + n.toNat else a
def errB (s : ByteArray) (a e : Nat) (n : Int) : Nat := if mayB s a e n then e else 3
theorem atB_le (s : ByteArray) (a e : Nat) (n : Int) (ha : a ≤ s.size) : atB s a e n ≤ s.size := by
  unfold atB
  split
  · rename_i h
    unfold mayB at h
    have := of_decide_eq_true h
    omega
  · exact ha

theorem take_any (g : Nat) (s : ByteArray) (a e : Nat) (n : Int) (hs : s.size ≤ maxLen) (ha : a ≤ s.size) (hn : (Lit.int .i64 n).wf = true) (w : World) (hc : Cur w g s a e) :
    Calls Tryz.prog 57 #[.pointer (some ⟨g, 0, none⟩), .int .i64 n] w fun r w' => r = .returned (.string (piece s a e n)) ∧ Cur w' g s (atB s a e n) (errB s a e n) ∧ w.grownBy w' (some g) := by
  by_cases hm : mayB s a e n = true
  · have HC := Lib.hid hc
    have hpk := fun d => peek_any g s a e n hs ha hn (w.drewN d) (hc.drewN d)
    have HPK := Lib.hid hpk
    have HMAY := Lib.hid (may_yes g s a e n hs ha hn w hc hm)
    have HA : Hid (atB s a e n = a + n.toNat) := if_pos hm
    have HE : Hid (errB s a e n = e) := if_pos hm
    have hd : 0 ≤ n ∧ n ≤ (s.size : Int) - a := by
      unfold mayB at hm
      exact (of_decide_eq_true hm).2
    obtain ⟨hn0, hn1⟩ := hd
    unfold maxLen at hs
    have c1 := hc.c1
    have f1 := hc.fr 1
    obtain ⟨m, rfl⟩ := Int.eq_ofNat_of_zero_le hn0
    rw [Int.toNat_natCast] at HA
    clear hc hm hn hpk
    go_enter Tryz.func57, Tryz.ntmps57
    go_wp2_with (first | (go_at_call 79; refine (HMAY.out).mono ?_; rintro r w' ⟨rfl, d, rfl⟩) | (go_at_call 80; refine (HPK.out _).mono ?_; rintro r w' ⟨rfl, d2, rfl⟩))
    go_ret
    refine ⟨rfl, ?_, grown_then (grown_drewN w (d + d2) _) (grown_set _ g 1 _)⟩
    rw [HA.out, HE.out]
    exact (HC.out.drewN (d + d2)).setAt (a + m)
  · have hm' : mayB s a e n = false := by simpa using hm
    have HC := Lib.hid hc
    have HMAY := Lib.hid (may_no g s a e n hs ha hn w hc hm')
    have HP : Hid (piece s a e n = ⟨#[]⟩) := if_neg hm
    have HA : Hid (atB s a e n = a) := if_neg hm
    have HE : Hid (errB s a e n = 3) := if_neg hm
    have c2 := hc.c2
    have f2 := hc.fr 2
    clear hc hm hm' hn
    go_enter Tryz.func57, Tryz.ntmps57
    go_wp2_with (go_at_call 79; refine (HMAY.out).mono ?_; rintro r w' ⟨rfl, d, rfl⟩)
    go_ret
    refine ⟨by rw [HP.out]; rfl, ?_, grown_then (grown_drewN w d _) (grown_set _ g 2 _)⟩
    rw [HA.out, HE.out]
    exact (HC.out.drewN d).setErr 3

theorem piece_size (s : ByteArray) (a e : Nat) (n : Int) : (piece s a e n).size ≤ n.toNat := by
  unfold piece
  split
  · rw [ByteArray.size_extract]
    omega
  · exact Nat.zero_le _

/-- The number that the next bytes are. -/
def numB (s : ByteArray) (a e : Nat) (k : Nat) : Nat := numL (nums (piece s a e k))
theorem numB_lt (s : ByteArray) (a e k : Nat) : numB s a e k < 256 ^ k := by
  have h := numL_lt _ (nums_lt (piece s a e k))
  rw [nums_len] at h
  have h2 := piece_size s a e k
  exact Nat.lt_of_lt_of_le h (Nat.pow_le_pow_right (n := 256) (by omega) (by omega))

theorem number_of (g : Nat) (s : ByteArray) (a e k : Nat) (hs : s.size ≤ maxLen) (ha : a ≤ s.size) (hk : k ≤ 8) (w : World) (hc : Cur w g s a e) :
    Calls Tryz.prog 78 #[.pointer (some ⟨g, 0, none⟩), .int .i64 k] w fun r w' => r = .returned (.int .u64 (numB s a e k : Nat)) ∧ Cur w' g s (atB s a e k) (errB s a e k) ∧ w.grownBy w' (some g) := by
  have HT := Lib.hid (take_any g s a e k hs ha (WalkArith.wf_i64 (by omega)) w hc)
  have h8 : (piece s a e k).size ≤ 8 := by
    have := piece_size s a e k
    omega
  have HN := Lib.hid (fun w => number_any (piece s a e k) h8 w)
  clear hc h8
  go_enter Tryz.func78, Tryz.ntmps78
  go_wp2_with (first | (go_at_call 57; refine (HT.out).mono ?_; rintro r w1 ⟨rfl, hc1, hg1⟩) | (go_at_call 68; refine (HN.out _).mono ?_; rintro r w2 ⟨rfl, rfl⟩))
  go_ret
  exact ⟨rfl, hc1, hg1⟩

theorem one_any (g : Nat) (s : ByteArray) (a e : Nat) (hs : s.size ≤ maxLen) (ha : a ≤ s.size) (w : World) (hc : Cur w g s a e) :
    Calls Tryz.prog 69 #[.pointer (some ⟨g, 0, none⟩)] w fun r w' => r = .returned (.int .u8 (numB s a e 1 : Nat)) ∧ Cur w' g s (atB s a e (1 : Nat)) (errB s a e (1 : Nat)) ∧ w.grownBy w' (some g) := by
  have HT := Lib.hid (number_of g s a e 1 hs ha (by omega) w hc)
  have hl := numB_lt s a e 1
  clear hc
  go_enter Tryz.func69, Tryz.ntmps69
  go_wp2_with (go_at_call 78; refine (HT.out).mono ?_; rintro r w1 ⟨rfl, hc1, hg1⟩)
  go_ret
  exact ⟨ret_eq (by omega), hc1, hg1⟩
theorem two_of (g : Nat) (s : ByteArray) (a e : Nat) (hs : s.size ≤ maxLen) (ha : a ≤ s.size) (w : World) (hc : Cur w g s a e) :
    Calls Tryz.prog 56 #[.pointer (some ⟨g, 0, none⟩)] w fun r w' => r = .returned (.int .u16 (numB s a e 2 : Nat)) ∧ Cur w' g s (atB s a e (2 : Nat)) (errB s a e (2 : Nat)) ∧ w.grownBy w' (some g) := by
  have HT := Lib.hid (number_of g s a e 2 hs ha (by omega) w hc)
  have hl := numB_lt s a e 2
  clear hc
  go_enter Tryz.func56, Tryz.ntmps56
  go_wp2_with (go_at_call 78; refine (HT.out).mono ?_; rintro r w1 ⟨rfl, hc1, hg1⟩)
  go_ret
  exact ⟨ret_eq (by omega), hc1, hg1⟩
theorem four_of (g : Nat) (s : ByteArray) (a e : Nat) (hs : s.size ≤ maxLen) (ha : a ≤ s.size) (w : World) (hc : Cur w g s a e) :
    Calls Tryz.prog 85 #[.pointer (some ⟨g, 0, none⟩)] w fun r w' => r = .returned (.int .u32 (numB s a e 4 : Nat)) ∧ Cur w' g s (atB s a e (4 : Nat)) (errB s a e (4 : Nat)) ∧ w.grownBy w' (some g) := by
  have HT := Lib.hid (number_of g s a e 4 hs ha (by omega) w hc)
  have hl := numB_lt s a e 4
  clear hc
  go_enter Tryz.func85, Tryz.ntmps85
  go_wp2_with (go_at_call 78; refine (HT.out).mono ?_; rintro r w1 ⟨rfl, hc1, hg1⟩)
  go_ret
  exact ⟨ret_eq (by omega), hc1, hg1⟩
theorem err_any (g : Nat) (s : ByteArray) (a e : Nat) (w : World) (hc : Cur w g s a e) :
    Calls Tryz.prog 58 #[.pointer (some ⟨g, 0, none⟩)] w fun r w' => r = .returned (.int .i64 (e : Nat)) ∧ w = w' := by
  have c2 := hc.c2
  clear hc
  go_enter Tryz.func58, Tryz.ntmps58
  go_wp2
  go_ret
  exact ⟨rfl, rfl⟩
theorem left_any (g : Nat) (s : ByteArray) (a e : Nat) (hs : s.size ≤ maxLen) (ha : a ≤ s.size) (w : World) (hc : Cur w g s a e) :
    Calls Tryz.prog 55 #[.pointer (some ⟨g, 0, none⟩)] w fun r w' => r = .returned (.int .i64 ((s.size : Int) - a)) ∧ ∃ d, w' = w.drewN d := by
  unfold maxLen at hs
  have c0 := hc.c0
  have c1 := hc.c1
  clear hc
  go_enter Tryz.func55, Tryz.ntmps55
  go_wp2
  go_quiet (fail)
  go_wp2
  go_ret
  exact ⟨rfl, _, rfl⟩

end Go.Proofs.YtijfcmlgohbndaaGreatDoor

namespace Go.Proofs.YtijfcmlgohbndaaGreatDoor
set_option maxRecDepth 100000
open Go.RowKit Go.Joins

theorem may_nil (n : Int) (w : World) : Calls Tryz.prog 79 #[.pointer none, .int .i64 n] w fun r w' => r = .returned (.bool false) ∧ ∃ d, w' = w.drewN d := by
  go_enter Tryz.func79, Tryz.ntmps79
  go_wp2
  go_quiet (fail)
  go_wp2
  go_ret
  exact ⟨rfl, _, rfl⟩
theorem peek_nil (n : Int) (w : World) : Calls Tryz.prog 80 #[.pointer none, .int .i64 n] w fun r w' => r = .returned (.string ⟨#[]⟩) ∧ ∃ d, w' = w.drewN d := by
  go_enter Tryz.func80, Tryz.ntmps80
  go_wp2_with (go_at_call 79; refine (may_nil _ _).mono ?_; rintro r w' ⟨rfl, d, rfl⟩)
  go_ret
  exact ⟨rfl, _, rfl⟩
theorem take_nil (n : Int) (w : World) : Calls Tryz.prog 57 #[.pointer none, .int .i64 n] w fun r w' => r = .returned (.string ⟨#[]⟩) ∧ w = w' := by
  go_enter Tryz.func57, Tryz.ntmps57
  go_wp2
  go_ret
  exact ⟨rfl, rfl⟩
theorem number_none (w : World) : Calls Tryz.prog 68 #[.string ⟨#[]⟩] w fun e w' => e = .returned (.tuple #[.int .u64 0, .int .i64 0]) ∧ w = w' :=
  number_any ⟨#[]⟩ (by decide) w
theorem number_nil (n : Int) (w : World) : Calls Tryz.prog 78 #[.pointer none, .int .i64 n] w fun r w' => r = .returned (.int .u64 0) ∧ w = w' := by
  go_enter Tryz.func78, Tryz.ntmps78
  go_wp2_with (first | (go_at_call 57; refine (take_nil _ _).mono ?_; rintro r w1 ⟨rfl, rfl⟩) | (go_at_call 68; refine (number_none _).mono ?_; rintro r w2 ⟨rfl, rfl⟩))
  go_ret
  exact ⟨rfl, rfl⟩
theorem one_nil (w : World) : Calls Tryz.prog 69 #[.pointer none] w fun r w' => r = .returned (.int .u8 0) ∧ w = w' := by
  go_enter Tryz.func69, Tryz.ntmps69
  go_wp2_with (go_at_call 78; refine (number_nil _ _).mono ?_; rintro r w1 ⟨rfl, rfl⟩)
  go_ret
  exact ⟨rfl, rfl⟩
theorem two_nil (w : World) : Calls Tryz.prog 56 #[.pointer none] w fun r w' => r = .returned (.int .u16 0) ∧ w = w' := by
  go_enter Tryz.func56, Tryz.ntmps56
  go_wp2_with (go_at_call 78; refine (number_nil _ _).mono ?_; rintro r w1 ⟨rfl, rfl⟩)
  go_ret
  exact ⟨rfl, rfl⟩
theorem four_nil (w : World) : Calls Tryz.prog 85 #[.pointer none] w fun r w' => r = .returned (.int .u32 0) ∧ w = w' := by
  go_enter Tryz.func85, Tryz.ntmps85
  go_wp2_with (go_at_call 78; refine (number_nil _ _).mono ?_; rintro r w1 ⟨rfl, rfl⟩)
  go_ret
  exact ⟨rfl, rfl⟩
theorem left_nil (w : World) : Calls Tryz.prog 55 #[.pointer none] w fun r w' => r = .returned (.int .i64 0) ∧ w = w' := by
  go_enter Tryz.func55, Tryz.ntmps55
  go_wp2
  go_ret
  exact ⟨rfl, rfl⟩
theorem err_nil (w : World) : Calls Tryz.prog 58 #[.pointer none] w fun r w' => r = .returned (.int .i64 1) ∧ w = w' := by
  go_enter Tryz.func58, Tryz.ntmps58
  go_wp2
  go_ret
  exact ⟨rfl, rfl⟩

theorem number_ex (w : World) : Calls Tryz.prog 68 #[.string ⟨#[1, 0, 2]⟩] w fun e w' => e = .returned (.tuple #[.int .u64 131073, .int .i64 0]) ∧ w = w' :=
  number_any ⟨#[1, 0, 2]⟩ (by decide) w
theorem left_ex (g : Nat) (w : World) (hc : Cur w g ⟨#[97, 98]⟩ 0 0) : Calls Tryz.prog 55 #[.pointer (some ⟨g, 0, none⟩)] w fun r w' => r = .returned (.int .i64 2) ∧ ∃ d, w' = w.drewN d := left_any g ⟨#[97, 98]⟩ 0 0 (by decide) (by decide) w hc

end Go.Proofs.YtijfcmlgohbndaaGreatDoor

namespace Go.Proofs.YtijfcmlgohbndaaGreatDoor
set_option maxRecDepth 100000
open Go.RowKit Go.Joins

theorem Cur.alloc {w : World} {g : Nat} {s : ByteArray} {a e : Nat} (h : Cur w g s a e) (o : Obj) : Cur (w.alloc o) g s a e := (Below.heap_alloc w o g h.lt).trans h

end Go.Proofs.YtijfcmlgohbndaaGreatDoor

namespace Go.Proofs.YtijfcmlgohbndaaGreatDoor
set_option maxRecDepth 100000
open Go.RowKit Go.Joins

theorem nums_append (a b : ByteArray) : nums (a ++ b) = nums a ++ nums b := by
  unfold nums
  rw [ByteArray.data_append]
  simp
theorem map_inj : ∀ (l m : List UInt8), l.map UInt8.toNat = m.map UInt8.toNat → l = m
  | [], [], _ => rfl
  | [], _ :: _, h => by simp at h
  | _ :: _, [], h => by simp at h
  | x :: l, y :: m, h => by
    simp only [List.map_cons, List.cons.injEq] at h
    rw [UInt8.toNat_inj.1 h.1, map_inj l m h.2]
theorem nums_inj (a b : ByteArray) (h : nums a = nums b) : a = b := by
  have h2 : a.data.toList = b.data.toList := map_inj _ _ h
  cases a with
  | mk x => cases b with
    | mk y => exact congrArg ByteArray.mk (Array.toList_inj.1 h2)
theorem mayB_yes (s : ByteArray) (a k : Nat) (h : a + k ≤ s.size) : mayB s a 0 (k : Nat) = true := by
  unfold mayB
  exact decide_eq_true ⟨rfl, by omega, by omega⟩
theorem atB_yes (s : ByteArray) (a k : Nat) (h : a + k ≤ s.size) : atB s a 0 (k : Nat) = a + k := if_pos (mayB_yes s a k h)
theorem errB_yes (s : ByteArray) (a k : Nat) (h : a + k ≤ s.size) : errB s a 0 (k : Nat) = 0 := if_pos (mayB_yes s a k h)
theorem nums_piece (s : ByteArray) (a k : Nat) (h : a + k ≤ s.size) : nums (piece s a 0 (k : Nat)) = ((nums s).drop a).take k := by
  unfold piece
  rw [if_pos (mayB_yes s a k h), Int.toNat_natCast]
  unfold nums
  rw [ByteArray.data_extract]
  simp
end Go.Proofs.YtijfcmlgohbndaaGreatDoor

namespace Go.Proofs.YtijfcmlgohbndaaGreatDoor
set_option maxRecDepth 100000
open Go.RowKit Go.Joins Go.Deep

/-- A field. -/
structure Fd where
  id : Nat
  d : ByteArray
instance : Inhabited Fd := ⟨⟨0, ⟨#[]⟩⟩⟩
def cellF (f : Fd) : List Value := [.int .u16 (f.id : Nat), .string f.d]
def valF (f : Fd) : Value := .agg #[.int .u16 (f.id : Nat), .string f.d]
def FdOk (f : Fd) : Prop := f.id < 65536 ∧ f.d.size ≤ maxLen
/-- The cells of a row of fields. -/
def cellsF : List Fd → List Value
  | [] => []
  | f :: l => .int .u16 (f.id : Nat) :: .string f.d :: cellsF l
theorem cellsF_app (l m : List Fd) : cellsF (l ++ m) = cellsF l ++ cellsF m := by
  induction l with
  | nil => rfl
  | cons x l ih => simp only [List.cons_append, cellsF, ih]
theorem cellsF_len (l : List Fd) : (cellsF l).length = l.length * 2 := by
  induction l with
  | nil => rfl
  | cons x l ih => simp only [cellsF, List.length_cons, ih]; omega
theorem cellsF_get : ∀ (l : List Fd) (i : Nat) (h : i < l.length), (cellsF l)[i * 2]? = some (.int .u16 (l[i].id : Nat)) ∧ (cellsF l)[i * 2 + 1]? = some (.string l[i].d)
  | x :: l, 0, _ => ⟨rfl, rfl⟩
  | x :: l, i + 1, h => by
    have := cellsF_get l i (by simpa using h)
    rw [show (i + 1) * 2 = i * 2 + 2 by omega, show i * 2 + 2 + 1 = i * 2 + 1 + 2 by omega]
    simpa [cellsF] using this
theorem cellsF_one (f : Fd) : cellsF [f] = [.int .u16 (f.id : Nat), .string f.d] := rfl
/-- A slice of fields. -/
def Fds (w : World) (A : Option Addr) (l : List Fd) : Prop := 0 < l.length → ∃ b off, A = some ⟨b, off, none⟩ ∧ b < w.heap.size ∧ ∀ i (h : i < l.length), w.cell? ⟨b, off + i * 2, none⟩ = some (.int .u16 (l[i].id : Nat)) ∧ w.cell? ⟨b, off + i * 2 + 1, none⟩ = some (.string l[i].d)
theorem Fds.below {w w' : World} {B : Nat} {A : Option Addr} {l : List Fd} (h : Fds w A l) (hB : w.heap.size ≤ B) (hb : Below B w w') : Fds w' A l := fun hn => by
  obtain ⟨b, off, e, hlt, hc⟩ := h hn
  have hl := Nat.lt_of_lt_of_le hlt hB
  exact ⟨b, off, e, Nat.lt_of_lt_of_le hlt hb.size, fun i hi => ⟨(hb.cell (p := ⟨b, off + i * 2, none⟩) hl).trans (hc i hi).1, (hb.cell (p := ⟨b, off + i * 2 + 1, none⟩) hl).trans (hc i hi).2⟩⟩
theorem Fds.nil (w : World) (A : Option Addr) : Fds w A [] := fun h => absurd h (by decide)
theorem fds_of_own {w : World} {B : Nat} {A : Option Addr} {cap : Nat} {T : TypeId} {l : List Fd} (h : w.ownsRow B T 2 (.slice A l.length cap) l.length (cellsF l)) : Fds w A l := by
  intro hn
  rcases ownsRow_forms h with ⟨he, h0⟩ | ⟨g2, cap2, he⟩
  · omega
  · injection he with he _ _
    subst he
    have hlt := (h.lt g2 rfl).2
    refine ⟨g2, 0, rfl, hlt, fun i hi => ?_⟩
    have hg := cellsF_get l i hi
    have c0 := h.cellAt (i * 2) (by omega)
    have c1 := h.cellAt (i * 2 + 1) (by omega)
    rw [hg.1] at c0
    rw [hg.2] at c1
    rw [Nat.zero_add]
    exact ⟨c0, c1⟩
theorem slice_of_own {w : World} {B : Nat} {T : TypeId} {v : Value} {l : List Fd} (h : w.ownsRow B T 2 v l.length (cellsF l)) : ∃ A cap, v = .slice A l.length cap := by
  rcases ownsRow_forms h with ⟨he, h0⟩ | ⟨g2, cap2, he⟩
  · exact ⟨none, 0, by rw [he, h0]⟩
  · exact ⟨some ⟨g2, 0, none⟩, cap2, he⟩
theorem Fds.drop {w : World} {b off : Nat} {l : List Fd} (h : Fds w (some ⟨b, off, none⟩) l) (k : Nat) : Fds w (some ⟨b, off + k * 2, none⟩) (l.drop k) := fun hn => by
  rw [List.length_drop] at hn
  obtain ⟨b', off', e, hlt, hc⟩ := h (by omega)
  injection e with e
  injection e with e1 e2 _
  subst e1 e2
  refine ⟨b, off + k * 2, rfl, hlt, fun i hi => ?_⟩
  rw [List.length_drop] at hi
  have := hc (k + i) (by omega)
  rw [List.getElem_drop]
  rw [show off + k * 2 + i * 2 = off + (k + i) * 2 by omega]
  exact this
theorem Fds.take {w : World} {A : Option Addr} {l : List Fd} (h : Fds w A l) (k : Nat) : Fds w A (l.take k) := fun hn => by
  rw [List.length_take] at hn
  obtain ⟨b, off, e, hlt, hc⟩ := h (by omega)
  refine ⟨b, off, e, hlt, fun i hi => ?_⟩
  rw [List.length_take] at hi
  rw [List.getElem_take]
  exact hc i (by omega)

/-! ### What bytes are -/
theorem numL_take2 (l : List Nat) (hl : ∀ x ∈ l, x < 256) : numL (l.take 2) < 65536 := by
  have h := numL_lt (l.take 2) fun x hx => hl x (List.mem_of_mem_take hx)
  rw [List.length_take] at h
  exact Nat.lt_of_lt_of_le h (Nat.pow_le_pow_right (n := 256) (by omega) (show min 2 l.length ≤ 2 by omega))
def idA (s : ByteArray) (a : Nat) : Nat := numL (((nums s).drop a).take 2)
theorem idA_lt (s : ByteArray) (a : Nat) : idA s a < 65536 := numL_take2 _ fun x hx => nums_lt s x (List.mem_of_mem_drop hx)
def fdA (s : ByteArray) (a : Nat) : Fd := ⟨idA s a, s.extract (a + 4) (a + 4 + idA s (a + 2))⟩
/-- The fields that bytes are, from a place on. -/
def prs (s : ByteArray) (a : Nat) (acc : List Fd) : Option (List Fd) :=
  if s.size ≤ a then some acc else if a + 4 + idA s (a + 2) ≤ s.size then prs s (a + 4 + idA s (a + 2)) (acc ++ [fdA s a]) else none
termination_by s.size - a
theorem prs_end {s : ByteArray} {a : Nat} {acc : List Fd} (h : s.size ≤ a) : prs s a acc = some acc := by rw [prs, if_pos h]
theorem prs_step {s : ByteArray} {a : Nat} {acc : List Fd} (h : a + 4 + idA s (a + 2) ≤ s.size) : prs s a acc = prs s (a + 4 + idA s (a + 2)) (acc ++ [fdA s a]) := by
  rw [prs, if_neg (by omega), if_pos h]
theorem prs_no {s : ByteArray} {a : Nat} {acc : List Fd} (h0 : a < s.size) (h : ¬ a + 4 + idA s (a + 2) ≤ s.size) : prs s a acc = none := by
  rw [prs, if_neg (by omega), if_neg h]
def parL (s : ByteArray) : List Fd := if 65535 < s.size then [] else (prs s 0 []).getD []
def parE (s : ByteArray) : Nat := if 65535 < s.size then 5 else if (prs s 0 []).isSome then 0 else 24

/-! ### The bytes of fields -/
def bytesF (f : Fd) : List Nat := le f.id 2 ++ le f.d.size 2 ++ nums f.d
theorem bytesF_len (f : Fd) : (bytesF f).length = 4 + f.d.size := by simp [bytesF, le_len, nums_len]; omega
theorem bytesF_lt (f : Fd) : ∀ x ∈ bytesF f, x < 256 := by
  intro x hx
  simp only [bytesF, List.mem_append] at hx
  rcases hx with (hx | hx) | hx
  · exact le_lt _ _ x hx
  · exact le_lt _ _ x hx
  · exact nums_lt _ x hx
/-- The bytes of fields behind others; none where they are too many. -/
def prt : List Fd → List Nat → Option (List Nat)
  | [], acc => some acc
  | f :: l, acc => if acc.length + 4 + f.d.size ≤ 65535 then prt l (acc ++ bytesF f) else none
def prtT (l : List Fd) : List Nat := (prt l []).getD []
def prtE (l : List Fd) : Nat := if (prt l []).isSome then 0 else 5
end Go.Proofs.YtijfcmlgohbndaaGreatDoor
