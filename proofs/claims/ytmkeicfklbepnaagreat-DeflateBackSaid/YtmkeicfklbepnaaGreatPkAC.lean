/-
 Bytes as one number: its bits, its bytes, pieces of it.
 Contracts: the reader's small calls: well, left, lowest, window, Peek.
 Contracts: the reader's calls: Peek, Skip, Read, Align, Bytes, At, Err.
-/
import Derived.Test.YtmkeicfklbepnaaGreatPkAA
import Derived.Laws.IdiomStrings
import Derived.Laws.BytesArg
import Derived.Lib.SmallJoins
import Derived.Deep.AppendLies
import Derived.Deep.QuietTactic
import Derived.BigQuiet

namespace Go.Proofs.YtmkeicfklbepnaaGreat
open Go.RowKit Go.Joins

/-- Numbers as a text's bytes. -/
def text (l : List Nat) : ByteArray := ⟨(l.map UInt8.ofNat).toArray⟩
/-- The lowest k bytes of a number, the lowest first. -/
def le (n : Nat) : Nat → List Nat
 | 0 => []
 | k + 1 => le n k ++ [n / 256 ^ k % 256]
theorem le_len (n k : Nat) : (le n k).length = k := by
 induction k with
 | zero => rfl
 | succ k ih => simp [le, ih]
theorem le_lt (n k : Nat) : ∀ x ∈ le n k, x < 256 := by
 induction k with
 | zero => intro x hx; cases hx
 | succ k ih =>
  intro x hx
  rw [le, List.mem_append] at hx
  rcases hx with hx | hx
  ·exact ih x hx
  ·simp at hx; omega
def cells8 (l : List Nat) : List Value := l.map fun x => Value.int .u8 (x : Nat)
theorem cells8_app (l m : List Nat) : cells8 (l ++ m) = cells8 l ++ cells8 m := by simp [cells8]

theorem string_of_own {W : World} {base n : Nat} {v : Value} {l : List Nat} (h : W.ownsRow base 5 1 v n (cells8 l)) (hl : ∀ x ∈ l, x < 256) :
  (convert 37 9 v).run Tryz.prog W = .ok (.string (text l)) W := by
 have hn : l.length = n := by have := h.1; simpa [cells8] using this
 rcases ownsRow_forms h with ⟨rfl, h0⟩ | ⟨g, cap, rfl⟩
 ·have : l = [] := List.eq_nil_of_length_eq_zero (by omega)
  subst this
  exact run_convert_bytes_nil W 37 5 Tryz.underlying37 Tryz.underlying5 0 0 9 Tryz.underlying9
 ·have hb := run_convert_bytes_back (P := Tryz.prog) W 37 9 5 ⟨g, 0, none⟩ cap (l.map UInt8.ofNat) Tryz.underlying37 Tryz.underlying5 Tryz.underlying9 (fun j hj => by
   have hj' : j < l.length := by simpa using hj
   rw [Addr.add_lit, Nat.zero_add, h.cellAt j (by omega)]
   have hx : l[j] < 256 := hl _ (List.getElem_mem hj')
   simp only [cells8, List.getElem?_map, List.getElem?_eq_getElem hj', Option.map_some, List.getElem_map]
   rw [show (UInt8.ofNat l[j]).toNat = l[j] from Nat.mod_eq_of_lt hx])
  rw [List.length_map, hn] at hb
  exact hb

theorem info8 : (Tryz.prog.info? 5).map (fun i => (i.zero, i.size, i.bytes)) = some (some (.int .u8 0), 1, 1) := by kernel_rfl

/-- What bytes are, the lowest first. -/
def numL : List Nat → Nat
 | [] => 0
 | x :: l => x + 256 * numL l
theorem numL_lt (l : List Nat) (hl : ∀ x ∈ l, x < 256) : numL l < 256 ^ l.length := by
 induction l with
 | nil => decide
 | cons x l ih =>
  have h1 := ih fun y hy => hl y (by simp [hy])
  have h2 := hl x (by simp)
  show x + 256 * numL l < 256 ^ (l.length + 1)
  rw [Nat.pow_succ]
  omega
theorem numL_snoc (l : List Nat) (x : Nat) : numL (l ++ [x]) = numL l + x * 256 ^ l.length := by
 induction l with
 | nil => simp [numL]
 | cons y l ih =>
  show y + 256 * numL (l ++ [x]) = y + 256 * numL l + x * 256 ^ (l.length + 1)
  rw [ih, Nat.mul_add, Nat.pow_succ, Nat.add_assoc, Nat.mul_left_comm, Nat.mul_comm 256 (256 ^ l.length)]

/-- A text's bytes as numbers. -/
def nums (s : ByteArray) : List Nat := s.data.toList.map UInt8.toNat
theorem nums_lt (s : ByteArray) : ∀ x ∈ nums s, x < 256 := by
 intro x hx
 unfold nums at hx
 simp at hx
 obtain ⟨y, _, rfl⟩ := hx
 exact y.toNat_lt
theorem nums_len (s : ByteArray) : (nums s).length = s.size := by simp [nums]
theorem nums_get (s : ByteArray) (k : Nat) (h : k < s.size) : (nums s)[k]? = some s[k].toNat := by
 rw [List.getElem?_eq_getElem (by rw [nums_len]; exact h)]
 congr 1
 unfold nums
 simp
 rfl
theorem text_nums (s : ByteArray) : text (nums s) = s := by
 unfold text nums
 rw [List.map_map, show (UInt8.ofNat ∘ UInt8.toNat) = id from by funext x; simp, List.map_id, Array.toArray_toList]
theorem text_size (l : List Nat) : (text l).size = l.length := by simp [text, ByteArray.size]
theorem nums_text (l : List Nat) (h : ∀ x ∈ l, x < 256) : nums (text l) = l := by
 unfold text nums
 simp only [List.map_map]
 calc l.map (UInt8.toNat ∘ UInt8.ofNat) = l.map id := List.map_congr_left fun x hx => by simpa using h x hx
  _ = l := List.map_id l

/-- A byte of the number. -/
theorem numL_get : ∀ (l : List Nat) (_ : ∀ x ∈ l, x < 256) (k x : Nat), l[k]? = some x → numL l / 256 ^ k % 256 = x
 | [], _, k, x, h => by simp at h
 | y :: l, hl, 0, x, h => by
  have := hl y (by simp)
  simp at h
  simp [numL]
  omega
 | y :: l, hl, k + 1, x, h => by
  have hy := hl y (by simp)
  have ih := numL_get l (fun z hz => hl z (by simp [hz])) k x (by simpa using h)
  rw [numL, Nat.pow_succ, Nat.mul_comm (256 ^ k), ← Nat.div_div_eq_div_mul, show (y + 256 * numL l) / 256 = numL l by omega]
  exact ih
theorem numL_le (n k : Nat) : numL (le n k) = n % 256 ^ k := by
 induction k with
 | zero => simp [le, numL, Nat.mod_one]
 | succ k ih => rw [le, numL_snoc, ih, le_len, Nat.mod_pow_succ, Nat.mul_comm]
/-- Bytes below 256 are their number's. -/
theorem le_of_numL : ∀ (l : List Nat) (_ : ∀ x ∈ l, x < 256) (k : Nat), k ≤ l.length → le (numL l) k = l.take k
 | l, hl, 0, _ => by simp [le]
 | l, hl, k + 1, hk => by
  rw [le, le_of_numL l hl k (by omega), List.take_add_one, List.getElem?_eq_getElem (by omega : k < l.length)]
  rw [numL_get l hl k l[k] (List.getElem?_eq_getElem (by omega))]
  rfl
theorem le_nums (s : ByteArray) : le (numL (nums s)) s.size = nums s := by
 rw [le_of_numL _ (nums_lt s) _ (by rw [nums_len]; exact Nat.le_refl _), ← nums_len, List.take_length]

/-- The number that a text is. -/
def num (s : ByteArray) : Nat := numL (nums s)
theorem p256 (k : Nat) : (256 : Nat) ^ k = 2 ^ (8 * k) := by rw [Nat.pow_mul]
theorem num_lt (s : ByteArray) : num s < 2 ^ (8 * s.size) := by
 have h := numL_lt _ (nums_lt s)
 rw [nums_len, p256] at h
 exact h
theorem num_text (M k : Nat) : num (text (le M k)) = M % 2 ^ (8 * k) := by
 unfold num
 rw [nums_text _ (le_lt M k), numL_le, p256]

/-- m bits from a place on. -/
def bitsAt (N a m : Nat) : Nat := N / 2 ^ a % 2 ^ m
theorem bitsAt_lt (N a m : Nat) : bitsAt N a m < 2 ^ m := Nat.mod_lt _ (Nat.two_pow_pos _)
theorem bitsAt_zero (N a : Nat) : bitsAt N a 0 = 0 := by unfold bitsAt; rw [Nat.pow_zero, Nat.mod_one]
theorem bitsAt_lt32 (N a m : Nat) (h : m ≤ 32) : bitsAt N a m < 4294967296 :=
 Nat.lt_of_lt_of_le (bitsAt_lt N a m) (Nat.pow_le_pow_right (n := 2) (by omega) h)
theorem bitsAt_succ (N a m : Nat) : bitsAt N a (m + 1) = bitsAt N a m + 2 ^ m * bitsAt N (a + m) 1 := by
 unfold bitsAt
 rw [Nat.mod_pow_succ, Nat.div_div_eq_div_mul, ← Nat.pow_add, Nat.pow_one]
/-- One byte's bit is the whole's. -/
theorem bit_of_byte (s : ByteArray) (a : Nat) (h : a / 8 < s.size) : s[a / 8].toNat / 2 ^ (a % 8) % 2 = bitsAt (num s) a 1 := by
 have hg := numL_get _ (nums_lt s) (a / 8) _ (nums_get s (a / 8) h)
 rw [← hg]
 unfold bitsAt num
 generalize numL (nums s) = N
 have e : a = 8 * (a / 8) + a % 8 := by omega
 conv => rhs; rw [e]
 rw [Nat.pow_add, ← Nat.div_div_eq_div_mul, ← p256]
 generalize N / 256 ^ (a / 8) = X
 have hr : a % 8 < 8 := Nat.mod_lt _ (by omega)
 generalize a % 8 = r at hr
 rw [show (256 : Nat) = 2 ^ r * 2 ^ (8 - r) from by rw [← Nat.pow_add, show r + (8 - r) = 8 by omega], Nat.mod_mul_right_div_self, Nat.mod_mod_of_dvd _ (by exact ⟨2 ^ (7 - r), by rw [← Nat.pow_succ', show (7 - r).succ = 8 - r by omega]⟩), Nat.pow_one]
/-- A window of 40 bits is enough for any 32. -/
theorem window_bits (N a m : Nat) (h : a % 8 + m ≤ 40) : N / 256 ^ (a / 8) % 256 ^ 5 / 2 ^ (a % 8) % 2 ^ m = bitsAt N a m := by
 unfold bitsAt
 have e : a = 8 * (a / 8) + a % 8 := by omega
 conv => rhs; rw [e]
 rw [Nat.pow_add, ← Nat.div_div_eq_div_mul, ← p256]
 generalize N / 256 ^ (a / 8) = X
 generalize a % 8 = r at h
 rw [show (256 : Nat) ^ 5 = 2 ^ r * 2 ^ (40 - r) from by rw [← Nat.pow_add, show r + (40 - r) = 40 by omega], Nat.mod_mul_right_div_self, Nat.mod_mod_of_dvd _ (by exact ⟨2 ^ (40 - r - m), by rw [← Nat.pow_add, show m + (40 - r - m) = 40 - r by omega]⟩)]
/-- The lowest m bits by the mask. -/
theorem and_low (v m : Nat) : v &&& (2 ^ m - 1) = v % 2 ^ m := Nat.and_two_pow_sub_one_eq_mod v m

theorem or_step (N x k : Nat) (hN : N < 2 ^ k) : N ||| x * 2 ^ k = N + x * 2 ^ k := by
 have h := Nat.shiftLeft_add_eq_or_of_lt hN x
 rw [Nat.shiftLeft_eq] at h
 rw [Nat.or_comm, ← h, Nat.add_comm]
end Go.Proofs.YtmkeicfklbepnaaGreat

namespace Go.Proofs.YtmkeicfklbepnaaGreat
open Go.RowKit Go.Joins

/-- A block that is a reader, the program's or the document's: its text, its place, its error. -/
def Rd (T : TypeId) (w : World) (g : Nat) (s : ByteArray) (a e : Nat) : Prop := w.heap[g]? = some (.cells #[.string s, .int .i64 (a : Nat), .int .i64 (e : Nat)] T (0, 0))
section
variable {T : TypeId} {w w' : World} {g : Nat} {s : ByteArray} {a e : Nat}
theorem Rd.c0 (h : Rd T w g s a e) : w.cell? ⟨g, 0, none⟩ = some (.string s) := by rw [cell_of_row w g 0 _ _ _ h]; rfl
theorem Rd.c1 (h : Rd T w g s a e) : w.cell? ⟨g, 1, none⟩ = some (.int .i64 (a : Nat)) := by rw [cell_of_row w g 1 _ _ _ h]; rfl
theorem Rd.c2 (h : Rd T w g s a e) : w.cell? ⟨g, 2, none⟩ = some (.int .i64 (e : Nat)) := by rw [cell_of_row w g 2 _ _ _ h]; rfl
theorem Rd.fr (h : Rd T w g s a e) (i : Nat) : w.frozen? ⟨g, i, none⟩ = false := frozen_of_row w g i _ _ h
theorem Rd.lt (h : Rd T w g s a e) : g < w.heap.size := by
 rcases Nat.lt_or_ge g w.heap.size with hlt | hge
 ·exact hlt
 ·unfold Rd at h; rw [Array.getElem?_eq_none hge] at h; cases h
theorem Rd.drewN (h : Rd T w g s a e) (n : Nat) : Rd T (w.drewN n) g s a e := h
theorem Rd.setAt (h : Rd T w g s a e) (a' : Nat) : Rd T (w.setCell ⟨g, 1, none⟩ (.int .i64 (a' : Nat))) g s a' e := heap_setCell_same w g 1 _ _ _ h
theorem Rd.setErr (h : Rd T w g s a e) (e' : Nat) : Rd T (w.setCell ⟨g, 2, none⟩ (.int .i64 (e' : Nat))) g s a e' := heap_setCell_same w g 2 _ _ _ h
theorem Rd.grown {row : Option Nat} (h : Rd T w g s a e) (hg : w.grownBy w' row) (hne : some g ≠ row) : Rd T w' g s a e := (hg.block g h.lt hne).trans h
theorem Rd.below {B : Nat} (h : Rd T w g s a e) (hb : Below B w w') (hg : g < B) : Rd T w' g s a e := (hb.block g hg).trans h
theorem Rd.alloc (h : Rd T w g s a e) (o : Obj) : Rd T (w.alloc o) g s a e := (Below.heap_alloc w o g h.lt).trans h
end
theorem grown_drewN (w : World) (n : Nat) (row : Option Nat) : w.grownBy (w.drewN n) row := ⟨rfl, rfl, rfl, Nat.le_refl _, fun _ _ _ => rfl⟩
theorem grown_set (w : World) (g i : Nat) (v : Value) : w.grownBy (w.setCell ⟨g, i, none⟩ v) (some g) :=
 ⟨rfl, rfl, rfl, by simp [World.setCell], fun k _ hne => Below.heap_setCell _ _ _ _ (fun e => hne (by rw [e]))⟩
theorem grown_then {w w1 w2 : World} {row : Option Nat} (h : w.grownBy w1 row) (k : w1.grownBy w2 row) : w.grownBy w2 row :=
 ⟨k.os.trans h.os, k.tape.trans h.tape, k.output.trans h.output, Nat.le_trans h.size k.size, fun i hi hne => (k.block i (Nat.lt_of_lt_of_le hi h.size) hne).trans (h.block i hi hne)⟩

theorem over_any (s : ByteArray) (w : World) :
  Calls Tryz.prog 14 #[.string s] w fun e w' => e = .returned (.pointer (some ⟨w.heap.size, 0, none⟩)) ∧ w.alloc (.cells #[.string s, .int .i64 0, .int .i64 0] 83) = w' := by
 go_enter Tryz.func14, Tryz.ntmps14
 go_wp2
 go_ret
 exact ⟨rfl, rfl⟩
theorem well_yes (g : Nat) (s : ByteArray) (a : Nat) (w : World) (hc : Rd 83 w g s a 0) :
  Calls Tryz.prog 57 #[.pointer (some ⟨g, 0, none⟩)] w fun r w' => r = .returned (.bool true) ∧ w = w' := by
 have c2 := hc.c2
 clear hc
 go_enter Tryz.func57, Tryz.ntmps57
 go_wp2
 go_ret
 exact ⟨rfl, rfl⟩
theorem well_no (g : Nat) (s : ByteArray) (a e : Nat) (he : e ≠ 0) (w : World) (hc : Rd 83 w g s a e) :
  Calls Tryz.prog 57 #[.pointer (some ⟨g, 0, none⟩)] w fun r w' => r = .returned (.bool false) ∧ w = w' := by
 have c2 := hc.c2
 have he' : ((e : Int) == 0) = false := by rw [beq_eq_false_iff_ne]; omega
 clear hc he
 go_enter Tryz.func57, Tryz.ntmps57
 go_wp2
 go_ret
 exact ⟨rfl, rfl⟩
theorem left_any (g : Nat) (s : ByteArray) (a e : Nat) (hs : s.size ≤ 1000000) (ha : a ≤ 8 * s.size) (w : World) (hc : Rd 83 w g s a e) :
  Calls Tryz.prog 91 #[.pointer (some ⟨g, 0, none⟩)] w fun r w' => r = .returned (.int .i64 ((8 * s.size - a : Nat) : Int)) ∧ ∃ d, w' = w.drewN d := by
 have c0 := hc.c0
 have c1 := hc.c1
 clear hc
 go_enter Tryz.func91, Tryz.ntmps91
 go_wp2
 go_quiet (fail)
 go_wp2
 go_ret
 exact ⟨ret_eq (by omega), _, rfl⟩
theorem mask_walk (v m : Nat) (hv : v < 18446744073709551616) (hm : m ≤ 32) : bits .and .u64 (v : Int) (IntKind.u64.wrap (IntKind.u64.wrap (2 ^ m) - 1)) = ((v % 2 ^ m : Nat) : Int) := by
 have h1 : 0 < 2 ^ m := Nat.two_pow_pos m
 have h2 : 2 ^ m ≤ 2 ^ 32 := Nat.pow_le_pow_right (by omega) hm
 have e : ((2 : Int) ^ m) = ((2 ^ m : Nat) : Int) := by simp
 rw [e, IntKind.wrap_u64, IntKind.wrap_u64, show (((2 ^ m : Nat) : Int) % 18446744073709551616 - 1) % 18446744073709551616 = ((2 ^ m - 1 : Nat) : Int) by omega, u64_and_nat v _ hv (by omega), and_low]
theorem lowest_any (v n : Nat) (hv : v < 18446744073709551616) (hn : n ≤ 32) (w : World) :
  Calls Tryz.prog 77 #[.int .u64 v, .int .i64 n] w fun r w' => r = .returned (.int .u32 (v % 2 ^ n : Nat)) ∧ w = w' := by
 have h2 : 2 ^ n ≤ 2 ^ 32 := Nat.pow_le_pow_right (by omega) hn
 have h3 : v % 2 ^ n < 2 ^ n := Nat.mod_lt _ (Nat.two_pow_pos n)
 have H2 := Lib.hid h2
 have H3 := Lib.hid h3
 clear h2 h3
 go_enter Tryz.func77, Tryz.ntmps77
 go_wp2
 go_ret
 refine ⟨ret_eq ?_, rfl⟩
 rw [mask_walk v n hv hn]
 have h2 := H2.out
 have h3 := H3.out
 omega

theorem or_walk (X x k : Nat) (hX : X < 256 ^ k) (hx : x < 256) (hk : k < 8) : bits .or .u64 (X : Int) (IntKind.u64.wrap ((x : Int) * 2 ^ (k * 8))) = ((X + x * 256 ^ k : Nat) : Int) := by
 have hp : (256 : Nat) ^ (k + 1) ≤ 18446744073709551616 := Nat.pow_le_pow_right (n := 256) (by omega) (show k + 1 ≤ 8 by omega)
 rw [Nat.pow_succ] at hp
 have e : (2 : Nat) ^ (k * 8) = 256 ^ k := by rw [Nat.mul_comm, Nat.pow_mul]
 have hpos : 0 < (256 : Nat) ^ k := Nat.pow_pos (by omega)
 have h1 : x * 256 ^ k < 18446744073709551616 := by
  have : x * 256 ^ k < 256 ^ k * 256 := by rw [Nat.mul_comm]; exact Nat.mul_lt_mul_of_pos_left hx hpos
  omega
 have e2 : ((x : Int) * 2 ^ (k * 8)) = ((x * 2 ^ (k * 8) : Nat) : Int) := by simp
 have h2 : IntKind.u64.wrap ((x : Int) * 2 ^ (k * 8)) = ((x * 2 ^ (k * 8) : Nat) : Int) := by
  rw [e2, IntKind.wrap_u64, e]
  omega
 rw [h2, u64_or_nat X _ (by omega) (by rw [e]; exact h1), or_step X x (k * 8) (by rw [e]; exact hX), e]

/-- The first k bytes from f on, as a number. -/
def win (s : ByteArray) (f k : Nat) : Nat := num s / 256 ^ f % 256 ^ k
theorem win_zero (s : ByteArray) (f : Nat) : win s f 0 = 0 := by unfold win; rw [Nat.pow_zero, Nat.mod_one]
theorem win_lt (s : ByteArray) (f k : Nat) : win s f k < 256 ^ k := Nat.mod_lt _ (Nat.pow_pos (by omega))
theorem win_succ (s : ByteArray) (f k : Nat) (h : f + k < s.size) : win s f (k + 1) = win s f k + s[f + k].toNat * 256 ^ k := by
 have hg := numL_get _ (nums_lt s) (f + k) _ (nums_get s (f + k) h)
 unfold win num
 rw [Nat.mod_pow_succ, Nat.div_div_eq_div_mul, ← Nat.pow_add, hg, Nat.mul_comm]
theorem win_end (s : ByteArray) (f k : Nat) (h : s.size ≤ f + k) (hk : k ≤ 5) : win s f k = win s f 5 := by
 unfold win
 have hl : num s / 256 ^ f < 256 ^ k := by
  rw [Nat.div_lt_iff_lt_mul (Nat.pow_pos (by omega)), ← Nat.pow_add]
  have h1 := num_lt s
  rw [← p256] at h1
  exact Nat.lt_of_lt_of_le h1 (Nat.pow_le_pow_right (by omega) (by omega))
 rw [Nat.mod_eq_of_lt hl, Nat.mod_eq_of_lt (Nat.lt_of_lt_of_le hl (Nat.pow_le_pow_right (by omega) hk))]

theorem window_any (g : Nat) (s : ByteArray) (a e : Nat) (hs : s.size ≤ 1000000) (ha : a ≤ 8 * s.size) (w : World) (hc : Rd 83 w g s a e) :
  Calls Tryz.prog 92 #[.pointer (some ⟨g, 0, none⟩)] w fun r w' => r = .returned (.int .u64 (win s (a / 8) 5 / 2 ^ (a % 8) : Nat)) ∧ w = w' := by
 have c0 := hc.c0
 have c1 := hc.c1
 have hfa : a / 8 ≤ s.size := by omega
 have hr : a % 8 < 8 := Nat.mod_lt _ (by omega)
 clear hc
 have hwe := win_end s (a / 8)
 have hws := win_succ s (a / 8)
 have hw0 := win_zero s (a / 8)
 have hwl := win_lt s (a / 8)
 have hq : (a : Int).tdiv 8 = (a / 8 : Nat) := by rw [Int.tdiv_eq_ediv_of_nonneg (by omega)]; omega
 have hm : (a : Int).tmod 8 = (a % 8 : Nat) := by rw [Int.tmod_eq_emod_of_nonneg (by omega)]; omega
 generalize a / 8 = f at *
 generalize a % 8 = r at *
 obtain ⟨K, hK, hK5, hKe⟩ : ∃ K : Nat, min (5 : Int) ((s.size : Int) - (f : Int)) = K ∧ (K ≤ 5 ∧ f + K ≤ s.size) ∧ win s f K = win s f 5 := by
  refine ⟨min 5 (s.size - f), by omega, by omega, ?_⟩
  by_cases h : f + 5 ≤ s.size
  ·rw [show min 5 (s.size - f) = 5 by omega]
  ·exact hwe (min 5 (s.size - f)) (by omega) (by omega)
 clear hwe
 have HKE := Lib.hid hKe
 have HWS := Lib.hid hws
 have HWL := Lib.hid hwl
 have HW0 := Lib.hid hw0
 clear hKe hws hwl hw0
 have hlp : ∀ k : Nat, k ≤ K → ∃ X : Nat, win s f k = X ∧ X < 256 ^ k := fun k _ => ⟨_, rfl, HWL.out k⟩
 have HLP := Lib.hid hlp
 clear hlp
 by_cases h5 : f + 5 ≤ s.size
 ·obtain rfl : K = 5 := by omega
  have h5' : decide ((s.size : Int) - (f : Int) < 5) = false := decide_eq_false (by omega)
  clear hK hK5
  go_enter Tryz.func92, Tryz.ntmps92
  go_wp2
  go_loop [3, 19] (fun x i => ∃ k : Nat, k ≤ 5 ∧ i = .int .i64 k ∧ x = .int .u64 (win s f k : Nat)) (fun _ i => 5 - (intOf i).toNat)
  case atStart => exact ⟨0, Nat.zero_le _, rfl, by rw [HW0.out]; rfl⟩
  case round =>
   obtain ⟨k, hk, rfl, rfl⟩ := hrel
   obtain ⟨X, hX, hXl⟩ := HLP.out k hk
   have HX := Lib.hid hX
   have HXL := Lib.hid hXl
   rw [hX]
   clear hX hXl
   by_cases hlt : k < 5
   ·have hsk : s[f + k].toNat < 256 := s[f + k].toNat_lt
    go_wp2
    go_round
    case rel => exact ⟨k + 1, by omega, by go_num, by rw [HWS.out k (by omega), HX.out, or_walk X _ k HXL.out hsk (by omega)]⟩
    case measure => simp [intOf]; omega
   ·obtain rfl : k = 5 := by omega
    go_wp2
    go_ret
    exact ⟨by rw [← HX.out]; rfl, rfl⟩
 ·have hKK : (s.size : Int) - (f : Int) = (K : Int) := by omega
  have h5' : decide ((K : Int) < 5) = true := decide_eq_true (by omega)
  clear hK
  go_enter Tryz.func92, Tryz.ntmps92
  go_wp2
  go_loop [3, 19] (fun x i => ∃ k : Nat, k ≤ K ∧ i = .int .i64 k ∧ x = .int .u64 (win s f k : Nat)) (fun _ i => K - (intOf i).toNat)
  case atStart => exact ⟨0, Nat.zero_le _, rfl, by rw [HW0.out]; rfl⟩
  case round =>
   obtain ⟨k, hk, rfl, rfl⟩ := hrel
   obtain ⟨X, hX, hXl⟩ := HLP.out k hk
   have HX := Lib.hid hX
   have HXL := Lib.hid hXl
   rw [hX]
   clear hX hXl
   by_cases hlt : k < K
   ·have hsk : s[f + k].toNat < 256 := s[f + k].toNat_lt
    go_wp2
    go_round
    case rel => exact ⟨k + 1, by omega, by go_num, by rw [HWS.out k (by omega), HX.out, or_walk X _ k HXL.out hsk (by omega)]⟩
    case measure => simp [intOf]; omega
   ·obtain rfl : k = K := by omega
    go_wp2
    go_ret
    exact ⟨by rw [← HKE.out, ← HX.out]; rfl, rfl⟩
end Go.Proofs.YtmkeicfklbepnaaGreat

namespace Go.Proofs.YtmkeicfklbepnaaGreat
open Go.RowKit Go.Joins

/-- How many bits Peek tells of. -/
def peekM (s : ByteArray) (a e : Nat) (n : Int) : Nat := if e = 0 ∧ 0 ≤ n ∧ n ≤ 32 then min n.toNat (8 * s.size - a) else 0
theorem peekM_le (s : ByteArray) (a e : Nat) (n : Int) : peekM s a e n ≤ 32 := by unfold peekM; split <;> omega
/-- May n bits be gone by? -/
def maySkip (s : ByteArray) (a e : Nat) (n : Int) : Bool := decide (e = 0 ∧ 0 ≤ n ∧ n ≤ (8 * s.size - a : Nat))
def skipA (s : ByteArray) (a e : Nat) (n : Int) : Nat := if e = 0 ∧ 0 ≤ n ∧ n ≤ (8 * s.size - a : Nat) then a + n.toNat else a
def skipE (s : ByteArray) (a e : Nat) (n : Int) : Nat := if e ≠ 0 then e else if n < 0 then 2 else if n ≤ (8 * s.size - a : Nat) then 0 else 3
theorem peek_any (g : Nat) (s : ByteArray) (a e : Nat) (n : Int) (hs : s.size ≤ 1000000) (ha : a ≤ 8 * s.size) (w : World) (hc : Rd 83 w g s a e) :
  Calls Tryz.prog 58 #[.pointer (some ⟨g, 0, none⟩), .int .i64 n] w fun r w' => r = .returned (.tuple #[.int .u32 (bitsAt (num s) a (peekM s a e n) : Nat), .int .i64 (peekM s a e n : Nat)]) ∧ ∃ d, w' = w.drewN d := by
 by_cases he : e = 0
 ·subst he
  have HW := Lib.hid (well_yes g s a w hc)
  by_cases h0 : n < 0
  ·have HM : Hid (peekM s a 0 n = 0) := if_neg (by omega)
   clear hc
   go_enter Tryz.func58, Tryz.ntmps58
   go_wp2_with (go_at_call 57; refine (HW.out).mono ?_; rintro r w' ⟨rfl, rfl⟩)
   go_ret2
   exact ⟨by rw [HM.out, bitsAt_zero]; rfl, 0, rfl⟩
  ·obtain ⟨m, rfl⟩ := Int.eq_ofNat_of_zero_le (show 0 ≤ n by omega)
   by_cases h32 : m ≤ 32
   ·obtain ⟨K, hK⟩ : ∃ K : Nat, K = min m (8 * s.size - a) := ⟨_, rfl⟩
    have HM : Hid (peekM s a 0 (m : Nat) = K) := by
     show _ = _
     unfold peekM
     rw [if_pos (by omega), hK]
     rfl
    have HL := Lib.hid (left_any g s a 0 hs ha w hc)
    have HN := Lib.hid (fun d => window_any g s a 0 hs ha (w.drewN d) (hc.drewN d))
    have hwl : win s (a / 8) 5 / 2 ^ (a % 8) < 18446744073709551616 := Nat.lt_of_le_of_lt (Nat.div_le_self _ _) (Nat.lt_trans (win_lt s (a / 8) 5) (by decide))
    have hK32 : K ≤ 32 := by omega
    have HB : Hid (win s (a / 8) 5 / 2 ^ (a % 8) % 2 ^ K = bitsAt (num s) a K) := window_bits (num s) a K (by omega)
    have HBl := Lib.hid (bitsAt_lt32 (num s) a K hK32)
    generalize win s (a / 8) 5 / 2 ^ (a % 8) = V at *
    have HLo := Lib.hid (fun w => lowest_any V K hwl hK32 w)
    have hmin : min (m : Int) ((8 * s.size - a : Nat) : Int) = (K : Int) := by omega
    generalize 8 * s.size - a = L at *
    have HKE := Lib.hid hK
    clear hc h0 hK
    by_cases hml : m ≤ L
    ·have hKm : (K : Int) = m := by have := HKE.out; omega
     have hKm' : K = m := by omega
     subst hKm'
     go_enter Tryz.func58, Tryz.ntmps58
     go_wp2_with (first | (go_at_call 57; refine (HW.out).mono ?_; rintro r w' ⟨rfl, rfl⟩) | (go_at_call 91; refine (HL.out).mono ?_; rintro r w' ⟨rfl, d, rfl⟩) | (go_at_call 92; refine (HN.out _).mono ?_; rintro r w' ⟨rfl, rfl⟩) | (go_at_call 77; refine (HLo.out _).mono ?_; rintro r w' ⟨rfl, rfl⟩))
     go_ret2
     exact ⟨by rw [HM.out, ← HB.out]; rfl, _, rfl⟩
    ·have hKm' : K = L := by have := HKE.out; omega
     subst hKm'
     go_enter Tryz.func58, Tryz.ntmps58
     go_wp2_with (first | (go_at_call 57; refine (HW.out).mono ?_; rintro r w' ⟨rfl, rfl⟩) | (go_at_call 91; refine (HL.out).mono ?_; rintro r w' ⟨rfl, d, rfl⟩) | (go_at_call 92; refine (HN.out _).mono ?_; rintro r w' ⟨rfl, rfl⟩) | (go_at_call 77; refine (HLo.out _).mono ?_; rintro r w' ⟨rfl, rfl⟩))
     go_ret2
     exact ⟨by rw [HM.out, ← HB.out]; rfl, _, rfl⟩
   ·have HM : Hid (peekM s a 0 (m : Nat) = 0) := if_neg (by omega)
    clear hc
    go_enter Tryz.func58, Tryz.ntmps58
    go_wp2_with (go_at_call 57; refine (HW.out).mono ?_; rintro r w' ⟨rfl, rfl⟩)
    go_ret2
    exact ⟨by rw [HM.out, bitsAt_zero]; rfl, 0, rfl⟩
 ·have HW := Lib.hid (well_no g s a e he w hc)
  have HM : Hid (peekM s a e n = 0) := if_neg (by omega)
  clear hc
  go_enter Tryz.func58, Tryz.ntmps58
  go_wp2_with (go_at_call 57; refine (HW.out).mono ?_; rintro r w' ⟨rfl, rfl⟩)
  go_ret2
  exact ⟨by rw [HM.out, bitsAt_zero]; rfl, 0, rfl⟩

theorem skip_any (g : Nat) (s : ByteArray) (a e : Nat) (n : Int) (hs : s.size ≤ 1000000) (ha : a ≤ 8 * s.size) (w : World) (hc : Rd 83 w g s a e) :
  Calls Tryz.prog 59 #[.pointer (some ⟨g, 0, none⟩), .int .i64 n] w fun r w' => r = .returned (.tuple #[]) ∧ Rd 83 w' g s (skipA s a e n) (skipE s a e n) ∧ w.grownBy w' (some g) := by
 have HC := Lib.hid hc
 by_cases he : e = 0
 ·subst he
  have HW := Lib.hid (well_yes g s a w hc)
  have HL := Lib.hid (left_any g s a 0 hs ha w hc)
  have c1 := hc.c1
  have c2 := hc.c2
  have f1 := hc.fr 1
  have f2 := hc.fr 2
  by_cases h0 : n < 0
  ·have HA : Hid (skipA s a 0 n = a) := if_neg (by omega)
   have HE : Hid (skipE s a 0 n = 2) := by
    show _ = _
    unfold skipE
    rw [if_neg (by omega), if_pos h0]
   clear hc
   go_enter Tryz.func59, Tryz.ntmps59
   go_wp2_with (first | (go_at_call 57; refine (HW.out).mono ?_; rintro r w' ⟨rfl, rfl⟩) | (go_at_call 91; refine (HL.out).mono ?_; rintro r w' ⟨rfl, d, rfl⟩))
   go_end0
   refine ⟨rfl, ?_, grown_set _ g 2 _⟩
   rw [HA.out, HE.out]
   exact HC.out.setErr 2
  ·obtain ⟨m, rfl⟩ := Int.eq_ofNat_of_zero_le (show 0 ≤ n by omega)
   by_cases hl : m ≤ 8 * s.size - a
   ·have HA : Hid (skipA s a 0 (m : Nat) = a + m) := if_pos ⟨rfl, by omega, by omega⟩
    have HE : Hid (skipE s a 0 (m : Nat) = 0) := by
     show _ = _
     unfold skipE
     rw [if_neg (by omega), if_neg (by omega), if_pos (by omega)]
    generalize hLL : 8 * s.size - a = L at *
    have hb : a + m < 9223372036854775807 := by omega
    clear hc h0 hLL
    go_enter Tryz.func59, Tryz.ntmps59
    go_wp2_with (first | (go_at_call 57; refine (HW.out).mono ?_; rintro r w' ⟨rfl, rfl⟩) | (go_at_call 91; refine (HL.out).mono ?_; rintro r w' ⟨rfl, d, rfl⟩))
    go_end0
    refine ⟨rfl, ?_, grown_then (grown_drewN w d _) (grown_set _ g 1 _)⟩
    rw [HA.out, HE.out]
    exact (HC.out.drewN d).setAt (a + m)
   ·have HA : Hid (skipA s a 0 (m : Nat) = a) := if_neg (by omega)
    have HE : Hid (skipE s a 0 (m : Nat) = 3) := by
     show _ = _
     unfold skipE
     rw [if_neg (by omega), if_neg (by omega), if_neg (by omega)]
    generalize hLL : 8 * s.size - a = L at *
    clear hc h0 hLL
    go_enter Tryz.func59, Tryz.ntmps59
    go_wp2_with (first | (go_at_call 57; refine (HW.out).mono ?_; rintro r w' ⟨rfl, rfl⟩) | (go_at_call 91; refine (HL.out).mono ?_; rintro r w' ⟨rfl, d, rfl⟩))
    go_end0
    refine ⟨rfl, ?_, grown_then (grown_drewN w d _) (grown_set _ g 2 _)⟩
    rw [HA.out, HE.out]
    exact (HC.out.drewN d).setErr 3
 ·have HW := Lib.hid (well_no g s a e he w hc)
  have HA : Hid (skipA s a e n = a) := if_neg (by omega)
  have HE : Hid (skipE s a e n = e) := if_pos he
  clear hc he
  go_enter Tryz.func59, Tryz.ntmps59
  go_wp2_with (go_at_call 57; refine (HW.out).mono ?_; rintro r w' ⟨rfl, rfl⟩)
  go_end0
  refine ⟨rfl, ?_, World.grownBy.refl _ _⟩
  rw [HA.out, HE.out]
  exact HC.out

theorem at_any (g : Nat) (s : ByteArray) (a e : Nat) (w : World) (hc : Rd 83 w g s a e) :
  Calls Tryz.prog 16 #[.pointer (some ⟨g, 0, none⟩)] w fun r w' => r = .returned (.int .i64 (a : Nat)) ∧ w = w' := by
 have c1 := hc.c1
 clear hc
 go_enter Tryz.func16, Tryz.ntmps16
 go_wp2
 go_ret
 exact ⟨rfl, rfl⟩
theorem err_any (g : Nat) (s : ByteArray) (a e : Nat) (w : World) (hc : Rd 83 w g s a e) :
  Calls Tryz.prog 36 #[.pointer (some ⟨g, 0, none⟩)] w fun r w' => r = .returned (.int .i64 (e : Nat)) ∧ w = w' := by
 have c2 := hc.c2
 clear hc
 go_enter Tryz.func36, Tryz.ntmps36
 go_wp2
 go_ret
 exact ⟨rfl, rfl⟩

/-- The place behind Align. -/
def alignA (a e : Nat) : Nat := if e = 0 then (a + 7) / 8 * 8 else a
theorem alignA_le (s : ByteArray) (a e : Nat) (ha : a ≤ 8 * s.size) : alignA a e ≤ 8 * s.size := by unfold alignA; split <;> omega
theorem i64_and7 (x : Int) : bits .and .i64 x 7 = x % 8 := by
 have e : (BitVec.ofInt 64 x &&& BitVec.ofInt 64 7).toNat = (x % 8).toNat := by
  rw [BitVec.toNat_and, BitVec.toNat_ofInt, show (BitVec.ofInt 64 7).toNat = 2 ^ 3 - 1 from rfl, Nat.and_two_pow_sub_one_eq_mod]
  omega
 have e2 : bits .and .i64 x 7 = IntKind.i64.wrap ((BitVec.ofInt 64 x &&& BitVec.ofInt 64 7).toNat : Int) := rfl
 rw [e2, e, IntKind.wrap_i64]
 omega
theorem neg_and7 (a : Nat) : bits .and .i64 (-(a : Int)) 7 = ((a + 7) / 8 * 8 - a : Nat) := by
 rw [i64_and7]
 omega

theorem align_any (g : Nat) (s : ByteArray) (a e : Nat) (hs : s.size ≤ 1000000) (ha : a ≤ 8 * s.size) (w : World) (hc : Rd 83 w g s a e) :
  Calls Tryz.prog 60 #[.pointer (some ⟨g, 0, none⟩)] w fun r w' => r = .returned (.tuple #[]) ∧ Rd 83 w' g s (alignA a e) e ∧ w.grownBy w' (some g) := by
 have HC := Lib.hid hc
 by_cases he : e = 0
 ·subst he
  have HW := Lib.hid (well_yes g s a w hc)
  have c1 := hc.c1
  have f1 := hc.fr 1
  have HA : Hid (alignA a 0 = (a + 7) / 8 * 8) := if_pos rfl
  have hn7 := neg_and7 a
  have hsum : wrap64 ((a : Int) + (((a + 7) / 8 * 8 - a : Nat) : Int)) = ((a + 7) / 8 * 8 : Nat) := by
   rw [show ((a : Int) + (((a + 7) / 8 * 8 - a : Nat) : Int)) = ((a + 7) / 8 * 8 : Nat) by omega]
   unfold wrap64
   omega
  have HS := Lib.hid hsum
  have HN := Lib.hid hn7
  clear hc hsum hn7
  go_enter Tryz.func60, Tryz.ntmps60
  go_wp2_with (go_at_call 57; refine (HW.out).mono ?_; rintro r w' ⟨rfl, rfl⟩)
  go_region
  all_goals
   go_end0
   rw [HN.out, HS.out, HA.out]
   exact ⟨rfl, HC.out.setAt _, grown_then (grown_set _ g 1 _) (grown_drewN _ 1 _)⟩
 ·have HW := Lib.hid (well_no g s a e he w hc)
  have HA : Hid (alignA a e = a) := if_neg (by omega)
  clear hc he
  go_enter Tryz.func60, Tryz.ntmps60
  go_wp2_with (go_at_call 57; refine (HW.out).mono ?_; rintro r w' ⟨rfl, rfl⟩)
  go_end0
  refine ⟨rfl, ?_, World.grownBy.refl _ _⟩
  rw [HA.out]
  exact HC.out
end Go.Proofs.YtmkeicfklbepnaaGreat
