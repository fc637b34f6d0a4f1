/-
  Contracts: the reader's small calls: well, left, lowest, window, Peek.
-/
import Derived.Test.YtfhbkidceombbaaBytesMath
import Derived.Deep.QuietTactic
import Derived.BigQuiet
namespace Go.Proofs.Ytfhbkidceombbaa
open Go.RowKit Go.Joins

/-- A block that is a reader, the program's or the document's: its text, its place, its error. -/
def Rd (T : TypeId) (w : World) (g : Nat) (s : ByteArray) (a e : Nat) : Prop := w.heap[g]? = some (.cells #[.string s, .int .i64 (a : Nat), .int .i64 (e : Nat)] T (0, 0))
section
variable {T : TypeId} {w w' : World} {g : Nat} {s : ByteArray} {a e : Nat}
theorem Rd.c0 (h : Rd T w g s a e) : w.cell? ⟨g, 0, none⟩ = some (.string s) := by rw [cell_of_row w g 0 _ _ _ h]; rfl
theorem Rd.c1 (h : Rd T w g s a e) : w.cell? ⟨g, 1, none⟩ = some (.int .i64 (a : Nat)) := by rw [cell_of_row w g 1 _ _ _ h]; rfl
theorem Rd.c2 (h : Rd T w g s a e) : w.cell? ⟨g, 2, none⟩ = some (.int .i64 (e : Nat)) := by rw [cell_of_row w g 2 _ _ _ h]; rfl
theorem Rd.fr (h : Rd T w g s a e) (i : Nat) : w.frozen? ⟨g, i, none⟩ = false := frozen_of_row w g i _ _ h
theorem Rd.lt (h : Rd T w g s a e) : g < w.heap.size := by
  rcases Nat.lt_or_ge g w.heap.size with hlt | hge
  · exact hlt
  · unfold Rd at h; rw [Array.getElem?_eq_none hge] at h; cases h
theorem Rd.drewN (h : Rd T w g s a e) (n : Nat) : Rd T (w.drewN n) g s a e := h
theorem Rd.setAt (h : Rd T w g s a e) (a' : Nat) : Rd T (w.setCell ⟨g, 1, none⟩ (.int .i64 (a' : Nat))) g s a' e := heap_setCell_same w g 1 _ _ _ h
theorem Rd.setErr (h : Rd T w g s a e) (e' : Nat) : Rd T (w.setCell ⟨g, 2, none⟩ (.int .i64 (e' : Nat))) g s a e' := heap_setCell_same w g 2 _ _ _ h
theorem Rd.grown {row : Option Nat} (h : Rd T w g s a e) (hg : w.grownBy w' row) (hne : some g ≠ row) : Rd T w' g s a e := (hg.block g h.lt hne).trans h
theorem Rd.below {B : Nat} (h : Rd T w g s a e) (hb : Below B w w') (hg : g < B) : Rd T w' g s a e := (hb.block g hg).trans h
theorem Rd.alloc (h : Rd T w g s a e) (o : Obj) : Rd T (w.alloc o) g s a e := (Below.heap_alloc w o g h.lt).trans h
end
theorem grown_drewN (w : World) (n : Nat) (row : Option Nat) : w.grownBy (w.drewN n) row := ⟨rfl, rfl, rfl, Nat.le_refl _, fun _ _ _ => rfl⟩
theorem grown_set (w : World) (g i : Nat) (v : Value) : w.grownBy (w.setCell ⟨g, i, none⟩ v) (some g) :=
  ⟨rfl, rfl, rfl, by simp [World.setCell], fun k _ hne => Below.heap_setCell _ _ _ _ (fun e => hne (by rw [e]))⟩
theorem grown_then {w w1 w2 : World} {row : Option Nat} (h : w.grownBy w1 row) (k : w1.grownBy w2 row) : w.grownBy w2 row :=
  ⟨k.os.trans h.os, k.tape.trans h.tape, k.output.trans h.output, Nat.le_trans h.size k.size, fun i hi hne => (k.block i (Nat.lt_of_lt_of_le hi h.size) hne).trans (h.block i hi hne)⟩

theorem mask_walk (v m : Nat) (hv : v < 18446744073709551616) (hm : m ≤ 32) : bits .and .u64 (v : Int) (IntKind.u64.wrap (IntKind.u64.wrap (2 ^ m) - 1)) = ((v % 2 ^ m : Nat) : Int) := by
  have h1 : 0 < 2 ^ m := Nat.two_pow_pos m
  have h2 : 2 ^ m ≤ 2 ^ 32 := Nat.pow_le_pow_right (by omega) hm
  have e : ((2 : Int) ^ m) = ((2 ^ m : Nat) : Int) := by simp
  rw [e, IntKind.wrap_u64, IntKind.wrap_u64, show (((2 ^ m : Nat) : Int) % 18446744073709551616 - 1) % 18446744073709551616 = ((2 ^ m - 1 : Nat) : Int) by omega, u64_and_nat v _ hv (by omega), and_low]
theorem lowest_any (v n : Nat) (hv : v < 18446744073709551616) (hn : n ≤ 32) (w : World) :
    Calls Try.prog 55 #[.int .u64 v, .int .i64 n] w fun r w' => r = .returned (.int .u32 (v % 2 ^ n : Nat)) ∧ w = w' := by
  have h2 : 2 ^ n ≤ 2 ^ 32 := Nat.pow_le_pow_right (by omega) hn
  have h3 : v % 2 ^ n < 2 ^ n := Nat.mod_lt _ (Nat.two_pow_pos n)
  have H2 := Lib.hid h2
  have H3 := Lib.hid h3
  clear h2 h3
  go_enter Try.func55, Try.ntmps55
  go_wp2
  go_ret
  refine ⟨ret_eq ?_, rfl⟩
  rw [mask_walk v n hv hn]
  have h2 := H2.out
  have h3 := H3.out
  omega

theorem or_walk (X x k : Nat) (hX : X < 256 ^ k) (hx : x < 256) (hk : k < 8) : bits .or .u64 (X : Int) (IntKind.u64.wrap ((x : Int) * 2 ^ (k * 8))) = ((X + x * 256 ^ k : Nat) : Int) := by
  have hp : (256 : Nat) ^ (k + 1) ≤ 18446744073709551616 := Nat.pow_le_pow_right (n := 256) (by omega) (show k + 1 ≤ 8 by omega)
  rw [Nat.pow_succ] at hp
  have e : (2 : Nat) ^ (k * 8) = 256 ^ k := by rw [Nat.mul_comm, Nat.pow_mul]
  have hpos : 0 < (256 : Nat) ^ k := Nat.pow_pos (by omega)
  have h1 : x * 256 ^ k < 18446744073709551616 := by
    have : x * 256 ^ k < 256 ^ k * 256 := by rw [Nat.mul_comm]; exact Nat.mul_lt_mul_of_pos_left hx hpos
    omega
  have e2 : ((x : Int) * 2 ^ (k * 8)) = ((x * 2 ^ (k * 8) : Nat) : Int) := by simp
  have h2 : IntKind.u64.wrap ((x : Int) * 2 ^ (k * 8)) = ((x * 2 ^ (k * 8) : Nat) : Int) := by
    rw [e2, IntKind.wrap_u64, e]
    omega
  rw [h2, u64_or_nat X _ (by omega) (by rw [e]; exact h1), or_step X x (k * 8) (by rw [e]; exact hX), e]

/-- The first k bytes from f on, as a number. -/
def win (s : ByteArray) (f k : Nat) : Nat := num s / 256 ^ f % 256 ^ k
theorem win_zero (s : ByteArray) (f : Nat) : win s f 0 = 0 := by unfold win; rw [Nat.pow_zero, Nat.mod_one]
theorem win_lt (s : ByteArray) (f k : Nat) : win s f k < 256 ^ k := Nat.mod_lt _ (Nat.pow_pos (by omega))
theorem win_succ (s : ByteArray) (f k : Nat) (h : f + k < s.size) : win s f (k + 1) = win s f k + s[f + k].toNat * 256 ^ k := by
  have hg := numL_get _ (nums_lt s) (f + k) _ (nums_get s (f + k) h)
  unfold win num
  rw [Nat.mod_pow_succ, Nat.div_div_eq_div_mul, ← Nat.pow_add, hg, Nat.mul_comm]
theorem win_end (s : ByteArray) (f k : Nat) (h : s.size ≤ f + k) (hk : k ≤ 5) : win s f k = win s f 5 := by
  unfold win
  have hl : num s / 256 ^ f < 256 ^ k := by
    rw [Nat.div_lt_iff_lt_mul (Nat.pow_pos (by omega)), ← Nat.pow_add]
    have h1 := num_lt s
    rw [← p256] at h1
    exact Nat.lt_of_lt_of_le h1 (Nat.pow_le_pow_right (by omega) (by omega))
  rw [Nat.mod_eq_of_lt hl, Nat.mod_eq_of_lt (Nat.lt_of_lt_of_le hl (Nat.pow_le_pow_right (by omega) hk))]

end Go.Proofs.Ytfhbkidceombbaa
