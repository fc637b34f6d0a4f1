/-
 Small facts that all our walks use: a number of a kind as a natural one.
 Contracts: how far lengths fill a code; the greatest length; may a code be open.
 The words of lengths, as numbers; contract of firsts.
 Contract of Words.
-/
import Derived.Test.YtmkeicfklbepnaaGreatRows
import Derived.WalkKit
import Derived.WalkSpells
import Derived.WalkLawsBesides
import Derived.OpenShut
import Derived.Lib.Hide
import Derived.BigQuiet
import Derived.StillTailTactics
import Derived.Laws.Rows
import Derived.Deep.OwnRows
import Derived.Laws.OwnMore

namespace Go.Proofs.YtmkeicfklbepnaaGreat
open Go.RowKit

theorem ret_eq {k : IntKind} {a b : Int} (h : a = b) : Ending.returned (.int k a) = .returned (.int k b) := by rw [h]
theorem below_drewN {B : Nat} {a w : World} (h : Below B a w) (n : Nat) : Below B a (w.drewN n) := h.trans ⟨rfl, rfl, rfl, Nat.le_refl _, fun _ _ => rfl⟩
theorem below_setRow {B : Nat} {a w : World} (h : Below B a w) {g : Nat} (hg : B ≤ g) (cs : Array Value) : Below B a (w.setRow g cs) :=
 h.trans ⟨rfl, rfl, rfl, by simp, fun k hk => setRow_other w g k cs (by omega)⟩
/-- A call behind a call: what was below stays below. -/
theorem below_then {W w w' : World} (h : Below W.heap.size W w) (k : Below w.heap.size w w') : Below W.heap.size W w' := h.trans (k.mono h.size)
end Go.Proofs.YtmkeicfklbepnaaGreat

namespace Go.Proofs.YtmkeicfklbepnaaGreat
open Go.RowKit

/-- Lengths that lie in memory. -/
def Lens (w : World) (A : Option Addr) (n : Nat) (ls : Nat → Nat) : Prop := 0 < n → ∃ b off, A = some ⟨b, off, none⟩ ∧ b < w.heap.size ∧ ∀ i, i < n → w.cell? ⟨b, off + i, none⟩ = some (.int .u8 (ls i : Nat)) ∧ ls i < 256
theorem Lens.below {w w' : World} {B n : Nat} {A : Option Addr} {ls : Nat → Nat} (h : Lens w A n ls) (hB : w.heap.size ≤ B) (hb : Below B w w') : Lens w' A n ls := fun hn => by
 obtain ⟨b, off, e, hlt, hc⟩ := h hn
 exact ⟨b, off, e, Nat.lt_of_lt_of_le hlt hb.size, fun i hi => ⟨(hb.cell (p := ⟨b, off + i, none⟩) (Nat.lt_of_lt_of_le hlt hB)).trans (hc i hi).1, (hc i hi).2⟩⟩
theorem Lens.drewN {w : World} {n : Nat} {A : Option Addr} {ls : Nat → Nat} (h : Lens w A n ls) (d : Nat) : Lens (w.drewN d) A n ls := h

/-- How far the first k lengths fill. -/
def fillN (ls : Nat → Nat) : Nat → Nat
 | 0 => 0
 | k + 1 => fillN ls k + (if ls k = 0 then 0 else 2 ^ (15 - ls k))
theorem fillN_le (ls : Nat → Nat) (k : Nat) : fillN ls k ≤ k * 16384 := by
 induction k with
 | zero => exact Nat.zero_le _
 | succ k ih =>
  have hp : (if ls k = 0 then 0 else 2 ^ (15 - ls k)) ≤ 16384 := by
   by_cases h : ls k = 0
   ·rw [if_pos h]
    exact Nat.zero_le _
   ·rw [if_neg h]
    exact Nat.pow_le_pow_right (n := 2) (by omega) (show 15 - ls k ≤ 14 by omega)
  rw [Nat.add_mul, Nat.one_mul]
  exact Nat.add_le_add ih hp
theorem shr_pow (l : Nat) (h : l ≤ 15) : (32768 : Int) / 2 ^ l = ((2 ^ (15 - l) : Nat) : Int) := by
 have e : (32768 : Nat) / 2 ^ l = 2 ^ (15 - l) := by
  rw [show (32768 : Nat) = 2 ^ (15 - l) * 2 ^ l from by rw [← Nat.pow_add, show 15 - l + l = 15 by omega], Nat.mul_div_cancel _ (Nat.two_pow_pos l)]
 rw [← e]
 simp

theorem fill_many (A : Option Addr) (n cap : Nat) (h : 4096 < n) (w : World) :
  Calls Tryz.prog 110 #[.slice A n cap] w fun e w' => e = .returned (.tuple #[.int .i64 0, .int .i64 6]) ∧ w = w' := by
 go_enter Tryz.func110, Tryz.ntmps110
 go_wp2
 go_ret2
 exact ⟨rfl, rfl⟩
theorem fill_ok (A : Option Addr) (n cap : Nat) (ls : Nat → Nat) (hn : n ≤ 4096) (w : World) (hL : Lens w A n ls) (h15 : ∀ i, i < n → ls i ≤ 15) :
  Calls Tryz.prog 110 #[.slice A n cap] w fun e w' => e = .returned (.tuple #[.int .i64 (fillN ls n : Nat), .int .i64 0]) ∧ w = w' := by
 have HL := Lib.hid hL
 have H15 := Lib.hid h15
 clear hL h15
 go_enter Tryz.func110, Tryz.ntmps110
 go_wp2
 go_loop [4, 12] (fun x i => ∃ k, k ≤ n ∧ i = .int .i64 k ∧ x = .int .i64 (fillN ls k : Nat)) (fun _ i => n - (intOf i).toNat)
 case atStart => exact ⟨0, Nat.zero_le _, rfl, rfl⟩
 case round =>
  obtain ⟨k, hk, rfl, rfl⟩ := hrel
  by_cases hlt : k < n
  ·obtain ⟨b, off, rfl, hb, hc⟩ := HL.out (by omega)
   obtain ⟨hcell, _⟩ := hc k hlt
   have hl := H15.out k hlt
   have hfl := fillN_le ls k
   have hsh := shr_pow (ls k) hl
   have HS : Hid (fillN ls (k + 1) = fillN ls k + (if ls k = 0 then 0 else 2 ^ (15 - ls k))) := rfl
   have hp : 2 ^ (15 - ls k) ≤ 32768 := Nat.pow_le_pow_right (n := 2) (by omega) (show 15 - ls k ≤ 15 by omega)
   generalize ls k = l at *
   generalize 2 ^ (15 - l) = p at *
   generalize fillN ls k = F at *
   clear hc
   by_cases h0 : l = 0
   ·subst h0
    go_wp2
    go_round
    case rel => exact ⟨k + 1, by omega, by go_num, by rw [HS.out]; simp⟩
    case measure => simp [intOf]; omega
   ·go_wp2
    go_round
    case rel => exact ⟨k + 1, by omega, by go_num, by rw [HS.out, if_neg h0]; simp⟩
    case measure => simp [intOf]; omega
  ·obtain rfl : k = n := by omega
   go_wp2
   go_ret2
   exact ⟨rfl, rfl⟩
/-- The first length that is too great. -/
theorem first_bad (ls : Nat → Nat) (n : Nat) (h : ¬ ∀ i, i < n → ls i ≤ 15) : ∃ m, m < n ∧ 15 < ls m ∧ ∀ i, i < m → ls i ≤ 15 := by
 induction n with
 | zero => exact absurd (fun i hi => by omega) h
 | succ n ih =>
  by_cases hn : ∀ i, i < n → ls i ≤ 15
  ·refine ⟨n, by omega, ?_, hn⟩
   refine Nat.lt_of_not_le fun hle => h fun i hi => ?_
   by_cases e : i = n
   ·exact e ▸ hle
   ·exact hn i (by omega)
  ·obtain ⟨m, h1, h2, h3⟩ := ih hn
   exact ⟨m, by omega, h2, h3⟩
/-- The sum of the first k lengths. -/
def sumN (ls : Nat → Nat) : Nat → Nat
 | 0 => 0
 | k + 1 => sumN ls k + ls k
theorem sumN_le (ls : Nat → Nat) (n : Nat) (h : ∀ i, i < n → ls i ≤ 15) : ∀ k, k ≤ n → sumN ls k ≤ k * 15
 | 0, _ => Nat.le_refl _
 | k + 1, hk => by
  have ih := sumN_le ls n h k (by omega)
  have := h k (by omega)
  rw [sumN]
  omega
theorem open_any (A : Option Addr) (n cap : Nat) (ls : Nat → Nat) (hn : n ≤ 4096) (w : World) (hL : Lens w A n ls) (h15 : ∀ i, i < n → ls i ≤ 15) :
  Calls Tryz.prog 111 #[.slice A n cap] w fun e w' => e = .returned (.bool (decide (sumN ls n ≤ 1))) ∧ w = w' := by
 have HL := Lib.hid hL
 have H15 := Lib.hid h15
 have HSL := Lib.hid (sumN_le ls n h15)
 clear hL h15
 go_enter Tryz.func111, Tryz.ntmps111
 go_wp2
 go_loop [3, 8] (fun x i => ∃ k, k ≤ n ∧ i = .int .i64 k ∧ x = .int .i64 (sumN ls k : Nat)) (fun _ i => n - (intOf i).toNat)
 case atStart => exact ⟨0, Nat.zero_le _, rfl, rfl⟩
 case round =>
  obtain ⟨k, hk, rfl, rfl⟩ := hrel
  have hsl := HSL.out k hk
  by_cases hlt : k < n
  ·obtain ⟨b, off, rfl, hb, hc⟩ := HL.out (by omega)
   obtain ⟨hcell, _⟩ := hc k hlt
   have hl := H15.out k hlt
   have HS : Hid (sumN ls (k + 1) = sumN ls k + ls k) := rfl
   generalize ls k = l at *
   generalize sumN ls k = F at *
   clear hc
   go_wp2
   go_round
   case rel => exact ⟨k + 1, by omega, by go_num, by rw [HS.out]; go_num⟩
   case measure => simp [intOf]; omega
  ·obtain rfl : k = n := by omega
   go_wp2
   go_ret
   refine ⟨?_, rfl⟩
   show Ending.returned (.bool (decide (((sumN ls k : Nat) : Int) ≤ 1))) = _
   rw [show decide (((sumN ls k : Nat) : Int) ≤ 1) = decide (sumN ls k ≤ 1) from decide_eq_decide.mpr (by omega)]

/-- The greatest of the first k + 1 lengths. -/
def maxN (ls : Nat → Nat) : Nat → Nat
 | 0 => ls 0
 | k + 1 => max (maxN ls k) (ls (k + 1))
theorem maxN_ge (ls : Nat → Nat) : ∀ k i, i ≤ k → ls i ≤ maxN ls k
 | 0, i, h => by
  obtain rfl : i = 0 := by omega
  exact Nat.le_refl _
 | k + 1, i, h => by
  rw [maxN]
  by_cases e : i = k + 1
  ·subst e
   omega
  ·have := maxN_ge ls k i (by omega)
   omega
theorem maxN_mem (ls : Nat → Nat) : ∀ k, ∃ i, i ≤ k ∧ ls i = maxN ls k
 | 0 => ⟨0, Nat.le_refl _, rfl⟩
 | k + 1 => by
  rw [maxN]
  by_cases h : maxN ls k ≤ ls (k + 1)
  ·exact ⟨k + 1, Nat.le_refl _, by omega⟩
  ·obtain ⟨i, h1, h2⟩ := maxN_mem ls k
   exact ⟨i, by omega, by omega⟩
theorem max_any (A : Option Addr) (n cap : Nat) (ls : Nat → Nat) (h0 : 0 < n) (hn : n ≤ 4096) (w : World) (hL : Lens w A n ls) :
  Calls Tryz.prog 112 #[.slice A n cap] w fun e w' => e = .returned (.int .u8 (maxN ls (n - 1) : Nat)) ∧ w = w' := by
 obtain ⟨b, off, rfl, hb, hc⟩ := hL h0
 have hc0 := (hc 0 h0).1
 rw [Nat.add_zero] at hc0
 have HC := Lib.hid hc
 clear hc
 go_enter Tryz.func112, Tryz.ntmps112
 go_wp2
 go_loop [3, 4] (fun x i => ∃ k, k < n ∧ i = .int .i64 (k + 1 : Nat) ∧ x = .int .u8 (maxN ls k : Nat)) (fun _ i => n - (intOf i).toNat)
 case atStart => exact ⟨0, h0, rfl, rfl⟩
 case round =>
  obtain ⟨k, hk, rfl, rfl⟩ := hrel
  by_cases hlt : k + 1 < n
  ·obtain ⟨hcell, h256⟩ := HC.out (k + 1) hlt
   have HS : Hid (maxN ls (k + 1) = max (maxN ls k) (ls (k + 1))) := rfl
   generalize ls (k + 1) = l at *
   generalize maxN ls k = F at *
   by_cases hm : F < l
   ·have hmx : max (F : Int) (l : Int) = l := by omega
    have HX : Hid (max F l = l) := by show _ = _; omega
    go_wp2
    go_round
    case rel => exact ⟨k + 1, hlt, by simp, by rw [HS.out, HX.out]⟩
    case measure => simp [intOf]; omega
   ·have hmx : max (F : Int) (l : Int) = F := by omega
    have HX : Hid (max F l = F) := by show _ = _; omega
    go_wp2
    go_round
    case rel => exact ⟨k + 1, hlt, by simp, by rw [HS.out, HX.out]⟩
    case measure => simp [intOf]; omega
  ·obtain rfl : n = k + 1 := by omega
   go_wp2
   go_ret
   exact ⟨rfl, rfl⟩
end Go.Proofs.YtmkeicfklbepnaaGreat

namespace Go.Proofs.YtmkeicfklbepnaaGreat
open Go.RowKit

/-- How many of the first k signs have the length l. -/
def cntN (ls : Nat → Nat) (l : Nat) : Nat → Nat
 | 0 => 0
 | k + 1 => cntN ls l k + (if ls k = l then 1 else 0)
theorem cntN_le (ls : Nat → Nat) (l k : Nat) : cntN ls l k ≤ k := by
 induction k with
 | zero => exact Nat.le_refl _
 | succ k ih =>
  rw [cntN]
  split <;> omega
/-- The first word of each length. -/
def firstN (ls : Nat → Nat) (n : Nat) : Nat → Nat
 | 0 => 0
 | l + 1 => (firstN ls n l + (if l = 0 then 0 else cntN ls l n)) * 2
/-- How far the words of at most l bits fill. -/
def sumS (ls : Nat → Nat) (n : Nat) : Nat → Nat
 | 0 => 0
 | l + 1 => sumS ls n l + cntN ls (l + 1) n * 2 ^ (15 - (l + 1))
theorem firstN_sum (ls : Nat → Nat) (n l : Nat) (h : l ≤ 14) : firstN ls n (l + 1) * 2 ^ (14 - l) = sumS ls n l := by
 induction l with
 | zero => simp [firstN, sumS]
 | succ l ih =>
  rw [firstN, if_neg (by omega), sumS, ← ih (by omega), show 15 - (l + 1) = 14 - l by omega, show 14 - l = (14 - (l + 1)) + 1 by omega, Nat.pow_succ, Nat.add_mul, Nat.add_mul]
  ac_rfl
theorem sumS_step (ls : Nat → Nat) (n l : Nat) : sumS ls (n + 1) l = sumS ls n l + (if ls n = 0 ∨ l < ls n then 0 else 2 ^ (15 - ls n)) := by
 induction l with
 | zero =>
  rw [sumS, sumS, if_pos (by omega)]
 | succ l ih =>
  rw [sumS, ih, sumS, cntN]
  by_cases h1 : ls n = l + 1
  ·rw [if_pos (.inr (by omega)), if_pos h1, if_neg (by omega), h1, Nat.add_mul]
   omega
  ·rw [if_neg h1, Nat.add_zero]
   by_cases h2 : ls n = 0 ∨ l < ls n
   ·rw [if_pos h2, if_pos (show ls n = 0 ∨ l + 1 < ls n by omega)]
    omega
   ·rw [if_neg h2, if_neg (show ¬ (ls n = 0 ∨ l + 1 < ls n) by omega)]
    omega
theorem sumS_fill (ls : Nat → Nat) (n : Nat) (h : ∀ i, i < n → ls i ≤ 15) : sumS ls n 15 = fillN ls n := by
 induction n with
 | zero =>
  have hz : ∀ l, sumS ls 0 l = 0 := fun l => by
   induction l with
   | zero => rfl
   | succ l ih => rw [sumS, ih]; simp [cntN]
  rw [hz]
  rfl
 | succ n ih =>
  rw [sumS_step, ih fun i hi => h i (by omega), fillN]
  have := h n (by omega)
  by_cases h0 : ls n = 0
  ·rw [if_pos (.inl h0), if_pos h0]
  ·rw [if_neg (by omega), if_neg h0]
theorem sumS_mono (ls : Nat → Nat) (n l : Nat) : ∀ d, sumS ls n l ≤ sumS ls n (l + d)
 | 0 => Nat.le_refl _
 | d + 1 => by
  have := sumS_mono ls n l d
  rw [← Nat.add_assoc, sumS]
  omega
/-- No word is longer than its length. -/
theorem firstN_lt (ls : Nat → Nat) (n : Nat) (h : ∀ i, i < n → ls i ≤ 15) (hf : fillN ls n ≤ 32768) (l : Nat) (hl : l ≤ 14) : firstN ls n (l + 1) + cntN ls (l + 1) n ≤ 2 ^ (l + 1) := by
 have h1 := firstN_sum ls n l hl
 have h2 := sumS_mono ls n (l + 1) (14 - l)
 rw [show l + 1 + (14 - l) = 15 by omega, sumS_fill ls n h, sumS, ← h1, show 15 - (l + 1) = 14 - l by omega, ← Nat.add_mul] at h2
 have h3 : (2 : Nat) ^ (l + 1) * 2 ^ (14 - l) = 32768 := by rw [← Nat.pow_add, show l + 1 + (14 - l) = 15 by omega]
 exact Nat.le_of_mul_le_mul_right (by rw [h3]; omega) (Nat.two_pow_pos (14 - l))
theorem firstN_small (ls : Nat → Nat) (n : Nat) (h : ∀ i, i < n → ls i ≤ 15) (hf : fillN ls n ≤ 32768) (l : Nat) (hl : l ≤ 15) : firstN ls n l + (if l = 0 then 0 else cntN ls l n) ≤ 32768 := by
 cases l with
 | zero => exact Nat.zero_le _
 | succ l =>
  rw [if_neg (by omega)]
  exact Nat.le_trans (firstN_lt ls n h hf l (by omega)) (Nat.pow_le_pow_right (n := 2) (by omega) (show l + 1 ≤ 15 by omega))

/-- Sixteen cells. -/
def tab (f : Nat → Nat) : Array Value := ((List.range 16).map fun i => Value.int .u32 (f i : Nat)).toArray
theorem tab_size (f : Nat → Nat) : (tab f).size = 16 := by simp [tab]
theorem tab_at (f : Nat → Nat) (i : Nat) (hi : i < 16) : (tab f)[i]? = some (.int .u32 (f i : Nat)) := by
 unfold tab
 simp [List.getElem?_range hi]
theorem tab_ext (f g : Nat → Nat) (h : ∀ i, i < 16 → f i = g i) : tab f = tab g := by
 unfold tab
 congr 1
 apply List.map_congr_left
 intro i hi
 rw [h i (by simpa using hi)]
theorem tab_set (f : Nat → Nat) (k x : Nat) (hk : k < 16) : (tab f).setIfInBounds k (.int .u32 (x : Nat)) = tab (fun i => if i = k then x else f i) := by
 apply Array.ext_getElem?
 intro i
 rw [Array.getElem?_setIfInBounds, tab_size]
 by_cases hi : i < 16
 ·by_cases h : k = i
  ·subst h
   rw [if_pos rfl, if_pos hi, tab_at _ _ hi, if_pos rfl]
  ·rw [if_neg h, tab_at _ _ hi, tab_at _ _ hi, if_neg (fun e => h e.symm)]
 ·have hn : ∀ g : Nat → Nat, (tab g)[i]? = none := fun g => by rw [Array.getElem?_eq_none_iff, tab_size]; omega
  rw [hn, hn]
  by_cases h : k = i
  ·rw [if_pos h, if_neg (by omega)]
  ·rw [if_neg h]
theorem zero_table (w : World) : (zeroValue 198).run Tryz.prog w = .ok (.agg (tab fun _ => 0)) w := by kernel_rfl
theorem info_table : (Tryz.prog.info? 198).map (·.size) = some 16 := by kernel_rfl
theorem tab_one (f : Nat → Nat) : (tab f).all (·.oneCell') = true := by
 rw [Array.all_eq_true_iff_forall_mem]
 intro v hv
 unfold tab at hv
 simp at hv
 obtain ⟨i, _, rfl⟩ := hv
 rfl
/-- A block of sixteen numbers. -/
def IsTab (w : World) (g : Nat) (f : Nat → Nat) : Prop := w.heap[g]? = some (.cells (tab f) 198 (0, 0))
section
variable {w w' : World} {g : Nat} {f : Nat → Nat}
theorem IsTab.cell (h : IsTab w g f) (i : Nat) (hi : i < 16) : w.cell? ⟨g, i, none⟩ = some (.int .u32 (f i : Nat)) := by
 rw [cell_of_row w g i _ _ _ h, tab_at f i hi]
theorem IsTab.frozen (h : IsTab w g f) (i : Nat) : w.frozen? ⟨g, i, none⟩ = false := frozen_of_row w g i _ _ h
theorem IsTab.lt (h : IsTab w g f) : g < w.heap.size := by
 rcases Nat.lt_or_ge g w.heap.size with hlt | hge
 ·exact hlt
 ·unfold IsTab at h; rw [Array.getElem?_eq_none hge] at h; cases h
theorem IsTab.set (h : IsTab w g f) (k x : Nat) (hk : k < 16) : IsTab (w.setCell ⟨g, k, none⟩ (.int .u32 (x : Nat))) g (fun i => if i = k then x else f i) := by
 have e := heap_setCell_same w g k _ _ (.int .u32 (x : Nat)) h
 rw [tab_set f k x hk] at e
 exact e
theorem IsTab.other (h : IsTab w g f) (a : Addr) (v : Value) (hne : g ≠ a.block) : IsTab (w.setCell a v) g f := (heap_setCell_other w a g v hne).trans h
theorem IsTab.below {B : Nat} (h : IsTab w g f) (hb : Below B w w') (hg : g < B) : IsTab w' g f := (hb.block g hg).trans h
theorem IsTab.alloc (h : IsTab w g f) (o : Obj) : IsTab (w.alloc o) g f := (Below.heap_alloc w o g h.lt).trans h
theorem IsTab.new (w : World) (f : Nat → Nat) : IsTab (w.alloc (.cells (tab f) 198)) w.heap.size f := heap_alloc_new w _
theorem IsTab.ext {f' : Nat → Nat} (h : IsTab w g f) (e : ∀ i, i < 16 → f i = f' i) : IsTab w g f' := by
 unfold IsTab at *
 rw [← tab_ext f f' e]
 exact h
end
theorem zero_first (ls : Nat → Nat) (k i : Nat) : 0 = if i < 1 then firstN ls k i else 0 := by
 by_cases h : i < 1
 ·rw [if_pos h, show i = 0 by omega]
  rfl
 ·rw [if_neg h]
theorem below_alloc {W w : World} (h : Below W.heap.size W w) (o : Obj) : Below W.heap.size W (w.alloc o) := h.alloc h.size o

set_option maxRecDepth 100000 in
set_option maxHeartbeats 4000000 in
theorem firsts_any (A : Option Addr) (n cap : Nat) (ls : Nat → Nat) (hn : n ≤ 4096) (w : World) (hL : Lens w A n ls) (h15 : ∀ i, i < n → ls i ≤ 15) (hf : fillN ls n ≤ 32768) :
  Calls Tryz.prog 124 #[.slice A n cap] w fun e w' => e = .returned (.agg (tab (firstN ls n))) ∧ Below w.heap.size w w' := by
 have HL := Lib.hid hL
 have H15 := Lib.hid h15
 have HSM := Lib.hid (firstN_small ls n h15 hf)
 have hz := zero_table
 clear hL h15 hf
 go_enter Tryz.func124, Tryz.ntmps124
 go_wp2
 have hb0 : Below w.heap.size w (((w.alloc (.cells (tab fun _ => 0) 198)).alloc (.cells (tab fun _ => 0) 198)).alloc (.cells (tab fun _ => 0) 198)) := below_alloc (below_alloc (below_alloc (Below.refl _ _) _) _) _
 have ht0 : IsTab (((w.alloc (.cells (tab fun _ => 0) 198)).alloc (.cells (tab fun _ => 0) 198)).alloc (.cells (tab fun _ => 0) 198)) w.heap.size (fun _ => 0) := ((IsTab.new w _).alloc _).alloc _
 have ht1 : IsTab (((w.alloc (.cells (tab fun _ => 0) 198)).alloc (.cells (tab fun _ => 0) 198)).alloc (.cells (tab fun _ => 0) 198)) (w.heap.size + 1) (fun _ => 0) := by
  have h := (IsTab.new (w.alloc (.cells (tab fun _ => 0) 198)) (fun _ => 0)).alloc (.cells (tab fun _ => 0) 198)
  simp only [World.size_alloc] at h
  exact h
 have ht2 : IsTab (((w.alloc (.cells (tab fun _ => 0) 198)).alloc (.cells (tab fun _ => 0) 198)).alloc (.cells (tab fun _ => 0) 198)) (w.heap.size + 2) (fun _ => 0) := by
  have h := IsTab.new ((w.alloc (.cells (tab fun _ => 0) 198)).alloc (.cells (tab fun _ => 0) 198)) (fun _ => 0)
  simp only [World.size_alloc] at h
  exact h
 generalize ((w.alloc (.cells (tab fun _ => 0) 198)).alloc (.cells (tab fun _ => 0) 198)).alloc (.cells (tab fun _ => 0) 198) = W1 at *
 have HI : Hid (IsTab W1 w.heap.size (fun _ => 0) ∧ IsTab W1 (w.heap.size + 1) (fun l => cntN ls l 0) ∧ IsTab W1 (w.heap.size + 2) (fun _ => 0) ∧ Below w.heap.size w W1) := ⟨ht0, ht1, ht2, hb0⟩
 clear hb0 ht0 ht1 ht2 hz
 go_loopw [10] (fun i wr => ∃ k : Nat, k ≤ n ∧ i = .int .i64 k ∧ IsTab wr w.heap.size (fun _ => 0) ∧ IsTab wr (w.heap.size + 1) (fun l => cntN ls l k) ∧ IsTab wr (w.heap.size + 2) (fun _ => 0) ∧ Below w.heap.size w wr) (fun i _ => n - (intOf i).toNat)
 case atStart => exact ⟨0, Nat.zero_le _, rfl, HI.out⟩
 case round =>
  obtain ⟨k, hk, rfl, h0, h1, h2, hb⟩ := hrel
  have H0 := Lib.hid h0
  have H1 := Lib.hid h1
  have H2 := Lib.hid h2
  have HB := Lib.hid hb
  by_cases hlt : k < n
  ·obtain ⟨b, off, rfl, hbl, hc⟩ := HL.out (by omega)
   have hcell := (hb.cell (p := ⟨b, off + k, none⟩) hbl).trans (hc k hlt).1
   have hl := H15.out k hlt
   have hcn := cntN_le ls (ls k) k
   have hcm := h1.cell (ls k) (by omega)
   have hfm := h1.frozen (ls k)
   have HSET := Lib.hid (fun x => h1.set (ls k) x (by omega))
   have hstep : ∀ i, (if i = ls k then cntN ls (ls k) k + 1 else cntN ls i k) = cntN ls i (k + 1) := fun i => by
    rw [cntN]
    by_cases e : i = ls k
    ·subst e
     rw [if_pos rfl, if_pos rfl]
    ·rw [if_neg e, if_neg (fun h => e h.symm)]
     rfl
   have HSTEP := Lib.hid hstep
   clear h0 h1 h2 hb hc hstep
   generalize hll : ls k = l at *
   generalize hcc : cntN ls l k = c at *
   clear hll hcc
   go_wp2
   go_roundw
   case rel =>
    refine ⟨k + 1, by omega, by go_num, H0.out.other _ _ (by simp), ?_, H2.out.other _ _ (by simp), HB.out.setCell (by simp) _⟩
    have h := (HSET.out (c + 1)).ext (fun i _ => HSTEP.out i)
    exact h
   case measure => simp [intOf]; omega
  ·obtain rfl : k = n := by omega
   have hf0 := h1.frozen 0
   have hset := h1.set 0 0 (by omega)
   have hc0 := h1.cell 0 (by omega)
   have HSET : Hid (IsTab (wr.setCell ⟨w.heap.size + 1, 0, none⟩ (.int .u32 0)) (w.heap.size + 1) (fun l => if l = 0 then 0 else cntN ls l k)) := hset
   clear h0 h1 h2 hb hset
   go_wp2
   have HJ : Hid (IsTab (wr.setCell ⟨w.heap.size + 1, 0, none⟩ (.int .u32 0)) w.heap.size (fun _ => 0) ∧ IsTab (wr.setCell ⟨w.heap.size + 1, 0, none⟩ (.int .u32 0)) (w.heap.size + 1) (fun l => if l = 0 then 0 else cntN ls l k) ∧ IsTab (wr.setCell ⟨w.heap.size + 1, 0, none⟩ (.int .u32 0)) (w.heap.size + 2) (fun _ => 0) ∧ Below w.heap.size w (wr.setCell ⟨w.heap.size + 1, 0, none⟩ (.int .u32 0))) :=
    ⟨H0.out.other _ _ (by simp), HSET.out, H2.out.other _ _ (by simp), HB.out.setCell (by simp) _⟩
   generalize wr.setCell ⟨w.heap.size + 1, 0, none⟩ (.int .u32 0) = W2 at *
   clear H0 H1 H2 HB HSET hf0 hc0
   go_loopw [7] (fun i wr => ∃ j : Nat, 1 ≤ j ∧ j ≤ 16 ∧ i = .int .i64 j ∧ IsTab wr w.heap.size (fun _ => 0) ∧ IsTab wr (w.heap.size + 1) (fun l => if l = 0 then 0 else cntN ls l k) ∧ IsTab wr (w.heap.size + 2) (fun l => if l < j then firstN ls k l else 0) ∧ Below w.heap.size w wr) (fun i _ => 16 - (intOf i).toNat)
   case atStart => exact ⟨1, Nat.le_refl _, by omega, rfl, HJ.out.1, HJ.out.2.1, HJ.out.2.2.1.ext (fun i _ => zero_first ls k i), HJ.out.2.2.2⟩
   case round =>
    obtain ⟨j, hj1, hj, rfl, h0, h1, h2, hb⟩ := hrel
    have H0 := Lib.hid h0
    have H1 := Lib.hid h1
    have H2 := Lib.hid h2
    have HB := Lib.hid hb
    by_cases hlt : j < 16
    ·obtain ⟨i, rfl⟩ : ∃ i, j = i + 1 := ⟨j - 1, by omega⟩
     have hc1 := h1.cell i (by omega)
     have hc2 := h2.cell i (by omega)
     simp only [if_pos (show i < i + 1 by omega)] at hc2
     have hf2 := h2.frozen (i + 1)
     have hc3 := h2.cell (i + 1) hlt
     have hsm := HSM.out i (by omega)
     have HF : Hid (firstN ls k (i + 1) = (firstN ls k i + (if i = 0 then 0 else cntN ls i k)) * 2) := rfl
     have HSET := Lib.hid (fun x => h2.set (i + 1) x hlt)
     have hwi : IntKind.i64.wrap (((i + 1 : Nat) : Int) - 1) = i := by rw [IntKind.wrap_i64]; omega
     have hwi2 : IntKind.i64.wrap ((i : Int) + 1 - 1) = i := by rw [IntKind.wrap_i64]; omega
     have hwi3 : IntKind.i64.wrap (i : Int) = i := by rw [IntKind.wrap_i64]; omega
     have hbi : (i : Int) < 16 := by omega
     have hbi2 : (i : Int) + 1 < 16 := by omega
     have hbi3 : (i : Int) < 15 := by omega
     have hbi4 : (0 : Int) ≤ (i : Int) + 1 := by omega
     have hle : decide (((i + 1 : Nat) : Int) ≤ 15) = true := decide_eq_true (by omega)
     generalize (if i = 0 then 0 else cntN ls i k) = c at *
     generalize firstN ls k i = F at *
     have hw1 : IntKind.u32.wrap ((F : Int) + (c : Int)) = (F : Int) + c := by rw [IntKind.wrap_u32]; omega
     have hw2 : IntKind.u32.wrap (((F : Int) + (c : Int)) * 2) = ((F : Int) + c) * 2 := by rw [IntKind.wrap_u32]; omega
     have hw3 : ((F : Int) + (c : Int)) % 4294967296 = (F : Int) + c := by omega
     have hw4 : (((F : Int) + (c : Int)) * 2) % 4294967296 = ((F : Int) + c) * 2 := by omega
     clear h0 h1 h2 hb
     go_wp2
     go_still_tail 12, (by kernel_rfl)
     change wpList _ _ _ _ _ wr.drew
     replace hf2 : wr.drew.frozen? ⟨w.heap.size + 2, i + 1, none⟩ = false := hf2
     replace hc3 : wr.drew.cell? ⟨w.heap.size + 2, i + 1, none⟩ = _ := hc3
     replace H0 : Hid (IsTab wr.drew w.heap.size (fun _ => 0)) := H0
     replace H1 : Hid (IsTab wr.drew (w.heap.size + 1) (fun l => if l = 0 then 0 else cntN ls l k)) := H1
     replace HB : Hid (Below w.heap.size w wr.drew) := HB.out.drew
     replace HSET : Hid (∀ x : Nat, IsTab (wr.drew.setCell ⟨w.heap.size + 2, i + 1, none⟩ (.int .u32 (x : Nat))) (w.heap.size + 2) (fun l => if l = i + 1 then x else if l < i + 1 then firstN ls k l else 0)) := HSET
     generalize wr.drew = w3 at *
     go_wp2
     go_roundw
     case rel =>
      refine ⟨i + 2, by omega, by omega, by go_num, H0.out.other _ _ (by simp; omega), H1.out.other _ _ (by simp), ?_, HB.out.setCell (by simp; omega) _⟩
      have h := (HSET.out ((F + c) * 2)).ext (f' := fun l => if l < i + 2 then firstN ls k l else 0) (fun l _ => by
       by_cases e : l = i + 1
       ·subst e
        rw [if_pos rfl, if_pos (by omega), HF.out]
       ·rw [if_neg e]
        by_cases e2 : l < i + 1
        ·rw [if_pos e2, if_pos (by omega)]
        ·rw [if_neg e2, if_neg (by omega)])
      exact h
     case measure => simp [intOf]; omega
    ·obtain rfl : j = 16 := by omega
     clear h0 h1 h2 hb
     go_wp2_with (first | (refine wpList_load_row rfl 198 (.tmp 4) rfl (w.heap.size + 2) rfl 198 _ (0, 0) _ H2.out Tryz.underlying198 rfl (by rw [tab_size]; exact info_table) ?_) | (refine wpList_store_row rfl 198 (.tmp 2) (.tmp 37) rfl w.heap.size (tab (fun l => if l < 16 then firstN ls k l else 0)) rfl rfl 198 (tab fun _ => 0) H0.out (by rw [tab_size]; exact info_table) (by rw [tab_size, tab_size]) (tab_one _) ?_))
     have h2 : IsTab (wr.setRow w.heap.size (tab (fun l => if l < 16 then firstN ls k l else 0))) w.heap.size (firstN ls k) :=
      IsTab.ext (f := fun l => if l < 16 then firstN ls k l else 0) (setRow_heap wr w.heap.size _ (tab (fun l => if l < 16 then firstN ls k l else 0)) _ _ H0.out) (fun i hi => by rw [if_pos hi])
     exact bodyPost_ret (results_cell_row rfl _ _ w.heap.size 198 (tab (firstN ls k)) (0, 0) _ rfl h2 Tryz.underlying198 rfl (by rw [tab_size]; exact info_table)) rfl ⟨rfl, below_setRow HB.out (Nat.le_refl _) _⟩
end Go.Proofs.YtmkeicfklbepnaaGreat

namespace Go.Proofs.YtmkeicfklbepnaaGreat
open Go.RowKit Go.Deep

/-- The word of a sign, as a number (0, where it has none). -/
def wordN (ls : Nat → Nat) (n i : Nat) : Nat := if ls i = 0 then 0 else firstN ls n (ls i) + cntN ls (ls i) i
theorem cntN_mono (ls : Nat → Nat) (l k : Nat) : ∀ d, cntN ls l k ≤ cntN ls l (k + d)
 | 0 => Nat.le_refl _
 | d + 1 => by
  have := cntN_mono ls l k d
  rw [← Nat.add_assoc, cntN]
  omega

/-- A row of numbers of 32 bits. -/
def rowU (n : Nat) (f : Nat → Nat) : Array Value := ((List.range n).map fun i => Value.int .u32 (f i : Nat)).toArray
theorem rowU_size (n : Nat) (f : Nat → Nat) : (rowU n f).size = n := by simp [rowU]
theorem rowU_at (n : Nat) (f : Nat → Nat) (i : Nat) (hi : i < n) : (rowU n f)[i]? = some (.int .u32 (f i : Nat)) := by
 unfold rowU
 simp [List.getElem?_range hi]
theorem rowU_ext (n : Nat) (f g : Nat → Nat) (h : ∀ i, i < n → f i = g i) : rowU n f = rowU n g := by
 unfold rowU
 congr 1
 apply List.map_congr_left
 intro i hi
 rw [h i (by simpa using hi)]
theorem rowU_set (n : Nat) (f : Nat → Nat) (k x : Nat) (hk : k < n) : (rowU n f).setIfInBounds k (.int .u32 (x : Nat)) = rowU n (fun i => if i = k then x else f i) := by
 apply Array.ext_getElem?
 intro i
 rw [Array.getElem?_setIfInBounds, rowU_size]
 by_cases hi : i < n
 ·by_cases h : k = i
  ·subst h
   rw [if_pos rfl, if_pos hi, rowU_at _ _ _ hi, if_pos rfl]
  ·rw [if_neg h, rowU_at _ _ _ hi, rowU_at _ _ _ hi, if_neg (fun e => h e.symm)]
 ·have hn : ∀ g : Nat → Nat, (rowU n g)[i]? = none := fun g => by rw [Array.getElem?_eq_none_iff, rowU_size]; omega
  rw [hn, hn]
  by_cases h : k = i
  ·rw [if_pos h, if_neg (by omega)]
  ·rw [if_neg h]
theorem rowU_made (n : Nat) : madeCells #[.int .u32 0] n = rowU n (fun _ => 0) := by
 apply Array.ext'
 rw [toList_madeCells_one]
 unfold rowU
 rw [List.map_const', List.length_range]
 rfl
theorem info32 : (Tryz.prog.info? 84).map (fun i => (i.zero, i.size, i.bytes)) = some (some (.int .u32 0), 1, 4) := by kernel_rfl
/-- A block that is such a row. -/
def IsRowU (w : World) (g n : Nat) (f : Nat → Nat) : Prop := w.heap[g]? = some (.cells (rowU n f) 84 (0, 0))
section
variable {w w' : World} {g n : Nat} {f : Nat → Nat}
theorem IsRowU.cell (h : IsRowU w g n f) (i : Nat) (hi : i < n) : w.cell? ⟨g, i, none⟩ = some (.int .u32 (f i : Nat)) := by
 rw [cell_of_row w g i _ _ _ h, rowU_at n f i hi]
theorem IsRowU.frozen (h : IsRowU w g n f) (i : Nat) : w.frozen? ⟨g, i, none⟩ = false := frozen_of_row w g i _ _ h
theorem IsRowU.lt (h : IsRowU w g n f) : g < w.heap.size := by
 rcases Nat.lt_or_ge g w.heap.size with hlt | hge
 ·exact hlt
 ·unfold IsRowU at h; rw [Array.getElem?_eq_none hge] at h; cases h
theorem IsRowU.set (h : IsRowU w g n f) (k x : Nat) (hk : k < n) : IsRowU (w.setCell ⟨g, k, none⟩ (.int .u32 (x : Nat))) g n (fun i => if i = k then x else f i) := by
 have e := heap_setCell_same w g k _ _ (.int .u32 (x : Nat)) h
 rw [rowU_set n f k x hk] at e
 exact e
theorem IsRowU.other (h : IsRowU w g n f) (a : Addr) (v : Value) (hne : g ≠ a.block) : IsRowU (w.setCell a v) g n f := (heap_setCell_other w a g v hne).trans h
theorem IsRowU.below {B : Nat} (h : IsRowU w g n f) (hb : Below B w w') (hg : g < B) : IsRowU w' g n f := (hb.block g hg).trans h
theorem IsRowU.alloc (h : IsRowU w g n f) (o : Obj) : IsRowU (w.alloc o) g n f := (Below.heap_alloc w o g h.lt).trans h
theorem IsRowU.ext {f' : Nat → Nat} (h : IsRowU w g n f) (e : ∀ i, i < n → f i = f' i) : IsRowU w g n f' := by
 unfold IsRowU at *
 rw [← rowU_ext n f f' e]
 exact h
theorem IsRowU.setRow_other (h : IsRowU w g n f) (g' : Nat) (cs : Array Value) (hne : g ≠ g') : IsRowU (w.setRow g' cs) g n f := (Go.setRow_other w g' g cs hne).trans h
end

theorem words_over (A : Option Addr) (n cap : Nat) (ls : Nat → Nat) (hn : n ≤ 4096) (w : World) (hL : Lens w A n ls) (h15 : ∀ i, i < n → ls i ≤ 15) (hf : 32768 < fillN ls n) :
  Calls Tryz.prog 109 #[.slice A n cap] w fun e w' => e = .returned (.tuple #[.slice none 0 0, .int .i64 10]) ∧ w = w' := by
 have HF := Lib.hid (fill_ok A n cap ls hn w hL h15)
 clear hL h15
 go_enter Tryz.func109, Tryz.ntmps109
 go_wp2_with (go_at_call 110; refine (HF.out).mono ?_; rintro e w' ⟨rfl, rfl⟩)
 go_ret2
 exact ⟨rfl, rfl⟩

set_option maxRecDepth 100000 in
set_option maxHeartbeats 4000000 in
theorem words_ok (A : Option Addr) (n cap : Nat) (ls : Nat → Nat) (hn : n ≤ 4096) (w : World) (hL : Lens w A n ls) (h15 : ∀ i, i < n → ls i ≤ 15) (hf : fillN ls n ≤ 32768) :
  Calls Tryz.prog 109 #[.slice A n cap] w fun e w' => e = .returned (.tuple #[.slice (some ⟨w.heap.size, 0, none⟩) n n, .int .i64 0]) ∧ IsRowU w' w.heap.size n (wordN ls n) ∧ Below w.heap.size w w' := by
 have HF := Lib.hid (fill_ok A n cap ls hn w hL h15)
 have hL1 : Lens (w.alloc (.cells (madeCells #[.int .u32 0] n) 84)) A n ls := hL.below (Nat.le_refl _) ((Below.refl _ _).alloc (Nat.le_refl _) _)
 have HFS := Lib.hid (firsts_any A n cap ls hn _ hL1 h15 hf)
 have HL := Lib.hid hL
 have H15 := Lib.hid h15
 have HSM := Lib.hid (firstN_small ls n h15 hf)
 have hmk := run_make_row' (P := Tryz.prog) 147 84 (.int .u32 0) 4 Tryz.underlying147 info32 rfl .i64 .i64 n (by omega) (by omega)
 have hr0 : IsRowU (w.alloc (.cells (madeCells #[.int .u32 0] n) 84)) w.heap.size n (fun _ => 0) := by
  show _ = _
  rw [← rowU_made]
  exact heap_alloc_new w _
 have HR0 := Lib.hid hr0
 have hb0 : Below w.heap.size w (w.alloc (.cells (madeCells #[.int .u32 0] n) 84)) := (Below.refl _ _).alloc (Nat.le_refl _) _
 have HB0 := Lib.hid hb0
 have hz := zero_table
 clear hL h15 hL1 hr0 hb0
 go_enter Tryz.func109, Tryz.ntmps109
 go_wp2_with (go_at_call 110; refine (HF.out).mono ?_; rintro e w' ⟨rfl, rfl⟩)
 refine (HFS.out).mono ?_; rintro e w1 ⟨rfl, hb1⟩
 have HR1 := Lib.hid (HR0.out.below hb1 HR0.out.lt)
 have HB1 := Lib.hid (HB0.out.trans (hb1.mono (by simp)))
 have HS1 := Lib.hid (Nat.lt_of_lt_of_le HR0.out.lt hb1.size)
 clear hb1 HFS hmk
 go_wp2_with (refine wpList_store_row rfl 198 (.tmp 7) (.tmp 24) rfl w1.heap.size (tab (firstN ls n)) rfl rfl 198 (tab fun _ => 0) (heap_alloc_new w1 _) (by rw [tab_size]; exact info_table) (by rw [tab_size, tab_size]) (tab_one _) ?_)
 have ht : IsTab ((w1.alloc (.cells (tab fun _ => 0) 198)).setRow w1.heap.size (tab (firstN ls n))) w1.heap.size (firstN ls n) := setRow_heap _ _ _ (tab (firstN ls n)) _ _ (heap_alloc_new w1 _)
 have HI : Hid (IsRowU ((w1.alloc (.cells (tab fun _ => 0) 198)).setRow w1.heap.size (tab (firstN ls n))) w.heap.size n (fun i => if i < 0 then wordN ls n i else 0) ∧ IsTab ((w1.alloc (.cells (tab fun _ => 0) 198)).setRow w1.heap.size (tab (firstN ls n))) w1.heap.size (fun l => firstN ls n l + (if l = 0 then 0 else cntN ls l 0)) ∧ Below w.heap.size w ((w1.alloc (.cells (tab fun _ => 0) 198)).setRow w1.heap.size (tab (firstN ls n)))) :=
  ⟨((HR1.out.alloc _).setRow_other _ _ (Nat.ne_of_lt HS1.out)).ext (fun i _ => by rw [if_neg (by omega)]), ht.ext (fun l _ => by simp [cntN]), below_setRow (below_alloc HB1.out _) (Nat.le_of_lt HS1.out) _⟩
 generalize (w1.alloc (.cells (tab fun _ => 0) 198)).setRow w1.heap.size (tab (firstN ls n)) = W2 at *
 generalize w1.heap.size = gn at *
 clear ht HR1 HB1 hz
 go_wp2
 go_loopw [27] (fun i wr => ∃ k : Nat, k ≤ n ∧ i = .int .i64 k ∧ IsRowU wr w.heap.size n (fun i => if i < k then wordN ls n i else 0) ∧ IsTab wr gn (fun l => firstN ls n l + (if l = 0 then 0 else cntN ls l k)) ∧ Below w.heap.size w wr) (fun i _ => n - (intOf i).toNat)
 case atStart => exact ⟨0, Nat.zero_le _, rfl, HI.out⟩
 case round =>
  obtain ⟨k, hk, rfl, hr, ht, hb⟩ := hrel
  have HR := Lib.hid hr
  have HT := Lib.hid ht
  have HB := Lib.hid hb
  by_cases hlt : k < n
  ·obtain ⟨b, off, rfl, hbl, hc⟩ := HL.out (by omega)
   have hcell := (hb.cell (p := ⟨b, off + k, none⟩) hbl).trans (hc k hlt).1
   have hl := H15.out k hlt
   have hsm := HSM.out (ls k) hl
   by_cases h0 : ls k = 0
   ·have HW0 : Hid (wordN ls n k = 0) := if_pos h0
    have hext : ∀ l, l < 16 → firstN ls n l + (if l = 0 then 0 else cntN ls l k) = firstN ls n l + (if l = 0 then 0 else cntN ls l (k + 1)) := fun l _ => by
     by_cases e : l = 0
     ·rw [if_pos e, if_pos e]
     ·rw [if_neg e, if_neg e, cntN, if_neg (by omega)]
      rfl
    have HEXT := Lib.hid hext
    rw [h0] at hcell
    clear hr ht hb hc hsm hext
    go_wp2
    go_roundw
    case rel =>
     refine ⟨k + 1, by omega, by go_num, HR.out.ext (fun i _ => ?_), HT.out.ext HEXT.out, HB.out⟩
     by_cases e : i < k
     ·rw [if_pos e, if_pos (by omega)]
     ·by_cases e2 : i = k
      ·subst e2
       rw [if_neg e, if_pos (by omega), HW0.out]
      ·rw [if_neg e, if_neg (by omega)]
    case measure => simp [intOf]; omega
   ·have hm := cntN_mono ls (ls k) k (n - k)
    rw [show k + (n - k) = n by omega] at hm
    have hcw := ht.cell (ls k) (by omega)
    simp only [if_neg h0] at hcw hsm
    have hft := ht.frozen (ls k)
    have HW : Hid (wordN ls n k = firstN ls n (ls k) + cntN ls (ls k) k) := if_neg h0
    have hrc := hr.cell k hlt
    have hrf := hr.frozen k
    have HSR := Lib.hid (fun x => hr.set k x hlt)
    have HST := Lib.hid (fun (w2 : World) (h : IsTab w2 gn (fun l => firstN ls n l + (if l = 0 then 0 else cntN ls l k))) x => h.set (ls k) x (by omega))
    have hext : ∀ l, l < 16 → (if l = ls k then firstN ls n (ls k) + cntN ls (ls k) k + 1 else firstN ls n l + (if l = 0 then 0 else cntN ls l k)) = firstN ls n l + (if l = 0 then 0 else cntN ls l (k + 1)) := fun l _ => by
     by_cases e : l = ls k
     ·subst e
      rw [if_pos rfl, if_neg h0, cntN, if_pos rfl]
      omega
     ·rw [if_neg e]
      by_cases e0 : l = 0
      ·rw [if_pos e0, if_pos e0]
      ·rw [if_neg e0, if_neg e0, cntN, if_neg (fun h => e h.symm)]
       rfl
    have HEXT := Lib.hid hext
    have hgne : w.heap.size ≠ gn := Nat.ne_of_lt HS1.out
    have hcw2 : (wr.setCell ⟨w.heap.size, k, none⟩ (.int .u32 (firstN ls n (ls k) + cntN ls (ls k) k : Nat))).cell? ⟨gn, ls k, none⟩ = some (.int .u32 (firstN ls n (ls k) + cntN ls (ls k) k : Nat)) := by
     rw [World.cell?_setCell_other _ _ _ _ (by intro h; injection h with h; exact hgne h)]
     exact hcw
    clear hr ht hb hc hext
    generalize hll : ls k = l at *
    generalize hx : firstN ls n l + cntN ls l k = x at *
    have HX := Lib.hid hx
    have hx32 : x ≤ 32768 := by omega
    clear hsm hm hx hll
    go_wp2
    go_roundw
    case rel =>
     refine ⟨k + 1, by omega, by go_num, ?_, ?_, (HB.out.setCell (Nat.le_refl _) _).setCell (Nat.le_of_lt HS1.out) _⟩
     ·refine ((HSR.out x).other _ _ hgne).ext (fun i _ => ?_)
      by_cases e : i = k
      ·subst e
       rw [if_pos rfl, if_pos (by omega), HW.out]
      ·rw [if_neg e]
       by_cases e2 : i < k
       ·rw [if_pos e2, if_pos (by omega)]
       ·rw [if_neg e2, if_neg (by omega)]
     ·exact (HST.out _ (HT.out.other _ _ (fun e => hgne e.symm)) (x + 1)).ext HEXT.out
    case measure => simp [intOf]; omega
  ·obtain rfl : k = n := by omega
   clear hr ht hb
   go_wp2
   go_ret2
   exact ⟨rfl, HR.out.ext (fun i hi => by rw [if_pos hi]), HB.out⟩
end Go.Proofs.YtmkeicfklbepnaaGreat
