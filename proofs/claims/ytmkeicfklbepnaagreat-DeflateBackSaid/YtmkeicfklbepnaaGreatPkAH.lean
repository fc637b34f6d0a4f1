/-
 Contracts: the document's writer: Bytes and Done.
 The document's Put.
 Contracts: the document's reader.
 The document's Sign.
 A whole code: any bits begin with a word.
 No word begins another one: what is put is read again.
 The walk of BitsTurns: it returns true, whatever the bits, the count and the place.
 What is put, as one number: a word behind the other.
 The program's Sign and the document's answer alike, by any code that New lets be; Length and Put of any int.
-/
import Derived.Test.YtmkeicfklbepnaaGreatPkAG
import Derived.Deep.CutBlock
import Derived.Deep.DeepCutAuto
import Derived.Test.YtmkeicfklbepnaaGreatPkAD
import Derived.Deep.DeepMust
import Derived.Test.YtmkeicfklbepnaaGreatPkAF
import Derived.Test.YtmkeicfklbepnaaGreatPkAE

namespace Go.Proofs.YtmkeicfklbepnaaGreat
set_option maxRecDepth 100000
open Go.RowKit Go.Joins

end Go.Proofs.YtmkeicfklbepnaaGreat

namespace Go.Proofs.YtmkeicfklbepnaaGreat
set_option maxRecDepth 100000
open Go.RowKit Go.Deep Go.Joins

theorem tx_get (v : Nat) : ∀ l i, i < l → (nums (tx v l))[i]? = some (48 + v / 2 ^ (l - 1 - i) % 2)
 | 0, i, h => by omega
 | l + 1, 0, _ => by rw [nums_tx]; rfl
 | l + 1, i + 1, h => by
  rw [nums_tx, List.getElem?_cons_succ, tx_get v l i (by omega), show l + 1 - 1 - (i + 1) = l - 1 - i by omega]
theorem tx_at (v l i : Nat) (h : i < (tx v l).size) : (tx v l)[i].toNat = 48 + v / 2 ^ (l - 1 - i) % 2 := by
 have h2 := h
 rw [tx_size] at h2
 have e := nums_get (tx v l) i h
 rw [tx_get v l i h2] at e
 injection e with e
 exact e.symm
end Go.Proofs.YtmkeicfklbepnaaGreat

namespace Go.Proofs.YtmkeicfklbepnaaGreat
set_option maxRecDepth 100000
open Go.RowKit Go.Joins

theorem rbit_any (s : ByteArray) (a : Nat) (hs : s.size ≤ 1000000) (ha : a < 8 * s.size) (w : World) :
  Calls Tryz.prog 73 #[.string s, .int .i64 a] w fun r w' => r = .returned (.int .u32 (bitsAt (num s) a 1 : Nat)) ∧ w = w' := by
 have h8 : a / 8 < s.size := by omega
 have HB := Lib.hid (bit_of_byte s a h8)
 have hq : (a : Int).tdiv 8 = (a / 8 : Nat) := by rw [Int.tdiv_eq_ediv_of_nonneg (by omega)]; omega
 have hm : (a : Int).tmod 8 = (a % 8 : Nat) := by rw [Int.tmod_eq_emod_of_nonneg (by omega)]; omega
 have hr : a % 8 < 8 := Nat.mod_lt _ (by omega)
 have hx := s[a / 8].toNat_lt
 generalize hxx : s[a / 8].toNat = x at *
 have HX := Lib.hid hxx
 generalize a / 8 = q at *
 generalize a % 8 = r at *
 have hxx : s[q].toNat = x := HX.out
 go_enter Tryz.func73, Tryz.ntmps73
 go_wp2
 go_loop [5, 6] (fun b i => ∃ k : Nat, k ≤ r ∧ i = .int .i64 k ∧ b = .int .i64 (x / 2 ^ k : Nat)) (fun _ i => r - (intOf i).toNat)
 case atStart => exact ⟨0, Nat.zero_le _, rfl, by simp⟩
 case round =>
  obtain ⟨k, hk, rfl, rfl⟩ := hrel
  have hy : x / 2 ^ k < 256 := Nat.lt_of_le_of_lt (Nat.div_le_self _ _) hx
  have HS : Hid (x / 2 ^ k / 2 = x / 2 ^ (k + 1)) := by show _ = _; rw [Nat.div_div_eq_div_mul, Nat.pow_succ]
  by_cases hlt : k < r
  ·generalize x / 2 ^ k = y at *
   have hd : (y : Int).tdiv 2 = (y / 2 : Nat) := by rw [Int.tdiv_eq_ediv_of_nonneg (by omega)]; omega
   go_wp2
   go_round
   case rel => exact ⟨k + 1, by omega, by go_num, by rw [← HS.out]; go_num⟩
   case measure => simp [intOf]; omega
  ·obtain rfl : k = r := by omega
   generalize hyy : x / 2 ^ k = y at *
   have HY := Lib.hid hyy
   have hd : (y : Int).tmod 2 = (y % 2 : Nat) := by rw [Int.tmod_eq_emod_of_nonneg (by omega)]; omega
   clear hyy
   go_wp2
   go_ret
   exact ⟨ret_eq (by rw [← HB.out]; go_num), rfl⟩

theorem rnumber_any (g : Nat) (s : ByteArray) (a e m : Nat) (hs : s.size ≤ 1000000) (ha : a + m ≤ 8 * s.size) (hm : m ≤ 32) (w : World) (hc : Rd 57 w g s a e) :
  Calls Tryz.prog 71 #[.pointer (some ⟨g, 0, none⟩), .int .i64 m] w fun r w' => r = .returned (.int .u32 (bitsAt (num s) a m : Nat)) ∧ ∃ d, w' = w.drewN d := by
 have c0 := hc.c0
 have c1 := hc.c1
 clear hc
 have HBit := Lib.hid (fun k (hk : k < m) w => rbit_any s (a + k) hs (by omega) w)
 have HV := Lib.hid (fun k => bitsAt_succ (num s) a k)
 have HVl := Lib.hid (fun k (hk : k ≤ 32) => bitsAt_lt32 (num s) a k hk)
 have HVp := Lib.hid (fun k => bitsAt_lt (num s) a k)
 have HV0 := Lib.hid (bitsAt_zero (num s) a)
 have HB1 := Lib.hid (fun k => bitsAt_lt (num s) (a + k) 1)
 go_enter Tryz.func71, Tryz.ntmps71
 go_wp2
 go_loopw [5, 6, 7] (fun v x i wr => ∃ k d : Nat, k ≤ m ∧ i = .int .i64 k ∧ v = .int .u32 (bitsAt (num s) a k : Nat) ∧ x = .int .u32 (2 ^ k % 4294967296 : Nat) ∧ wr = w.drewN d) (fun _ _ i _ => m - (intOf i).toNat)
 case atStart => exact ⟨0, 0, Nat.zero_le _, rfl, by rw [HV0.out]; rfl, rfl, rfl⟩
 case round =>
  obtain ⟨k, d, hk, rfl, rfl, rfl, hwd⟩ := hrel
  have c0' : wr.cell? ⟨g, 0, none⟩ = some (.string s) := by rw [hwd]; exact c0
  have c1' : wr.cell? ⟨g, 1, none⟩ = some (.int .i64 a) := by rw [hwd]; exact c1
  have HWD := Lib.hid hwd
  clear hwd
  by_cases hlt : k < m
  ·have hak : IntKind.i64.wrap ((a : Int) + (k : Int)) = (a : Int) + (k : Int) := by rw [IntKind.wrap_i64]; omega
   have hb := HBit.out k hlt
   have hv := HV.out k
   have hvl := HVl.out (k + 1) (by omega)
   have hvk := HVl.out k (by omega)
   have hb1 := HB1.out k
   have hp : 2 ^ k % 4294967296 = 2 ^ k := Nat.mod_eq_of_lt (Nat.lt_of_le_of_lt (Nat.pow_le_pow_right (n := 2) (by omega) (show k ≤ 31 by omega)) (by decide))
   have hp2 : 2 ^ k ≤ 2147483648 := Nat.pow_le_pow_right (n := 2) (by omega) (show k ≤ 31 by omega)
   have hn : 2 ^ (k + 1) % 4294967296 = 2 ^ k * 2 % 4294967296 := by rw [Nat.pow_succ]
   rw [hp]
   rw [hv] at hvl
   have HN := Lib.hid hn
   have HVK := Lib.hid hv
   clear hp hn hv
   generalize bitsAt (num s) a k = V at *
   generalize bitsAt (num s) (a + k) 1 = b at *
   generalize 2 ^ k = p at *
   have hbb : b = 0 ∨ b = 1 := by omega
   obtain ⟨t, htt, htl⟩ : ∃ t, p * b = t ∧ V + t < 4294967296 := ⟨p * b, rfl, hvl⟩
   have ht1 : ((p : Int) * (b : Int)) = (t : Int) := by rw [← htt]; simp
   have ht2 : (t : Int) % 4294967296 = t := by omega
   have ht3 : ((V : Int) + (t : Int)) % 4294967296 = (V : Int) + (t : Int) := by omega
   have HTT := Lib.hid htt
   have HBC := Lib.hid hb
   clear hb hbb hvl htt
   go_wp2
   go_quiet ((go_at_call 73; exact Calls.quiet_of_same ((HBC.out _).mono fun _ _ h => ⟨h.1, h.2.symm⟩)))
   go_wp2
   go_roundw
   case rel => exact ⟨k + 1, d + nq, by omega, by go_num, by rw [HVK.out, HTT.out]; rfl, by rw [HN.out]; rfl, by rw [HWD.out, World.drewN_drewN]⟩
   case measure => simp [intOf]; omega
  ·obtain rfl : k = m := by omega
   go_wp2
   go_ret
   exact ⟨rfl, _, HWD.out⟩

theorem rread_any (g : Nat) (s : ByteArray) (a e : Nat) (n : Int) (hs : s.size ≤ 1000000) (ha : a ≤ 8 * s.size) (w : World) (hc : Rd 57 w g s a e) :
  Calls Tryz.prog 41 #[.pointer (some ⟨g, 0, none⟩), .int .i64 n] w fun r w' => r = .returned (.int .u32 (bitsAt (num s) a (readM s a e n) : Nat)) ∧ Rd 57 w' g s (a + readM s a e n) (readE s a e n) ∧ w.grownBy w' (some g) := by
 have HC := Lib.hid hc
 have c0 := hc.c0
 have c1 := hc.c1
 have c2 := hc.c2
 have f1 := hc.fr 1
 have f2 := hc.fr 2
 by_cases he : e = 0
 ·subst he
  by_cases h0 : n < 0 ∨ 32 < n
  ·have HM : Hid (readM s a 0 n = 0) := if_neg (by omega)
   have HE : Hid (readE s a 0 n = 2) := by
    show _ = _
    unfold readE
    rw [if_neg (by omega), if_pos h0]
   clear hc
   rcases h0 with h0 | h0
   ·go_enter Tryz.func41, Tryz.ntmps41
    go_wp2
    go_ret
    rw [HM.out, HE.out, bitsAt_zero, Nat.add_zero]
    exact ⟨rfl, HC.out.setErr 2, grown_set _ g 2 _⟩
   ·go_enter Tryz.func41, Tryz.ntmps41
    go_wp2
    go_ret
    rw [HM.out, HE.out, bitsAt_zero, Nat.add_zero]
    exact ⟨rfl, HC.out.setErr 2, grown_set _ g 2 _⟩
  ·obtain ⟨m, rfl⟩ := Int.eq_ofNat_of_zero_le (show 0 ≤ n by omega)
   have h32 : m ≤ 32 := by omega
   have h0' : decide ((m : Int) < 0) = false := decide_eq_false (by omega)
   by_cases hl : m ≤ 8 * s.size - a
   ·have HM : Hid (readM s a 0 (m : Nat) = m) := if_pos ⟨rfl, by omega, by omega, by omega⟩
    have HE : Hid (readE s a 0 (m : Nat) = 0) := by
     show _ = _
     unfold readE
     rw [if_neg (by omega), if_neg (by omega), if_pos (by omega)]
    have hd : decide ((8 : Int) * s.size - a < m) = false := decide_eq_false (by omega)
    have HN := Lib.hid (fun d => rnumber_any g s a 0 m hs (by omega) h32 (w.drewN d) (hc.drewN d))
    clear hc h0
    go_enter Tryz.func41, Tryz.ntmps41
    go_wp2
    go_quiet (fail)
    go_wp2_with (go_at_call 71; refine (HN.out _).mono ?_; rintro r w' ⟨rfl, d, rfl⟩)
    go_ret
    rw [HM.out, HE.out]
    refine ⟨rfl, ?_, grown_then (grown_drewN w (nq + d) _) (grown_set _ g 1 _)⟩
    exact (HC.out.drewN (nq + d)).setAt (a + m)
   ·have HM : Hid (readM s a 0 (m : Nat) = 0) := if_neg (by omega)
    have HE : Hid (readE s a 0 (m : Nat) = 3) := by
     show _ = _
     unfold readE
     rw [if_neg (by omega), if_neg (by omega), if_neg (by omega)]
    have hd : decide ((8 : Int) * s.size - a < m) = true := decide_eq_true (by omega)
    clear hc h0
    go_enter Tryz.func41, Tryz.ntmps41
    go_wp2
    go_quiet (fail)
    go_wp2
    go_ret
    rw [HM.out, HE.out, bitsAt_zero, Nat.add_zero]
    refine ⟨rfl, ?_, grown_then (grown_drewN w nq _) (grown_set _ g 2 _)⟩
    exact (HC.out.drewN nq).setErr 3
 ·have HM : Hid (readM s a e n = 0) := if_neg (by omega)
  have HE : Hid (readE s a e n = e) := if_pos he
  have he' : ((e : Int) == 0) = false := by rw [beq_eq_false_iff_ne]; omega
  clear hc he
  go_enter Tryz.func41, Tryz.ntmps41
  go_wp2
  go_ret
  rw [HM.out, HE.out, bitsAt_zero, Nat.add_zero]
  exact ⟨rfl, HC.out, World.grownBy.refl _ _⟩
end Go.Proofs.YtmkeicfklbepnaaGreat

namespace Go.Proofs.YtmkeicfklbepnaaGreat
set_option maxRecDepth 100000
open Go.RowKit Go.Deep Go.Joins

/-- No word of at most so many bits stands next. -/
def NoW (ls W : Nat → Nat) (n v k : Nat) : Prop := ∀ i, i < n → 1 ≤ ls i → ls i ≤ k → W i ≠ rev v (ls i)
/-- Some word begins with so many bits that stand next. -/
def Begins (ls W : Nat → Nat) (n v q : Nat) : Prop := ∃ i, i < n ∧ q < ls i ∧ W i / 2 ^ (ls i - q) = rev v q
/-- What the document's Sign answers. -/
def DSign (ls W : Nat → Nat) (n v many : Nat) (x : Int) (e l : Nat) : Prop :=
 (∃ i : Nat, x = (i : Nat) ∧ e = 0 ∧ i < n ∧ ls i = l ∧ 1 ≤ l ∧ l ≤ many ∧ W i = rev v l ∧ NoW ls W n v (l - 1)) ∨
 (x = -1 ∧ e = 3 ∧ l = 0 ∧ many ≤ 15 ∧ NoW ls W n v many ∧ Begins ls W n v many) ∨
 (x = -1 ∧ e = 10 ∧ l = 0 ∧ ((many ≤ 15 ∧ NoW ls W n v many ∧ ¬ Begins ls W n v many) ∨ (15 < many ∧ NoW ls W n v 15)))
/-- A text's length, behind a name (a match in a measure is taken apart by the walk). -/
def szOf (v : Value) : Nat := match v with | .string b => b.size | _ => 0
/-- What becomes of the document's Sign. -/
def SignOut (ls W : Nat → Nat) (n v many gr a : Nat) (s : ByteArray) (w : World) (e : Ending) (w' : World) : Prop :=
 ∃ (x : Int) (k l : Nat), e = .returned (.tuple #[.int .i64 x, .int .i64 k]) ∧ DSign ls W n v many x k l ∧ Rd 57 w' gr s (a + l) 0 ∧ w.grownBy w' (some gr)
end Go.Proofs.YtmkeicfklbepnaaGreat

namespace Go.Proofs.YtmkeicfklbepnaaGreat
set_option maxRecDepth 100000

theorem cnt_hit (ls : Nat → Nat) (l r : Nat) : ∀ n, r < cntN ls l n → ∃ i, i < n ∧ ls i = l ∧ cntN ls l i = r
 | 0, h => by simp [cntN] at h
 | n + 1, h => by
  by_cases e : r < cntN ls l n
  ·obtain ⟨i, h1, h2, h3⟩ := cnt_hit ls l r n e
   exact ⟨i, by omega, h2, h3⟩
  ·rw [cntN] at h
   by_cases h2 : ls n = l
   ·rw [if_pos h2] at h
    exact ⟨n, by omega, h2, by omega⟩
   ·rw [if_neg h2] at h
    omega
theorem cnt_zero (ls : Nat → Nat) (l : Nat) : ∀ n, (∀ i, i < n → ls i ≠ l) → cntN ls l n = 0
 | 0, _ => rfl
 | n + 1, h => by rw [cntN, cnt_zero ls l n (fun i hi => h i (by omega)), if_neg (h n (by omega))]
theorem find_some (ls W : Nat → Nat) (l x : Nat) (hl : l ≠ 0) : ∀ n i, i < n → ls i = l → W i = x → findW ls W l x n ≠ none
 | 0, i, h, _, _ => by omega
 | n + 1, i, h, h1, h2 => by
  rw [findW]
  by_cases e : ls n ≠ 0 ∧ ls n = l ∧ W n = x
  ·rw [if_pos e]
   simp
  ·rw [if_neg e]
   by_cases e2 : i = n
   ·subst e2
    exact absurd ⟨by omega, h1, h2⟩ e
   ·exact find_some ls W l x hl n i (by omega) h1 h2
theorem find_is (ls W : Nat → Nat) (l x : Nat) : ∀ n i, findW ls W l x n = some i → i < n ∧ ls i = l ∧ W i = x
 | 0, i, h => by simp [findW] at h
 | n + 1, i, h => by
  rw [findW] at h
  by_cases e : ls n ≠ 0 ∧ ls n = l ∧ W n = x
  ·rw [if_pos e] at h
   obtain rfl : n = i := by simpa using h
   exact ⟨by omega, e.2⟩
  ·rw [if_neg e] at h
   obtain ⟨h1, h2⟩ := find_is ls W l x n i h
   exact ⟨by omega, h2⟩
theorem no_word_ge (ls : Nat → Nat) (n v : Nat) : ∀ l, NoWord ls (wordN ls n) n v l → firstN ls n l + (if l = 0 then 0 else cntN ls l n) ≤ rev v l
 | 0, _ => Nat.zero_le _
 | l + 1, h => by
  have ih := no_word_ge ls n v l (fun k h1 h2 => h k h1 (by omega))
  have e1 : rev v (l + 1) = rev v l * 2 + v / 2 ^ l % 2 := rfl
  have e2 : firstN ls n (l + 1) = (firstN ls n l + (if l = 0 then 0 else cntN ls l n)) * 2 := rfl
  rw [if_neg (by omega)]
  by_cases hc : rev v (l + 1) < firstN ls n (l + 1) + cntN ls (l + 1) n
  ·exfalso
   obtain ⟨i, h1, h2, h3⟩ := cnt_hit ls (l + 1) (rev v (l + 1) - firstN ls n (l + 1)) n (by omega)
   refine find_some ls (wordN ls n) (l + 1) (rev v (l + 1)) (by omega) n i h1 h2 ?_ (h (l + 1) (by omega) (Nat.le_refl _))
   rw [wordN, if_neg (by omega), h2, h3]
   omega
  ·omega
theorem sumS_top (ls : Nat → Nat) (n mx : Nat) (h : ∀ i, i < n → ls i ≤ mx) : ∀ d, sumS ls n (mx + d) = sumS ls n mx
 | 0 => rfl
 | d + 1 => by rw [← Nat.add_assoc, sumS, cnt_zero ls (mx + d + 1) n (fun i hi => by have := h i hi; omega), sumS_top ls n mx h d, Nat.zero_mul, Nat.add_zero]
theorem whole_any (ls : Nat → Nat) (n v mx : Nat) (h15 : ∀ i, i < n → ls i ≤ 15) (hf : fillN ls n = 32768) (hm : ∀ i, i < n → ls i ≤ mx) (hmx : mx ≤ 15) : ¬ NoWord ls (wordN ls n) n v mx := fun hno => by
 have h1 := no_word_ge ls n v mx hno
 have h2 := sumS_top ls n mx hm (15 - mx)
 rw [show mx + (15 - mx) = 15 by omega, sumS_fill ls n h15, hf] at h2
 cases mx with
 | zero => rw [sumS] at h2; omega
 | succ m =>
  rw [if_neg (by omega)] at h1
  have h3 := firstN_sum ls n m (by omega)
  rw [sumS, ← h3, show 15 - (m + 1) = 14 - m by omega, ← Nat.add_mul] at h2
  have h4 := rev_lt v (m + 1)
  have h5 : (2 : Nat) ^ (m + 1) * 2 ^ (14 - m) = 32768 := by rw [← Nat.pow_add, show m + 1 + (14 - m) = 15 by omega]
  have h6 : (firstN ls n (m + 1) + cntN ls (m + 1) n) * 2 ^ (14 - m) < 2 ^ (m + 1) * 2 ^ (14 - m) := Nat.mul_lt_mul_of_pos_right (Nat.lt_of_le_of_lt h1 h4) (Nat.two_pow_pos _)
  rw [h5, ← h2] at h6
  omega
/-- The greatest length. -/
theorem max_le (ls : Nat → Nat) (n : Nat) (h15 : ∀ i, i < n → ls i ≤ 15) : (if n = 0 then 0 else maxN ls (n - 1)) ≤ 15 := by
 split
 ·omega
 ·obtain ⟨i, h1, h2⟩ := maxN_mem ls (n - 1)
  rw [← h2]
  exact h15 i (by omega)
theorem le_max (ls : Nat → Nat) (n i : Nat) (hi : i < n) : ls i ≤ (if n = 0 then 0 else maxN ls (n - 1)) := by
 rw [if_neg (by omega)]
 exact maxN_ge ls _ i (by omega)
end Go.Proofs.YtmkeicfklbepnaaGreat

namespace Go.Proofs.YtmkeicfklbepnaaGreat
set_option maxRecDepth 100000

/-- Behind a word's length the first words lie beyond it. -/
theorem first_beyond (ls : Nat → Nat) (n l : Nat) (hl : 1 ≤ l) : ∀ d, (firstN ls n l + cntN ls l n) * 2 ^ (d + 1) ≤ firstN ls n (l + (d + 1))
 | 0 => by
  rw [show l + (0 + 1) = l + 1 from rfl, firstN, if_neg (by omega)]
  omega
 | d + 1 => by
  have ih := first_beyond ls n l hl d
  rw [show l + (d + 1 + 1) = (l + (d + 1)) + 1 from rfl, firstN, Nat.pow_succ, ← Nat.mul_assoc]
  exact Nat.mul_le_mul_right 2 (Nat.le_trans ih (Nat.le_add_right _ _))
theorem cnt_lt (ls : Nat → Nat) (l : Nat) : ∀ n i, i < n → ls i = l → cntN ls l i < cntN ls l n
 | 0, i, h, _ => by omega
 | n + 1, i, h, e => by
  rw [cntN]
  by_cases h2 : i = n
  ·subst h2
   rw [if_pos e]
   omega
  ·have := cnt_lt ls l n i (by omega) e
   omega
theorem word_inj (ls : Nat → Nat) (n i p : Nat) (h : ls i = ls p) (h0 : ls p ≠ 0) (hw : wordN ls n i = wordN ls n p) : i = p := by
 rw [wordN, wordN, if_neg (by omega), if_neg h0, h] at hw
 rcases Nat.lt_trichotomy i p with h1 | h1 | h1
 ·have := cnt_lt ls (ls p) p i h1 h
  omega
 ·exact h1
 ·have := cnt_lt ls (ls p) i p h1 rfl
  omega
theorem sign_right (ls : Nat → Nat) (n v p mx many l e : Nat) (x : Int) (hp : p < n) (h1 : 1 ≤ ls p) (hv : rev v (ls p) = wordN ls n p) (hmx : ls p ≤ mx) (hmany : ls p ≤ many)
  (hs : SignIs ls (wordN ls n) n mx v many x e l) : x = (p : Nat) ∧ e = 0 ∧ l = ls p := by
 have hno : ∀ k, ls p ≤ k → ¬ NoWord ls (wordN ls n) n v k := fun k hk h =>
  find_some ls (wordN ls n) (ls p) (rev v (ls p)) (by omega) n p hp rfl hv.symm (h (ls p) h1 hk)
 rcases hs with ⟨i, rfl, rfl, hl1, _, _, hfi, hn⟩ | ⟨_, _, _, _, hn⟩ | ⟨_, _, _, _, hn⟩
 ·obtain ⟨hi, hli, hwi⟩ := find_is ls (wordN ls n) l _ n i hfi
  rcases Nat.lt_trichotomy l (ls p) with h | h | h
  ·exfalso
   obtain ⟨d, hd⟩ : ∃ d, ls p = l + (d + 1) := ⟨ls p - l - 1, by omega⟩
   have a1 := first_beyond ls n l hl1 d
   have a2 := rev_div v (d + 1) l
   have a3 : firstN ls n (ls p) ≤ wordN ls n p := by
    rw [wordN, if_neg (by omega)]
    exact Nat.le_add_right _ _
   have a4 : wordN ls n i < firstN ls n l + cntN ls l n := by
    have := cnt_lt ls l n i hi hli
    rw [wordN, if_neg (by omega), hli]
    omega
   rw [← hd, hv] at a2
   rw [← hd] at a1
   have a5 : firstN ls n l + cntN ls l n ≤ wordN ls n p / 2 ^ (d + 1) := (Nat.le_div_iff_mul_le (Nat.two_pow_pos _)).2 (Nat.le_trans a1 a3)
   rw [a2, ← hwi] at a5
   omega
  ·subst h
   rw [hv] at hwi
   obtain rfl := word_inj ls n i p (by omega) (by omega) hwi
   exact ⟨rfl, rfl, rfl⟩
  ·exact absurd hn (hno _ (by omega))
 ·exact absurd hn (hno _ hmany)
 ·exact absurd hn (hno _ hmx)
end Go.Proofs.YtmkeicfklbepnaaGreat

namespace Go.Proofs.YtmkeicfklbepnaaGreat
open Go.RowKit Go.Joins

theorem rev_rev (v n : Nat) : rev (rev v n) n = v % 2 ^ n := by
 apply Nat.eq_of_testBit_eq
 intro i
 rw [rev_bit, rev_bit, Nat.testBit_mod_two_pow]
 by_cases h : i < n
 ·rw [show n - 1 - (n - 1 - i) = i by omega]
  simp [h, show n - 1 - i < n by omega]
 ·simp [h]
end Go.Proofs.YtmkeicfklbepnaaGreat

namespace Go.Proofs.YtmkeicfklbepnaaGreat
set_option maxRecDepth 100000

/-- The bits and how many they are, behind the first j of the signs q. -/
def btE (ls W q : Nat → Nat) : Nat → Nat × Nat
 | 0 => (0, 0)
 | j + 1 => ((btE ls W q j).1 + rev (W (q j)) (ls (q j)) * 2 ^ (btE ls W q j).2, (btE ls W q j).2 + ls (q j))
theorem rev_mod (v l : Nat) : rev v l = rev (v % 2 ^ l) l := by
 apply Nat.eq_of_testBit_eq
 intro i
 rw [rev_bit, rev_bit, Nat.testBit_mod_two_pow]
 by_cases h : i < l
 ·simp [h, show l - 1 - i < l by omega]
 ·simp [h]
theorem word_lt (ls : Nat → Nat) (n p : Nat) (h15 : ∀ i, i < n → ls i ≤ 15) (hf : fillN ls n ≤ 32768) (hp : p < n) (h1 : 1 ≤ ls p) : wordN ls n p < 2 ^ ls p := by
 have h2 := h15 p hp
 obtain ⟨l, hl⟩ : ∃ l, ls p = l + 1 := ⟨ls p - 1, by omega⟩
 have h3 := firstN_lt ls n h15 hf l (by omega)
 have h4 := cnt_lt ls (ls p) n p hp rfl
 rw [wordN, if_neg (by omega)]
 rw [hl] at h4 ⊢
 omega
end Go.Proofs.YtmkeicfklbepnaaGreat

namespace Go.Proofs.YtmkeicfklbepnaaGreat
open Go.RowKit Go.Joins

theorem word_lt0 (ls : Nat → Nat) (n : Nat) (h15 : ∀ i, i < n → ls i ≤ 15) (hf : fillN ls n ≤ 32768) (i : Nat) (hi : i < n) : wordN ls n i < 2 ^ ls i := by
 by_cases h : 1 ≤ ls i
 ·exact word_lt ls n i h15 hf hi h
 ·have h0 : ls i = 0 := by omega
  rw [wordN, if_pos h0, h0]
  decide
theorem noWord_of (ls W : Nat → Nat) (n v k : Nat) (h : NoW ls W n v k) : NoWord ls W n v k := fun l h1 h2 => by
 cases he : findW ls W l (rev v l) n with
 | none => rfl
 | some i =>
  obtain ⟨a, b, c⟩ := find_is ls W l _ n i he
  subst b
  exact absurd c (h i a h1 h2)
/-- Of a whole code, bits that are fewer than the longest word's and begin with no word begin one. -/
theorem begins_whole (ls : Nat → Nat) (n v mx q : Nat) (h15 : ∀ i, i < n → ls i ≤ 15) (hf : fillN ls n = 32768) (hm : ∀ i, i < n → ls i ≤ mx) (hmx : mx ≤ 15) (hno : NoWord ls (wordN ls n) n v q) : Begins ls (wordN ls n) n v q := by
 have h := whole_any ls n v mx h15 hf hm hmx
 have : ∃ l, 1 ≤ l ∧ l ≤ mx ∧ findW ls (wordN ls n) l (rev v l) n ≠ none := by
  apply Classical.byContradiction
  intro hc
  exact h fun l h1 h2 => Classical.byContradiction fun h3 => hc ⟨l, h1, h2, h3⟩
 obtain ⟨l, h1, h2, h3⟩ := this
 cases he : findW ls (wordN ls n) l (rev v l) n with
 | none => exact absurd he h3
 | some i =>
  obtain ⟨a, b, c⟩ := find_is ls _ l _ n i he
  by_cases hl : l ≤ q
  ·rw [hno l h1 hl] at he
   cases he
  ·subst b
   refine ⟨i, a, by omega, ?_⟩
   obtain ⟨d, hd⟩ : ∃ d, ls i = q + d := ⟨ls i - q, by omega⟩
   rw [c, hd, show q + d - q = d by omega, rev_div]
theorem begins_open (ls : Nat → Nat) (n v q : Nat) (h15 : ∀ i, i < n → ls i ≤ 15) (hs : sumN ls n ≤ 1) (hf : fillN ls n ≤ 32768) (hq : q < (if n = 0 then 0 else maxN ls (n - 1))) : Begins ls (wordN ls n) n v q := by
 by_cases h0 : n = 0
 ·rw [if_pos h0] at hq
  omega
 rw [if_neg h0] at hq
 obtain ⟨i, h1, h2⟩ := maxN_mem ls (n - 1)
 have h3 := sumN_ge ls i n (by omega)
 have h4 := word_lt0 ls n h15 hf i (by omega)
 have h5 : ls i = 1 := by omega
 have h6 : q = 0 := by omega
 subst h6
 rw [h5] at h4
 exact ⟨i, by omega, by omega, by rw [h5]; show wordN ls n i / 2 = 0; omega⟩
theorem length_int (B g bm n mx : Nat) (x : Int) (ls W : Nat → Nat) (hls : ∀ i, i < n → ls i < 256) (w : World) (hcd : Cd0 w B g bm ls W n mx) :
  Calls Tryz.prog 101 #[.pointer (some ⟨g, 0, none⟩), .int .i64 x] w fun e w' => e = .returned (.int .i64 (if 0 ≤ x ∧ x < n then (ls x.toNat : Int) else 0)) ∧ w = w' := by
 by_cases h : 0 ≤ x ∧ x < n
 ·obtain ⟨k, rfl⟩ := Int.eq_ofNat_of_zero_le h.1
  rw [if_pos h, Int.toNat_natCast]
  exact length_any B g bm n mx k ls W (by omega) (hls k (by omega)) w hcd
 ·rw [if_neg h]
  have HS := Lib.hid (signs_any B g bm n mx ls W w hcd)
  by_cases h0 : x < 0
  ·clear h hcd
   go_enter Tryz.func101, Tryz.ntmps101
   go_wp2_with (go_at_call 115; refine (HS.out).mono ?_; rintro e w' ⟨rfl, rfl⟩)
   go_ret
   exact ⟨rfl, rfl⟩
  ·have h1 : (n : Int) ≤ x := by omega
   clear h hcd
   go_enter Tryz.func101, Tryz.ntmps101
   go_wp2_with (go_at_call 115; refine (HS.out).mono ?_; rintro e w' ⟨rfl, rfl⟩)
   go_ret
   exact ⟨rfl, rfl⟩
theorem put_no_int (B g bm n mx gw : Nat) (x : Int) (ls W : Nat → Nat) (hls : ∀ i, i < n → ls i < 256) (hx : x < 0 ∨ (n : Int) ≤ x ∨ ∃ k : Nat, x = (k : Nat) ∧ k < n ∧ ls k = 0) (w : World) (hcd : Cd0 w B g bm ls W n mx) :
  Calls Tryz.prog 83 #[.pointer (some ⟨g, 0, none⟩), .pointer (some ⟨gw, 0, none⟩), .int .i64 x] w fun e w' => e = .returned (.int .i64 2) ∧ w = w' := by
 have HL := Lib.hid (length_int B g bm n mx x ls W hls w hcd)
 have e0 : (if 0 ≤ x ∧ x < n then (ls x.toNat : Int) else 0) = 0 := by
  by_cases h : 0 ≤ x ∧ x < n
  ·rw [if_pos h]
   rcases hx with h1 | h1 | ⟨k, rfl, _, h1⟩
   ·omega
   ·omega
   ·rw [Int.toNat_natCast, h1]
    rfl
  ·rw [if_neg h]
 rw [e0] at HL
 clear hcd hx e0
 go_enter Tryz.func83, Tryz.ntmps83
 go_wp2_with (go_at_call 101; refine (HL.out).mono ?_; rintro e w1 ⟨rfl, rfl⟩)
 go_ret
 exact ⟨rfl, rfl⟩
end Go.Proofs.YtmkeicfklbepnaaGreat
