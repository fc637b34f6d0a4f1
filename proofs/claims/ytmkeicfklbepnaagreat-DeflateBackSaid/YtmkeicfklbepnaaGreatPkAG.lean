/-
 The document's Words: texts of 0 and 1.
 Put of a code; New of an open code that is none.
 The document's New, of codes.
 Texts of 0 and 1: what the document's Sign compares.
 Contracts: the document's writer: Write, Align, Bytes.
-/
import Derived.Test.YtmkeicfklbepnaaGreatPkAF
import Derived.Test.YtmkeicfklbepnaaGreatPkAE

namespace Go.Proofs.YtmkeicfklbepnaaGreat
set_option maxRecDepth 100000
open Go.RowKit Go.Deep Go.Joins

/-- The lowest k bits of a number as a text of 0 and 1, the highest first. -/
def tx (v : Nat) : Nat → ByteArray
 | 0 => text []
 | k + 1 => text [48 + v / 2 ^ k % 2] ++ tx v k
theorem tx_size (v : Nat) : ∀ k, (tx v k).size = k
 | 0 => rfl
 | k + 1 => by
  rw [tx, ByteArray.size_append, text_size, tx_size v k]
  simp
  omega

/-- A row of texts. -/
def rowS (n : Nat) (f : Nat → ByteArray) : Array Value := ((List.range n).map fun i => Value.string (f i)).toArray
theorem rowS_size (n : Nat) (f : Nat → ByteArray) : (rowS n f).size = n := by simp [rowS]
theorem rowS_at (n : Nat) (f : Nat → ByteArray) (i : Nat) (hi : i < n) : (rowS n f)[i]? = some (.string (f i)) := by
 unfold rowS
 simp [List.getElem?_range hi]
theorem rowS_ext (n : Nat) (f g : Nat → ByteArray) (h : ∀ i, i < n → f i = g i) : rowS n f = rowS n g := by
 unfold rowS
 congr 1
 apply List.map_congr_left
 intro i hi
 rw [h i (by simpa using hi)]
theorem rowS_set (n : Nat) (f : Nat → ByteArray) (k : Nat) (x : ByteArray) (hk : k < n) : (rowS n f).setIfInBounds k (.string x) = rowS n (fun i => if i = k then x else f i) := by
 apply Array.ext_getElem?
 intro i
 rw [Array.getElem?_setIfInBounds, rowS_size]
 by_cases hi : i < n
 ·by_cases h : k = i
  ·subst h
   rw [if_pos rfl, if_pos hi, rowS_at _ _ _ hi, if_pos rfl]
  ·rw [if_neg h, rowS_at _ _ _ hi, rowS_at _ _ _ hi, if_neg (fun e => h e.symm)]
 ·have hn : ∀ g : Nat → ByteArray, (rowS n g)[i]? = none := fun g => by rw [Array.getElem?_eq_none_iff, rowS_size]; omega
  rw [hn, hn]
  by_cases h : k = i
  ·rw [if_pos h, if_neg (by omega)]
  ·rw [if_neg h]
theorem rowS_made (n : Nat) : madeCells #[.string ⟨#[]⟩] n = rowS n (fun _ => text []) := by
 apply Array.ext'
 rw [toList_madeCells_one]
 unfold rowS
 rw [List.map_const', List.length_range]
 rfl
theorem infoS : (Tryz.prog.info? 9).map (fun i => (i.zero, i.size, i.bytes)) = some (some (.string ⟨#[]⟩), 1, 16) := by kernel_rfl
/-- A block that is such a row. -/
def IsRowS (w : World) (g n : Nat) (f : Nat → ByteArray) : Prop := w.heap[g]? = some (.cells (rowS n f) 9 (0, 0))
section
variable {w w' : World} {g n : Nat} {f : Nat → ByteArray}
theorem IsRowS.cell (h : IsRowS w g n f) (i : Nat) (hi : i < n) : w.cell? ⟨g, i, none⟩ = some (.string (f i)) := by
 rw [cell_of_row w g i _ _ _ h, rowS_at n f i hi]
theorem IsRowS.frozen (h : IsRowS w g n f) (i : Nat) : w.frozen? ⟨g, i, none⟩ = false := frozen_of_row w g i _ _ h
theorem IsRowS.lt (h : IsRowS w g n f) : g < w.heap.size := by
 rcases Nat.lt_or_ge g w.heap.size with hlt | hge
 ·exact hlt
 ·unfold IsRowS at h; rw [Array.getElem?_eq_none hge] at h; cases h
theorem IsRowS.set (h : IsRowS w g n f) (k : Nat) (x : ByteArray) (hk : k < n) : IsRowS (w.setCell ⟨g, k, none⟩ (.string x)) g n (fun i => if i = k then x else f i) := by
 have e := heap_setCell_same w g k _ _ (.string x) h
 rw [rowS_set n f k x hk] at e
 exact e
theorem IsRowS.below {B : Nat} (h : IsRowS w g n f) (hb : Below B w w') (hg : g < B) : IsRowS w' g n f := (hb.block g hg).trans h
theorem IsRowS.alloc (h : IsRowS w g n f) (o : Obj) : IsRowS (w.alloc o) g n f := (Below.heap_alloc w o g h.lt).trans h
theorem IsRowS.ext {f' : Nat → ByteArray} (h : IsRowS w g n f) (e : ∀ i, i < n → f i = f' i) : IsRowS w g n f' := by
 unfold IsRowS at *
 rw [← rowS_ext n f f' e]
 exact h
end

/-- What the document's Words knows at length l, at sign i: the next word's number. -/
def AtW (ls : Nat → Nat) (n l i : Nat) (fst : Bool) (a was : Nat) : Prop :=
 (fst = true ∧ firstN ls n l + cntN ls l i = 0) ∨ (fst = false ∧ was ≤ l ∧ (a + 1) * 2 ^ (l - was) = firstN ls n l + cntN ls l i)
theorem AtW.next {ls : Nat → Nat} {n l a was : Nat} {fst : Bool} (h : AtW ls n l n fst a was) (h1 : 1 ≤ l) : AtW ls n (l + 1) 0 fst a was := by
 have e : firstN ls n (l + 1) + cntN ls (l + 1) 0 = (firstN ls n l + cntN ls l n) * 2 := by rw [firstN, if_neg (by omega)]; rfl
 rcases h with ⟨hf, h0⟩ | ⟨hf, hw, h0⟩
 ·exact .inl ⟨hf, by rw [e, h0]⟩
 ·refine .inr ⟨hf, by omega, ?_⟩
  rw [e, ← h0, show l + 1 - was = (l - was) + 1 by omega, Nat.pow_succ, Nat.mul_assoc]
theorem AtW.skip {ls : Nat → Nat} {n l i a was : Nat} {fst : Bool} (h : AtW ls n l i fst a was) (hi : ls i ≠ l) : AtW ls n l (i + 1) fst a was := by
 have e : cntN ls l (i + 1) = cntN ls l i := by rw [cntN, if_neg hi]; rfl
 unfold AtW at *
 rw [e]
 exact h
theorem AtW.take {ls : Nat → Nat} {n l i : Nat} (hi : ls i = l) : AtW ls n l (i + 1) false (firstN ls n l + cntN ls l i) l := by
 refine .inr ⟨rfl, Nat.le_refl _, ?_⟩
 rw [cntN, if_pos hi, Nat.sub_self, Nat.pow_zero, Nat.mul_one, Nat.add_assoc]
/-- The words that are laid down by then. -/
def fw (ls : Nat → Nat) (n l i j : Nat) : ByteArray := if ls j < l ∨ (ls j = l ∧ j < i) then tx (wordN ls n j) (ls j) else text []
theorem fw_none (ls : Nat → Nat) (n j : Nat) : text [] = fw ls n 1 0 j := by
 unfold fw
 by_cases h : ls j < 1
 ·rw [if_pos (.inl h), show ls j = 0 by omega]
  rfl
 ·rw [if_neg (by omega)]
theorem fw_next (ls : Nat → Nat) (n l j : Nat) (hj : j < n) : fw ls n l n j = fw ls n (l + 1) 0 j := by
 unfold fw
 by_cases h : ls j < l + 1
 ·rw [if_pos (by omega), if_pos (by omega)]
 ·rw [if_neg (by omega), if_neg (by omega)]
theorem fw_skip (ls : Nat → Nat) (n l i j : Nat) (hi : ls i ≠ l) : fw ls n l i j = fw ls n l (i + 1) j := by
 unfold fw
 by_cases h : j = i
 ·subst h
  by_cases h2 : ls j < l
  ·rw [if_pos (.inl h2), if_pos (.inl h2)]
  ·rw [if_neg (by omega), if_neg (by omega)]
 ·by_cases h2 : ls j < l ∨ (ls j = l ∧ j < i)
  ·rw [if_pos h2, if_pos (by omega)]
  ·rw [if_neg h2, if_neg (by omega)]
theorem fw_take (ls : Nat → Nat) (n l i j : Nat) (hi : ls i = l) (h1 : 1 ≤ l) : (if j = i then tx (firstN ls n l + cntN ls l i) l else fw ls n l i j) = fw ls n l (i + 1) j := by
 unfold fw
 by_cases h : j = i
 ·subst h
  rw [if_pos rfl, if_pos (by omega), hi]
  unfold wordN
  rw [if_neg (by omega), hi]
 ·rw [if_neg h]
  by_cases h2 : ls j < l ∨ (ls j = l ∧ j < i)
  ·rw [if_pos h2, if_pos (by omega)]
  ·rw [if_neg h2, if_neg (by omega)]
theorem fw_all (ls : Nat → Nat) (n j : Nat) (h : ls j ≤ 15) : fw ls n 16 0 j = tx (wordN ls n j) (ls j) := by
 unfold fw
 rw [if_pos (by omega)]

theorem rwords_many (A : Option Addr) (n cap : Nat) (h : 4096 < n) (w : World) :
  Calls Tryz.prog 43 #[.slice A n cap] w fun e w' => e = .returned (.tuple #[.slice none 0 0, .int .i64 6]) ∧ w = w' := by
 have HF := Lib.hid (rfill_many A n cap h w)
 go_enter Tryz.func43, Tryz.ntmps43
 go_wp2_with fail
 refine (HF.out).mono ?_; rintro e w' ⟨rfl, rfl⟩
 go_wp2
 go_ret2
 exact ⟨rfl, rfl⟩
theorem rwords_over (A : Option Addr) (n cap : Nat) (ls : Nat → Nat) (hn : n ≤ 4096) (w : World) (hL : Lens w A n ls) (h15 : ∀ i, i < n → ls i ≤ 15) (hf : 32768 < fillN ls n) :
  Calls Tryz.prog 43 #[.slice A n cap] w fun e w' => e = .returned (.tuple #[.slice none 0 0, .int .i64 10]) ∧ w = w' := by
 have HF := Lib.hid (rfill_ok A n cap ls hn w hL h15)
 have hfl := fillN_le ls n
 generalize fillN ls n = F at *
 go_enter Tryz.func43, Tryz.ntmps43
 go_wp2_with fail
 refine (HF.out).mono ?_; rintro e w' ⟨rfl, rfl⟩
 go_wp2
 go_ret2
 exact ⟨rfl, rfl⟩

set_option maxHeartbeats 4000000 in
theorem rwords_ok (A : Option Addr) (n cap : Nat) (ls : Nat → Nat) (hn : n ≤ 4096) (w : World) (hL : Lens w A n ls) (h15 : ∀ i, i < n → ls i ≤ 15) (hf : fillN ls n ≤ 32768) :
  Calls Tryz.prog 43 #[.slice A n cap] w fun e w' => e = .returned (.tuple #[.slice (some ⟨w.heap.size, 0, none⟩) n n, .int .i64 0]) ∧ IsRowS w' w.heap.size n (fun i => tx (wordN ls n i) (ls i)) ∧ Below w.heap.size w w' := by
 have HF := Lib.hid (rfill_ok A n cap ls hn w hL h15)
 have HL := Lib.hid hL
 have H15 := Lib.hid h15
 have HLT := Lib.hid (fun l hl => firstN_lt ls n h15 hf l hl)
 have hmk := run_make_row' (P := Tryz.prog) 64 9 (.string ⟨#[]⟩) 16 Tryz.underlying64 infoS rfl .i64 .i64 n (by omega) (by omega)
 have hr0 : IsRowS (w.alloc (.cells (madeCells #[.string ⟨#[]⟩] n) 9)) w.heap.size n (fun _ => text []) := by
  show _ = _
  rw [← rowS_made]
  exact heap_alloc_new w _
 have HI : Hid (IsRowS (w.alloc (.cells (madeCells #[.string ⟨#[]⟩] n) 9)) w.heap.size n (fw ls n 1 0) ∧ Below w.heap.size w (w.alloc (.cells (madeCells #[.string ⟨#[]⟩] n) 9))) :=
  ⟨hr0.ext (fun j _ => fw_none ls n j), (Below.refl _ _).alloc (Nat.le_refl _) _⟩
 have HA : Hid (AtW ls n 1 0 true 0 0) := .inl ⟨rfl, rfl⟩
 clear hL h15 hr0
 generalize fillN ls n = F at *
 go_enter Tryz.func43, Tryz.ntmps43
 go_wp2_with fail
 refine (HF.out).mono ?_; rintro e w' ⟨rfl, rfl⟩
 go_wp2_with fail
 generalize w.alloc (.cells (madeCells #[.string ⟨#[]⟩] n) 9) = W1 at *
 clear hmk HF
 go_loopw [10, 7, 8, 9] (fun x y z u wr => ∃ l a was fst, 1 ≤ l ∧ l ≤ 16 ∧ x = .int .i64 (l : Nat) ∧ y = .int .u32 (a : Nat) ∧ z = .int .i64 (was : Nat) ∧ u = .bool fst ∧ a < 32768 ∧ was ≤ 15 ∧ AtW ls n l 0 fst a was ∧ IsRowS wr w.heap.size n (fw ls n l 0) ∧ Below w.heap.size w wr) (fun x _ _ _ _ => 16 - (intOf x).toNat)
 case atStart => exact ⟨1, 0, 0, true, Nat.le_refl _, by omega, rfl, rfl, rfl, rfl, by omega, by omega, HA.out, HI.out.1, HI.out.2⟩
 case round =>
  obtain ⟨l, a, was, fst, h1, h16, rfl, rfl, rfl, rfl, ha, hwas, hat, hr, hb⟩ := hrel
  have HAT := Lib.hid hat
  have HR := Lib.hid hr
  have HB := Lib.hid hb
  clear hat hr hb
  by_cases hl : l ≤ 15
  ·have hl15 : decide ((l : Int) ≤ 15) = true := decide_eq_true (by omega)
   have hlt := HLT.out (l - 1) (by omega)
   rw [show l - 1 + 1 = l by omega] at hlt
   have hp15 : 2 ^ l ≤ 32768 := Nat.pow_le_pow_right (n := 2) (by omega) (show l ≤ 15 from hl)
   have HN := Lib.hid (show ∀ i, i < n → ls i = l → firstN ls n l + cntN ls l i + 1 ≤ 2 ^ l from fun i hi he => by
    have hm := cntN_mono ls l (i + 1) (n - (i + 1))
    rw [show i + 1 + (n - (i + 1)) = n by omega, cntN, if_pos he] at hm
    omega)
   go_wp2_with fail
   go_loopw [35, 7, 8, 9] (fun x y z u wr => ∃ i a was fst, i ≤ n ∧ x = .int .i64 (i : Nat) ∧ y = .int .u32 (a : Nat) ∧ z = .int .i64 (was : Nat) ∧ u = .bool fst ∧ a < 32768 ∧ was ≤ 15 ∧ AtW ls n l i fst a was ∧ IsRowS wr w.heap.size n (fw ls n l i) ∧ Below w.heap.size w wr) (fun x _ _ _ _ => n - (intOf x).toNat)
   case atStart => exact ⟨0, a, was, fst, Nat.zero_le _, rfl, rfl, rfl, rfl, ha, hwas, HAT.out, HR.out, HB.out⟩
   case round =>
    clear HAT HR HB ha hwas
    obtain ⟨i, a2, was2, fst2, hi, rfl, rfl, rfl, rfl, ha, hwas, hat, hr, hb⟩ := hrel
    have HAT := Lib.hid hat
    have HR := Lib.hid hr
    have HB := Lib.hid hb
    by_cases hin : i < n
    ·obtain ⟨b, off, rfl, hbl, hc⟩ := HL.out (by omega)
     have hcell := (hb.cell (p := ⟨b, off + i, none⟩) hbl).trans (hc i hin).1
     have hli := H15.out i hin
     have hN := HN.out i hin
     clear hc hat hr hb
     by_cases he : ls i = l
     ·have HE := Lib.hid he
      have HTK : Hid (AtW ls n l (i + 1) false (firstN ls n l + cntN ls l i) l) := AtW.take he
      have HFT := Lib.hid (fun j => fw_take ls n l i j he h1)
      have hNl := hN he
      rw [he] at hcell
      clear hN he
      generalize hnn : firstN ls n l + cntN ls l i = N at *
      have HNN := Lib.hid hnn
      clear hnn
      cases fst2
      ·have hat2 : was2 ≤ l ∧ (a2 + 1) * 2 ^ (l - was2) = N := by
        rcases HAT.out with ⟨h, _⟩ | ⟨_, h, h2⟩
        ·cases h
        ·exact ⟨h, h2.trans HNN.out⟩
       obtain ⟨hwl, hpw⟩ := hat2
       have HPW := Lib.hid hpw
       clear hpw
       go_wp2_with fail
       go_loop [7, 12] (fun y k => ∃ d : Nat, was2 + d ≤ l ∧ k = .int .i64 ((was2 + d : Nat)) ∧ y = .int .u32 ((a2 + 1) * 2 ^ d : Nat)) (fun _ k => l - (intOf k).toNat)
       case atStart => exact ⟨0, by omega, rfl, by simp⟩
       case round =>
        obtain ⟨d, hd, rfl, rfl⟩ := hrel
        have hpl : (a2 + 1) * 2 ^ d ≤ N := by
         rw [← HPW.out]
         exact Nat.mul_le_mul_left _ (Nat.pow_le_pow_right (by omega) (by omega))
        by_cases hdl : was2 + d < l
        ·have HS : Hid ((a2 + 1) * 2 ^ (d + 1) = (a2 + 1) * 2 ^ d * 2) := by show _ = _; rw [Nat.pow_succ, Nat.mul_assoc]
         generalize (a2 + 1) * 2 ^ d = y at *
         go_wp2
         go_round
         case rel => exact ⟨d + 1, by omega, by go_num, by rw [HS.out]; go_num⟩
         case measure => simp [intOf]; omega
        ·have hdd : d = l - was2 := by omega
         have HY : Hid ((a2 + 1) * 2 ^ d = N) := by show _ = _; rw [hdd, HPW.out]
         rw [HY.out]
         clear hpl
         go_wp2_with fail
         go_loopw [13, 14, 15] (fun s v k wr => ∃ q : Nat, q ≤ l ∧ k = .int .i64 (q : Nat) ∧ s = .string (tx N q) ∧ v = .int .u32 (N / 2 ^ q : Nat) ∧ IsRowS wr w.heap.size n (fw ls n l i) ∧ Below w.heap.size w wr) (fun _ _ k _ => l - (intOf k).toNat)
         case atStart => exact ⟨0, Nat.zero_le _, rfl, rfl, by simp, HR.out, HB.out⟩
         case round =>
          obtain ⟨q, hq, rfl, rfl, rfl, hr, hb⟩ := hrel
          by_cases hql : q < l
          ·have hsz := tx_size N q
           have HTX : Hid (tx N (q + 1) = text [48 + N / 2 ^ q % 2] ++ tx N q) := rfl
           have HDV : Hid (N / 2 ^ (q + 1) = N / 2 ^ q / 2) := by show _ = _; rw [Nat.pow_succ, Nat.div_div_eq_div_mul]
           have hle : N / 2 ^ q ≤ N := Nat.div_le_self _ _
           have HR3 := Lib.hid hr
           have HB3 := Lib.hid hb
           clear hr hb
           generalize N / 2 ^ q = v at *
           generalize tx N q = T at *
           obtain ⟨v2, hv2⟩ : ∃ v2, v / 2 = v2 := ⟨_, rfl⟩
           have htd : (v : Int).tdiv 2 = (v2 : Int) := by rw [Int.tdiv_eq_ediv_of_nonneg (by omega)]; omega
           have hed : (v : Int) / 2 = (v2 : Int) := by omega
           have hv2b : v2 ≤ 32768 := by omega
           have hwd : IntKind.u32.wrap (v2 : Int) = v2 := by rw [IntKind.wrap_u32]; omega
           have hwd2 : IntKind.u32.wrap ((v : Int).tdiv 2) = v2 := by rw [htd, hwd]
           have HV2 := Lib.hid hv2
           clear hv2
           rcases Nat.mod_two_eq_zero_or_one v with hb2 | hb2
           ·have htm : (v : Int).tmod 2 = 0 := by rw [Int.tmod_eq_emod_of_nonneg (by omega)]; omega
            have h1c := one_convert wr 48 (by decide)
            rw [show ((48 : Nat) : Int) = 48 from rfl] at h1c
            have hs1 : (text [48]).size = 1 := rfl
            rw [hb2] at HTX
            generalize htt : text [48] = T1 at *
            have HTT := Lib.hid htt
            have HB2 := Lib.hid hb2
            clear htt hb2
            go_wp2_with fail
            go_roundw
            case rel => exact ⟨q + 1, by omega, by go_num, by rw [HTX.out, ← HTT.out], by rw [HDV.out, HV2.out], HR3.out.alloc _, below_alloc HB3.out _⟩
            case measure => simp [intOf]; omega
           ·have htm : (v : Int).tmod 2 = 1 := by rw [Int.tmod_eq_emod_of_nonneg (by omega)]; omega
            have h1c := one_convert wr 49 (by decide)
            rw [show ((49 : Nat) : Int) = 49 from rfl] at h1c
            have hs1 : (text [49]).size = 1 := rfl
            rw [hb2] at HTX
            generalize htt : text [49] = T1 at *
            have HTT := Lib.hid htt
            have HB2 := Lib.hid hb2
            clear htt hb2
            go_wp2_with fail
            go_roundw
            case rel => exact ⟨q + 1, by omega, by go_num, by rw [HTX.out, ← HTT.out], by rw [HDV.out, HV2.out], HR3.out.alloc _, below_alloc HB3.out _⟩
            case measure => simp [intOf]; omega
          ·obtain rfl : q = l := by omega
           have hrf := hr.frozen i
           have HST := Lib.hid (hr.set i (tx N q) hin)
           have hrc := hr.cell i hin
           have HB4 := Lib.hid (hb.setCell (p := ⟨w.heap.size, i, none⟩) (Nat.le_refl _) (.string (tx N q)))
           have hsz := tx_size N q
           clear hr hb
           generalize tx N q = T at *
           generalize N / 2 ^ q = v at *
           go_wp2_with fail
           go_roundw
           case rel => exact ⟨i + 1, N, q, false, by omega, by go_num, rfl, rfl, rfl, by omega, by omega, HTK.out, HST.out.ext (fun j _ => HFT.out j), HB4.out⟩
           case measure => simp [intOf]; omega
      ·have hn0 : N = 0 := by
        rcases HAT.out with ⟨_, h⟩ | ⟨h, _⟩
        ·rw [← HNN.out]; exact h
        ·cases h
       have HN0 := Lib.hid hn0
       clear hn0
       go_wp2_with fail
       go_loopw [13, 14, 15] (fun s v k wr => ∃ q : Nat, q ≤ l ∧ k = .int .i64 (q : Nat) ∧ s = .string (tx N q) ∧ v = .int .u32 (N / 2 ^ q : Nat) ∧ IsRowS wr w.heap.size n (fw ls n l i) ∧ Below w.heap.size w wr) (fun _ _ k _ => l - (intOf k).toNat)
       case atStart => exact ⟨0, Nat.zero_le _, rfl, rfl, by rw [HN0.out]; rfl, HR.out, HB.out⟩
       case round =>
        obtain ⟨q, hq, rfl, rfl, rfl, hr, hb⟩ := hrel
        by_cases hql : q < l
        ·have hsz := tx_size N q
         have HTX : Hid (tx N (q + 1) = text [48 + N / 2 ^ q % 2] ++ tx N q) := rfl
         have HDV : Hid (N / 2 ^ (q + 1) = N / 2 ^ q / 2) := by show _ = _; rw [Nat.pow_succ, Nat.div_div_eq_div_mul]
         have hle : N / 2 ^ q ≤ N := Nat.div_le_self _ _
         have HR3 := Lib.hid hr
         have HB3 := Lib.hid hb
         clear hr hb
         generalize N / 2 ^ q = v at *
         generalize tx N q = T at *
         obtain ⟨v2, hv2⟩ : ∃ v2, v / 2 = v2 := ⟨_, rfl⟩
         have htd : (v : Int).tdiv 2 = (v2 : Int) := by rw [Int.tdiv_eq_ediv_of_nonneg (by omega)]; omega
         have hed : (v : Int) / 2 = (v2 : Int) := by omega
         have hv2b : v2 ≤ 32768 := by omega
         have hwd : IntKind.u32.wrap (v2 : Int) = v2 := by rw [IntKind.wrap_u32]; omega
         have hwd2 : IntKind.u32.wrap ((v : Int).tdiv 2) = v2 := by rw [htd, hwd]
         have HV2 := Lib.hid hv2
         clear hv2
         rcases Nat.mod_two_eq_zero_or_one v with hb2 | hb2
         ·have htm : (v : Int).tmod 2 = 0 := by rw [Int.tmod_eq_emod_of_nonneg (by omega)]; omega
          have h1c := one_convert wr 48 (by decide)
          rw [show ((48 : Nat) : Int) = 48 from rfl] at h1c
          have hs1 : (text [48]).size = 1 := rfl
          rw [hb2] at HTX
          generalize htt : text [48] = T1 at *
          have HTT := Lib.hid htt
          have HB2 := Lib.hid hb2
          clear htt hb2
          go_wp2_with fail
          go_roundw
          case rel => exact ⟨q + 1, by omega, by go_num, by rw [HTX.out, ← HTT.out], by rw [HDV.out, HV2.out], HR3.out.alloc _, below_alloc HB3.out _⟩
          case measure => simp [intOf]; omega
         ·have htm : (v : Int).tmod 2 = 1 := by rw [Int.tmod_eq_emod_of_nonneg (by omega)]; omega
          have h1c := one_convert wr 49 (by decide)
          rw [show ((49 : Nat) : Int) = 49 from rfl] at h1c
          have hs1 : (text [49]).size = 1 := rfl
          rw [hb2] at HTX
          generalize htt : text [49] = T1 at *
          have HTT := Lib.hid htt
          have HB2 := Lib.hid hb2
          clear htt hb2
          go_wp2_with fail
          go_roundw
          case rel => exact ⟨q + 1, by omega, by go_num, by rw [HTX.out, ← HTT.out], by rw [HDV.out, HV2.out], HR3.out.alloc _, below_alloc HB3.out _⟩
          case measure => simp [intOf]; omega
        ·obtain rfl : q = l := by omega
         have hrf := hr.frozen i
         have HST := Lib.hid (hr.set i (tx N q) hin)
         have hrc := hr.cell i hin
         have HB4 := Lib.hid (hb.setCell (p := ⟨w.heap.size, i, none⟩) (Nat.le_refl _) (.string (tx N q)))
         have hsz := tx_size N q
         clear hr hb
         generalize tx N q = T at *
         generalize N / 2 ^ q = v at *
         go_wp2_with fail
         go_roundw
         case rel => exact ⟨i + 1, 0, q, false, by omega, by go_num, rfl, rfl, rfl, by omega, by omega, by have h := HTK.out; rw [HN0.out] at h; exact h, HST.out.ext (fun j _ => HFT.out j), HB4.out⟩
         case measure => simp [intOf]; omega
     ·have HSK := Lib.hid (HAT.out.skip he)
      have HFS := Lib.hid (fun j => fw_skip ls n l i j he)
      generalize ls i = li at *
      have g1 : ¬ (li : Int) = (l : Int) := by omega
      have g2 : decide ((li : Int) = (l : Int)) = false := decide_eq_false g1
      have g3 : ((li : Int) == (l : Int)) = false := by rw [beq_eq_false_iff_ne]; exact g1
      clear hN HAT
      go_wp2_with fail
      go_roundw
      case rel => exact ⟨i + 1, a2, was2, fst2, by omega, by go_num, rfl, rfl, rfl, ha, hwas, HSK.out, HR.out.ext (fun j _ => HFS.out j), HB.out⟩
      case measure => simp [intOf]; omega
    ·obtain rfl : i = n := by omega
     have HNX := Lib.hid (hat.next h1)
     clear hat hr hb
     go_wp2_with fail
     go_roundw
     case rel => exact ⟨l + 1, a2, was2, fst2, by omega, by omega, by go_num, rfl, rfl, rfl, ha, hwas, HNX.out, HR.out.ext (fun j hj => fw_next ls i l j hj), HB.out⟩
     case measure => simp [intOf]; omega
  ·obtain rfl : l = 16 := by omega
   go_wp2_with fail
   go_ret2
   exact ⟨rfl, HR.out.ext (fun j hj => fw_all ls n j (H15.out j hj)), HB.out⟩
end Go.Proofs.YtmkeicfklbepnaaGreat

namespace Go.Proofs.YtmkeicfklbepnaaGreat
set_option maxRecDepth 100000
open Go.RowKit Go.Joins

set_option maxRecDepth 100000 in
set_option maxHeartbeats 4000000 in
theorem new_open_no (A : Option Addr) (n cap : Nat) (ls : Nat → Nat) (hn : n ≤ 4096) (w : World) (hL : Lens w A n ls) (h15 : ∀ i, i < n → ls i ≤ 15) (hf : fillN ls n < 32768) (hs : 1 < sumN ls n) :
  Calls Tryz.prog 96 #[.slice A n cap, .bool true] w fun e w' => e = .returned (.tuple #[.pointer none, .int .i64 10]) ∧ Below w.heap.size w w' := by
 have HW := Lib.hid (words_ok A n cap ls hn w hL h15 (by omega))
 have HF := Lib.hid (fun w' (h : Below w.heap.size w w') => fill_ok A n cap ls hn w' (hL.below (Nat.le_refl _) h) h15)
 have HO := Lib.hid (fun w' (h : Below w.heap.size w w') => open_any A n cap ls hn w' (hL.below (Nat.le_refl _) h) h15)
 have hd1 : decide (sumN ls n ≤ 1) = false := decide_eq_false (by omega)
 rw [hd1] at HO
 clear hL h15 hs hd1
 go_enter Tryz.func96, Tryz.ntmps96
 go_wp2_with fail
 refine (HW.out).mono ?_; rintro e w1 ⟨rfl, hr1, hb1⟩
 have HB1 := Lib.hid hb1
 have hd2 : decide ((fillN ls n : Int) < 32768) = true := decide_eq_true (by omega)
 clear hr1 hb1 HW
 generalize fillN ls n = F at *
 go_wp2_with (first | (go_at_call 110; refine (HF.out _ HB1.out).mono ?_; rintro e w' ⟨rfl, rfl⟩) | (go_at_call 111; refine (HO.out _ HB1.out).mono ?_; rintro e w' ⟨rfl, rfl⟩))
 go_ret2
 exact ⟨rfl, HB1.out⟩

theorem put_no (B g bm n mx k gw : Nat) (ls W : Nat → Nat) (hk : k < n) (hl : ls k = 0) (w : World) (hcd : Cd0 w B g bm ls W n mx) :
  Calls Tryz.prog 83 #[.pointer (some ⟨g, 0, none⟩), .pointer (some ⟨gw, 0, none⟩), .int .i64 (k : Nat)] w fun e w' => e = .returned (.int .i64 2) ∧ w = w' := by
 have HL := Lib.hid (length_any B g bm n mx k ls W hk (by omega) w hcd)
 rw [hl] at HL
 clear hcd
 go_enter Tryz.func83, Tryz.ntmps83
 go_wp2_with (go_at_call 101; refine (HL.out).mono ?_; rintro e w1 ⟨rfl, rfl⟩)
 go_ret
 exact ⟨rfl, rfl⟩

set_option maxRecDepth 100000 in
set_option maxHeartbeats 4000000 in
theorem put_ok (B g bm n mx k Bw gw M L : Nat) (r : Option Nat) (ls W : Nat → Nat) (hk : k < n) (hl1 : 1 ≤ ls k) (hl15 : ls k ≤ 15) (hW : W k < 4294967296) (hL : L ≤ 900000000) (w : World) (hB : Bw ≤ w.heap.size) (hcd : Cd0 w B g bm ls W n mx) (hw : Wr w Bw gw r M L) :
  Calls Tryz.prog 83 #[.pointer (some ⟨g, 0, none⟩), .pointer (some ⟨gw, 0, none⟩), .int .i64 (k : Nat)] w fun e w' => e = .returned (.int .i64 0) ∧ ∃ r', Wr w' Bw gw r' (M + rev (W k) (ls k) * 2 ^ L) (L + ls k) ∧ Upd gw r r' w w' := by
 have HLN := Lib.hid (length_any B g bm n mx k ls W hk (by omega) w hcd)
 have HT := Lib.hid (turn_ok (W k) (ls k) hW hl1 (by omega) w)
 have hrl := rev_lt (W k) (ls k)
 have hr32 : rev (W k) (ls k) < 4294967296 := Nat.lt_of_lt_of_le hrl (Nat.pow_le_pow_right (n := 2) (by omega) (show ls k ≤ 32 by omega))
 have hwr := write_any Bw gw r M L (rev (W k) (ls k)) ((ls k : Nat) : Int) (by omega) hr32 w hB hw
 have e1 : wM M L (rev (W k) (ls k)) ((ls k : Nat) : Int) = M + rev (W k) (ls k) * 2 ^ L := by
  unfold wM
  rw [if_pos (by omega), Int.toNat_natCast, Nat.mod_eq_of_lt hrl]
 have e2 : wL L ((ls k : Nat) : Int) = L + ls k := by
  unfold wL
  rw [if_pos (by omega), Int.toNat_natCast]
 rw [e1, e2] at hwr
 have HWR := Lib.hid hwr
 obtain ⟨A, c, hb0, ho, _⟩ := hcd
 have k0 : w.cell? ⟨g, 0, none⟩ = some (.slice A n c) := by rw [cell_of_row w g 0 _ _ _ hb0]; rfl
 clear hb0 e1 e2 hwr hw hrl hr32
 rcases ho.2 with ⟨h0, _⟩ | ⟨g2, cap2, cur, h0, hg2, hb2, h3⟩
 ·injection h0 with _ e _
  omega
 ·have k1 : w.cell? ⟨g2, k * 2 + 1, none⟩ = some (.int .u32 (W k : Nat)) := by
   rw [cell_of_row w g2 (k * 2 + 1) _ _ _ hb2, ← (wcells_at ls W n k hk).2, ← h3.2.2.2, List.getElem?_take_of_lt (by omega), Array.getElem?_toList]
  clear hb2 h3
  generalize ls k = l at *
  have hl0 : ((l : Int) == 0) = false := by rw [beq_eq_false_iff_ne]; omega
  go_enter Tryz.func83, Tryz.ntmps83
  go_wp2_with (first | (go_at_call 101; refine (HLN.out).mono ?_; rintro e w1 ⟨rfl, rfl⟩) | (go_at_call 102; refine (HT.out).mono ?_; rintro e w1 ⟨rfl, rfl⟩) | (go_at_call 52; refine (HWR.out).mono ?_; rintro e w1 ⟨rfl, hw1⟩))
  go_ret
  exact ⟨rfl, hw1⟩
end Go.Proofs.YtmkeicfklbepnaaGreat

namespace Go.Proofs.YtmkeicfklbepnaaGreat
set_option maxRecDepth 100000
open Go.RowKit Go.Deep Go.Joins

theorem sumN_ge (ls : Nat → Nat) (k : Nat) : ∀ n, k < n → ls k ≤ sumN ls n
 | 0, h => by omega
 | n + 1, h => by
  rw [sumN]
  by_cases e : k = n
  ·subst e
   omega
  ·have := sumN_ge ls k n (by omega)
   omega
theorem sumN_le1 (ls : Nat → Nat) : ∀ n, (∀ j, j < n → ls j ≤ 1) → sumN ls n ≤ n
 | 0, _ => Nat.le_refl _
 | n + 1, h => by
  rw [sumN]
  have := sumN_le1 ls n (fun j hj => h j (by omega))
  have := h n (by omega)
  omega

theorem rnew_err (A : Option Addr) (n cap : Nat) (open_ : Bool) (x : Int) (hx : x ≠ 0) (w : World) (h : Calls Tryz.prog 43 #[.slice A n cap] w fun e w' => e = .returned (.tuple #[.slice none 0 0, .int .i64 x]) ∧ w = w') :
  Calls Tryz.prog 24 #[.slice A n cap, .bool open_] w fun e w' => e = .returned (.tuple #[.slice none 0 0, .int .i64 x]) ∧ w = w' := by
 have H := Lib.hid h
 have hx' : (x == 0) = false := by rw [beq_eq_false_iff_ne]; exact hx
 clear h
 go_enter Tryz.func24, Tryz.ntmps24
 go_wp2_with fail
 refine (H.out).mono ?_; rintro e w' ⟨rfl, rfl⟩
 go_wp2
 go_ret2
 exact ⟨rfl, rfl⟩

theorem rnew_whole (A : Option Addr) (n cap : Nat) (open_ : Bool) (ls : Nat → Nat) (hn : n ≤ 4096) (w : World) (hL : Lens w A n ls) (h15 : ∀ i, i < n → ls i ≤ 15) (hf : fillN ls n = 32768) :
  Calls Tryz.prog 24 #[.slice A n cap, .bool open_] w fun e w' => e = .returned (.tuple #[.slice (some ⟨w.heap.size, 0, none⟩) n n, .int .i64 0]) ∧ IsRowS w' w.heap.size n (fun i => tx (wordN ls n i) (ls i)) ∧ Below w.heap.size w w' := by
 have HW := Lib.hid (rwords_ok A n cap ls hn w hL h15 (by omega))
 have HF := Lib.hid (fun w' (h : Below w.heap.size w w') => rfill_ok A n cap ls hn w' (hL.below (Nat.le_refl _) h) h15)
 rw [hf] at HF
 clear hL h15 hf
 go_enter Tryz.func24, Tryz.ntmps24
 go_wp2_with fail
 refine (HW.out).mono ?_; rintro e w1 ⟨rfl, hr, hb⟩
 have HR := Lib.hid hr
 have HB := Lib.hid hb
 clear hr hb
 go_wp2_with fail
 refine (HF.out w1 HB.out).mono ?_; rintro e w' ⟨rfl, rfl⟩
 go_wp2
 go_ret2
 exact ⟨rfl, HR.out, HB.out⟩

theorem rnew_part (A : Option Addr) (n cap : Nat) (ls : Nat → Nat) (hn : n ≤ 4096) (w : World) (hL : Lens w A n ls) (h15 : ∀ i, i < n → ls i ≤ 15) (hf : fillN ls n < 32768) :
  Calls Tryz.prog 24 #[.slice A n cap, .bool false] w fun e w' => e = .returned (.tuple #[.slice none 0 0, .int .i64 10]) ∧ Below w.heap.size w w' := by
 have HW := Lib.hid (rwords_ok A n cap ls hn w hL h15 (by omega))
 have HF := Lib.hid (fun w' (h : Below w.heap.size w w') => rfill_ok A n cap ls hn w' (hL.below (Nat.le_refl _) h) h15)
 generalize fillN ls n = F at *
 have hne : ((F : Int) == 32768) = false := by rw [beq_eq_false_iff_ne]; omega
 clear hL h15
 go_enter Tryz.func24, Tryz.ntmps24
 go_wp2_with fail
 refine (HW.out).mono ?_; rintro e w1 ⟨rfl, hr, hb⟩
 have HB := Lib.hid hb
 clear hr hb
 go_wp2_with fail
 refine (HF.out w1 HB.out).mono ?_; rintro e w' ⟨rfl, rfl⟩
 go_wp2
 go_ret2
 exact ⟨rfl, HB.out⟩

set_option maxHeartbeats 2000000 in
theorem rnew_open (A : Option Addr) (n cap : Nat) (ls : Nat → Nat) (hn : n ≤ 4096) (w : World) (hL : Lens w A n ls) (h15 : ∀ i, i < n → ls i ≤ 15) (hf : fillN ls n < 32768)
  (V : Value) (E : Int) (hv : (sumN ls n ≤ 1 ∧ V = .slice (some ⟨w.heap.size, 0, none⟩) n n ∧ E = 0) ∨ (¬ sumN ls n ≤ 1 ∧ V = .slice none 0 0 ∧ E = 10)) :
  Calls Tryz.prog 24 #[.slice A n cap, .bool true] w fun e w' => e = .returned (.tuple #[V, .int .i64 E]) ∧ Hid (sumN ls n ≤ 1 → IsRowS w' w.heap.size n (fun i => tx (wordN ls n i) (ls i))) ∧ Below w.heap.size w w' := by
 have HW := Lib.hid (rwords_ok A n cap ls hn w hL h15 (by omega))
 have HF := Lib.hid (fun w' (h : Below w.heap.size w w') => rfill_ok A n cap ls hn w' (hL.below (Nat.le_refl _) h) h15)
 have HL := Lib.hid (fun w' (h : Below w.heap.size w w') => hL.below (Nat.le_refl _) h)
 have HG := Lib.hid (fun k (h : k < n) => sumN_ge ls k n h)
 have HS1 := Lib.hid (fun k => sumN_le1 ls k)
 have HV := Lib.hid hv
 clear hv
 generalize fillN ls n = F at *
 have hne : ((F : Int) == 32768) = false := by rw [beq_eq_false_iff_ne]; omega
 clear hL h15
 go_enter Tryz.func24, Tryz.ntmps24
 go_wp2_with fail
 refine (HW.out).mono ?_; rintro e w1 ⟨rfl, hr, hb⟩
 have HR := Lib.hid hr
 have HB := Lib.hid hb
 have HL1 := Lib.hid (HL.out w1 hb)
 clear hr hb
 go_wp2_with fail
 refine (HF.out w1 HB.out).mono ?_; rintro e w' ⟨rfl, rfl⟩
 go_wp2_with fail
 go_loop [10, 33] (fun x i => ∃ k : Nat, k ≤ n ∧ i = .int .i64 (k : Nat) ∧ x = .int .i64 (sumN ls k : Nat) ∧ ∀ j, j < k → ls j ≤ 1) (fun _ i => n - (intOf i).toNat)
 case atStart => exact ⟨0, Nat.zero_le _, rfl, rfl, fun j hj => by omega⟩
 case round =>
  obtain ⟨k, hk, rfl, rfl, hall⟩ := hrel
  have hsk := HS1.out k hall
  have HALL := Lib.hid hall
  clear hall
  by_cases hlt : k < n
  ·obtain ⟨b, off, rfl, hbl, hc⟩ := HL1.out (by omega)
   have hcell := (hc k hlt).1
   have hge := HG.out k hlt
   have HSS : Hid (sumN ls (k + 1) = sumN ls k + ls k) := rfl
   clear hc
   by_cases h2 : 1 < ls k
   ·have HN : Hid (¬ sumN ls n ≤ 1) := by show ¬ _; omega
    generalize ls k = l at *
    generalize sumN ls k = s at *
    go_wp2_with fail
    go_ret2
    rcases HV.out with ⟨h, _, _⟩ | ⟨_, rfl, rfl⟩
    ·exact absurd h HN.out
    ·exact ⟨rfl, Lib.hid (fun _ => HR.out), HB.out⟩
   ·have HLK : Hid (ls k ≤ 1) := by show _ ≤ _; omega
    have HJ : Hid (∀ j, j < k + 1 → ls j ≤ 1) := fun j hj => by
     by_cases e : j = k
     ·subst e; exact HLK.out
     ·exact HALL.out j (by omega)
    by_cases h1 : ls k = 1
    ·rw [h1] at hcell HSS
     generalize sumN ls k = s at *
     clear hge h2 h1
     go_wp2_with fail
     go_round
     case rel => exact ⟨k + 1, by omega, by go_num, by rw [HSS.out]; go_num, HJ.out⟩
     case measure => simp [intOf]; omega
    ·have h0 : ls k = 0 := by omega
     rw [h0] at hcell HSS
     generalize sumN ls k = s at *
     clear hge h2 h1 h0
     go_wp2_with fail
     go_round
     case rel => exact ⟨k + 1, by omega, by go_num, by rw [HSS.out]; rfl, HJ.out⟩
     case measure => simp [intOf]; omega
  ·obtain rfl : k = n := by omega
   by_cases h1 : sumN ls k ≤ 1
   ·have HE : Hid (V = .slice (some ⟨w.heap.size, 0, none⟩) k k ∧ E = 0) := by
     rcases HV.out with ⟨_, h⟩ | ⟨h, _⟩
     ·exact h
     ·exact absurd h1 h
    obtain ⟨rfl, rfl⟩ := HE.out
    have g0 : ¬ 1 < sumN ls k := by omega
    generalize sumN ls k = s at *
    have g1 : decide (1 < s) = false := decide_eq_false g0
    have g2 : decide ((1 : Int) < (s : Int)) = false := decide_eq_false (by omega)
    clear HV h1
    go_wp2_with fail
    go_ret2
    exact ⟨rfl, Lib.hid (fun _ => HR.out), HB.out⟩
   ·have HE : Hid (V = .slice none 0 0 ∧ E = 10) := by
     rcases HV.out with ⟨h, _⟩ | ⟨_, h⟩
     ·exact absurd h h1
     ·exact h
    obtain ⟨rfl, rfl⟩ := HE.out
    have g0 : 1 < sumN ls k := by omega
    generalize sumN ls k = s at *
    have g1 : (1 : Int) < (s : Int) := by omega
    have g2 : decide (1 < s) = true := decide_eq_true g0
    clear HV h1
    go_wp2_with fail
    go_ret2
    exact ⟨rfl, Lib.hid (fun _ => HR.out), HB.out⟩
end Go.Proofs.YtmkeicfklbepnaaGreat

namespace Go.Proofs.YtmkeicfklbepnaaGreat
set_option maxRecDepth 100000
open Go.RowKit Go.Deep Go.Joins

theorem nums_tx (v : Nat) : ∀ k, nums (tx v (k + 1)) = (48 + v / 2 ^ k % 2) :: nums (tx v k) := fun k => by
 have h : 48 + v / 2 ^ k % 2 < 256 := by omega
 rw [tx]
 unfold nums text
 simp
 omega
end Go.Proofs.YtmkeicfklbepnaaGreat

namespace Go.Proofs.YtmkeicfklbepnaaGreat
set_option maxRecDepth 100000
open Go.RowKit Go.Joins

/-- The lowest k bits of a number, one by one. -/
def bl (M : Nat) : Nat → List Nat
 | 0 => []
 | k + 1 => bl M k ++ [M / 2 ^ k % 2]
end Go.Proofs.YtmkeicfklbepnaaGreat
