/-
  The walk of BitsBack: it returns true, whatever the script.
-/
import Derived.Test.YtljekdnjdcfliaaBitsX
import Derived.Test.YtljekdnjdcfliaaBitsN
import Derived.Test.YtljekdnjdcfliaaActs
import Derived.Deep.RegionHeld3
import Derived.Deep.DeepCutAuto
import Derived.Deep.CutBlock
namespace Go.Proofs.Ytljekdnjdcfliaa
open Go.RowKit Go.Joins

/-- How many bits a number is written in. -/
def cnt (n : Int) : Nat := 1 + (n % 32).toNat
theorem cnt_wrap (n : Int) : wrap64 (1 + wrap64 ((IntKind.u64.wrap n).tmod 32)) = ((cnt n : Nat) : Int) := by
  rw [IntKind.wrap_u64, Int.tmod_eq_emod_of_nonneg (by omega)]
  unfold cnt wrap64
  omega
theorem cnt_le (n : Int) : 1 ≤ cnt n ∧ cnt n ≤ 32 := by unfold cnt; omega
/-- What has been written behind k calls: the bits as a number, and how many. -/
def st (f : Nat → Act) : Nat → Nat × Nat
  | 0 => (0, 0)
  | k + 1 => if (f k).D.tmod 2 = 0 then ((st f k).1 + (f k).V % 2 ^ cnt (f k).N * 2 ^ (st f k).2, (st f k).2 + cnt (f k).N)
      else ((st f k).1 + num (f k).S * 2 ^ up8 (st f k).2, up8 (st f k).2 + 8 * (f k).S.size)
theorem st_num (f : Nat → Act) (k : Nat) (h : (f k).D.tmod 2 = 0) : st f (k + 1) = ((st f k).1 + (f k).V % 2 ^ cnt (f k).N * 2 ^ (st f k).2, (st f k).2 + cnt (f k).N) := by rw [st, if_pos h]
theorem st_txt (f : Nat → Act) (k : Nat) (h : ¬ (f k).D.tmod 2 = 0) : st f (k + 1) = ((st f k).1 + num (f k).S * 2 ^ up8 (st f k).2, up8 (st f k).2 + 8 * (f k).S.size) := by rw [st, if_neg h]
theorem st_lt (f : Nat → Act) : ∀ k, (st f k).1 < 2 ^ (st f k).2
  | 0 => Nat.one_pos
  | k + 1 => by
    have ih := st_lt f k
    by_cases h : (f k).D.tmod 2 = 0
    · rw [st_num f k h]
      exact put_lt _ _ _ _ ih (Nat.mod_lt _ (Nat.two_pow_pos _))
    · rw [st_txt f k h]
      exact put_lt _ _ _ _ (Nat.lt_of_lt_of_le ih (Nat.pow_le_pow_right (by omega) (up8_ge _))) (num_lt _)
theorem st_mono1 (f : Nat → Act) (k : Nat) : (st f k).2 ≤ (st f (k + 1)).2 ∧ (st f (k + 1)).1 % 2 ^ (st f k).2 = (st f k).1 := by
  have ih := st_lt f k
  by_cases h : (f k).D.tmod 2 = 0
  · rw [st_num f k h]
    exact ⟨by show _ ≤ _ + _; omega, by show (_ + _ * 2 ^ _) % _ = _; rw [Nat.add_mul_mod_self_right, Nat.mod_eq_of_lt ih]⟩
  · rw [st_txt f k h]
    have hu := up8_ge (st f k).2
    refine ⟨by show _ ≤ _ + _; omega, ?_⟩
    show (_ + _ * 2 ^ _) % _ = _
    obtain ⟨d, hd⟩ : ∃ d, up8 (st f k).2 = (st f k).2 + d := ⟨_, (Nat.add_sub_cancel' hu).symm⟩
    rw [hd, Nat.pow_add, show num (f k).S * (2 ^ (st f k).2 * 2 ^ d) = (num (f k).S * 2 ^ d) * 2 ^ (st f k).2 from by ac_rfl, Nat.add_mul_mod_self_right, Nat.mod_eq_of_lt ih]
theorem st_mono (f : Nat → Act) (k : Nat) : ∀ d, (st f k).2 ≤ (st f (k + d)).2 ∧ (st f (k + d)).1 % 2 ^ (st f k).2 = (st f k).1
  | 0 => ⟨Nat.le_refl _, Nat.mod_eq_of_lt (st_lt f k)⟩
  | d + 1 => by
    obtain ⟨h1, h2⟩ := st_mono f k d
    obtain ⟨h3, h4⟩ := st_mono1 f (k + d)
    refine ⟨Nat.le_trans h1 h3, ?_⟩
    rw [← Nat.mod_mod_of_dvd _ (Nat.pow_dvd_pow 2 h1), ← Nat.add_assoc, h4, h2]
/-- What is read behind k calls is what was written. -/
theorem st_bits (f : Nat → Act) (k len : Nat) (hk : k < len) (h : (f k).D.tmod 2 = 0) : bitsAt (st f len).1 (st f k).2 (cnt (f k).N) = (f k).V % 2 ^ cnt (f k).N ∧ (st f k).2 + cnt (f k).N ≤ (st f len).2 := by
  obtain ⟨d, rfl⟩ : ∃ d, len = (k + 1) + d := ⟨len - k - 1, by omega⟩
  obtain ⟨h1, h2⟩ := st_mono f (k + 1) d
  have hl := st_lt f k
  rw [st_num f k h] at h1 h2
  refine ⟨?_, h1⟩
  simp only at h2
  unfold bitsAt
  rw [Nat.pow_add] at h2
  have e := congrArg (· / 2 ^ (st f k).2) h2
  simp only [Nat.mod_mul_right_div_self] at e
  rw [e, Nat.add_mul_div_right _ _ (Nat.two_pow_pos _), Nat.div_eq_of_lt hl, Nat.zero_add]
theorem st_text (f : Nat → Act) (k len : Nat) (hk : k < len) (h : ¬ (f k).D.tmod 2 = 0) : (st f len).1 / 2 ^ up8 (st f k).2 % 2 ^ (8 * (f k).S.size) = num (f k).S ∧ up8 (st f k).2 + 8 * (f k).S.size ≤ (st f len).2 := by
  obtain ⟨d, rfl⟩ : ∃ d, len = (k + 1) + d := ⟨len - k - 1, by omega⟩
  obtain ⟨h1, h2⟩ := st_mono f (k + 1) d
  have hl := Nat.lt_of_lt_of_le (st_lt f k) (Nat.pow_le_pow_right (n := 2) (by omega) (up8_ge (st f k).2))
  rw [st_txt f k h] at h1 h2
  refine ⟨?_, h1⟩
  simp only at h2
  rw [Nat.pow_add] at h2
  have e := congrArg (· / 2 ^ up8 (st f k).2) h2
  simp only [Nat.mod_mul_right_div_self] at e
  rw [e, Nat.add_mul_div_right _ _ (Nat.two_pow_pos _), Nat.div_eq_of_lt hl, Nat.zero_add]

theorem nums_inj (s t : ByteArray) (h : nums s = nums t) : s = t := by rw [← text_nums s, ← text_nums t, h]
theorem eq_of_num (s t : ByteArray) (hs : s.size = t.size) (h : num s = num t) : s = t := by
  apply nums_inj
  rw [← le_nums s, ← le_nums t, hs]
  unfold num at h
  rw [h]
theorem nums_extract (T : ByteArray) (a n : Nat) : nums (T.extract a (a + n)) = ((nums T).drop a).take n := by
  unfold nums
  rw [ByteArray.data_extract, Array.toList_extract, List.extract_eq_take_drop, Nat.add_sub_cancel_left, List.map_take, List.map_drop]
theorem extract_num (T : ByteArray) (a n : Nat) : num (T.extract a (a + n)) = num T / 2 ^ (8 * a) % 2 ^ (8 * n) := by
  unfold num
  rw [nums_extract T a n, numL_take _ (fun x hx => nums_lt T x (List.mem_of_mem_drop hx)), numL_drop _ (nums_lt T), p256, p256]

set_option maxRecDepth 100000 in
set_option maxHeartbeats 8000000 in
theorem bitsBack_main (p : Option Addr) (len cap : Nat) (f : Nat → Act) (h60 : len ≤ 60) (w : World) (hp : IsActs w p len f) :
    Calls Try.prog 3 #[.slice p len cap] w fun e w' => e = .returned (.bool true) ∧ Below w.heap.size w w' := by
  have HP := Lib.hid hp
  clear hp
  go_enter Try.func3, Try.ntmps3
  go_wp2_with (first | (go_at_call 10; refine (awake3_any _).mono ?_; rintro r wA ⟨rfl, hbA⟩))
  have hw0 := wr_new wA w.heap.size hbA.size
  have hbel := hbA.alloc hbA.size (.cells #[.slice none 0 0, .int .u64 0, .int .i64 0] 28)
  have HGC := Lib.hid hbA.size
  generalize wA.alloc (.cells #[.slice none 0 0, .int .u64 0, .int .i64 0] 28) = W1 at *
  generalize wA.heap.size = gc at *
  have HI : Hid (∃ r, Wr W1 w.heap.size gc r 0 0 ∧ Below w.heap.size w W1) := ⟨none, hw0, hbel⟩
  clear hw0 hbel hbA
  go_loopw [19] (fun i wr => ∃ k : Nat, k ≤ len ∧ i = .int .i64 k ∧ (st f k).2 ≤ 5000 * k ∧ (∀ i, i < k → (f i).S.size ≤ 500) ∧ ∃ r, Wr wr w.heap.size gc r (st f k).1 (st f k).2 ∧ Below w.heap.size w wr) (fun i _ => len - (intOf i).toNat)
  case atStart => exact ⟨0, Nat.zero_le _, rfl, Nat.le_refl _, fun i hi => by omega, HI.out⟩
  case round =>
    obtain ⟨k, hk, rfl, hL, h5, r, hw, hb⟩ := hrel
    have HW := Lib.hid hw
    have HB := Lib.hid hb
    have H5 := Lib.hid h5
    by_cases hlt : k < len
    · obtain ⟨b, off, rfl, hbb, hf⟩ := HP.out (by omega)
      have hat := (hf k hlt).below hb hbb
      clear hf
      have hst1 := st_num f k
      have hst2 := st_txt f k
      generalize hfk : f k = ac at hat hst1 hst2
      have HFK := Lib.hid hfk
      obtain ⟨dk, nk, vk, sk⟩ := ac
      obtain ⟨q0, q1, q2, q3, w0, w1, w2, w3⟩ := hat
      replace q0 : wr.cell? ⟨b, off + k * 4, none⟩ = some (.int .i64 dk) := q0
      replace q1 : wr.cell? ⟨b, off + k * 4 + 1, none⟩ = some (.int .i64 nk) := q1
      replace q2 : wr.cell? ⟨b, off + k * 4 + 2, none⟩ = some (.int .u32 (vk : Nat)) := q2
      replace q3 : wr.cell? ⟨b, off + k * 4 + 3, none⟩ = some (.string sk) := q3
      replace w0 : (Lit.int .i64 dk).wf = true := w0
      replace w1 : (Lit.int .i64 nk).wf = true := w1
      replace w2 : vk < 4294967296 := w2
      replace w3 : sk.size ≤ maxLen := w3
      have hbD := bounds_i64 w0
      have hbN := bounds_i64 w1
      have hsz : sk.size ≤ 9223372036854775807 := w3
      have HS1 := Lib.hid hst1
      have HS2 := Lib.hid hst2
      generalize st f k = S at *
      obtain ⟨M, L⟩ := S
      replace hL : L ≤ 5000 * k := hL
      replace HW : Hid (Wr wr w.heap.size gc r M L) := HW
      have hLb : L ≤ 300000 := by omega
      clear hw hb w0 w1 w3 hst1 hst2 hfk h5
      by_cases h500 : 500 < sk.size
      · go_wp2
        go_ret
        exact ⟨rfl, HB.out.alloc HB.out.size _⟩
      have hcw := cnt_le nk
      have hw2 := HW.out.alloc (.cells #[.int .i64 dk, .int .i64 nk, .int .u32 (vk : Nat), .string sk] 31)
      have hb2 := HB.out.alloc HB.out.size (.cells #[.int .i64 dk, .int .i64 nk, .int .u32 (vk : Nat), .string sk] 31)
      have HW2 := Lib.hid hw2
      have HB2 := Lib.hid hb2
      clear hw2 hb2
      have hcn := cnt_wrap nk
      have HCN : Hid (cnt nk = cnt nk) := rfl
      generalize cnt nk = n at *
      have HCW := Lib.hid hcn
      by_cases h0 : dk.tmod 2 = 0
      · have hS := HS1.out h0
        have HS := Lib.hid hS
        clear hS HS1 HS2 hcn
        go_wp2_with fail
        rw [HCW.out]
        refine (write_ok _ gc r M L vk n (by omega) w2 hcw.1 hcw.2 _ (by exact HB2.out.size) HW2.out).mono ?_; rintro e1 x1 ⟨rfl, r1, hw1, hu1⟩
        have HB1 := Lib.hid (hu1.1.below0 (by exact HB2.out.size) HB2.out HW2.out.ge)
        have HW1 := Lib.hid hw1
        clear hw1 hu1
        go_wp2_with fail
        go_roundw
        case rel =>
          refine ⟨k + 1, by omega, by go_num, ?_, fun i hi => ?_, r1, ?_, HB1.out⟩
          · rw [HS.out]
            show L + n ≤ _
            omega
          · by_cases hik : i < k
            · exact H5.out i hik
            · obtain rfl : i = k := by omega
              rw [HFK.out]
              show sk.size ≤ 500
              omega
          · rw [HS.out]
            exact HW1.out
        case measure => simp [intOf]; omega
      · have hS := HS2.out h0
        have HS := Lib.hid hS
        have h0' : ((dk.tmod 2) == 0) = false := by rw [beq_eq_false_iff_ne]; exact h0
        have hup := up8_le L
        clear hS HS1 HS2 hcn
        go_wp2_with fail
        refine (wbytes_any _ gc r M L sk (by omega) (by omega) _ (by exact HB2.out.size) HW2.out).mono ?_; rintro e1 x1 ⟨rfl, r1, hw1, hu1⟩
        have HB1 := Lib.hid (hu1.1.below0 (by exact HB2.out.size) HB2.out HW2.out.ge)
        have HW1 := Lib.hid hw1
        clear hw1 hu1
        go_wp2_with fail
        go_roundw
        case rel =>
          refine ⟨k + 1, by omega, by go_num, ?_, fun i hi => ?_, r1, ?_, HB1.out⟩
          · rw [HS.out]
            show up8 L + 8 * sk.size ≤ _
            omega
          · by_cases hik : i < k
            · exact H5.out i hik
            · obtain rfl : i = k := by omega
              rw [HFK.out]
              show sk.size ≤ 500
              omega
          · rw [HS.out]
            exact HW1.out
        case measure => simp [intOf]; omega
    · obtain rfl : k = len := by omega
      have hML := st_lt f k
      obtain ⟨T, hT⟩ : ∃ T, text (le (st f k).1 (((st f k).2 + 7) / 8)) = T := ⟨_, rfl⟩
      have hTs : T.size = ((st f k).2 + 7) / 8 := by rw [← hT, text_size, le_len]
      have hTn : num T = (st f k).1 := by
        rw [← hT, num_text]
        exact Nat.mod_eq_of_lt (Nat.lt_of_lt_of_le hML (Nat.pow_le_pow_right (by omega) (by omega)))
      have hd := wdone_any _ gc r _ _ (by omega) wr hw
      rw [hT] at hd
      have HD := Lib.hid hd
      have HTS := Lib.hid hTs
      have HTN := Lib.hid hTn
      have hTs2 : T.size ≤ 100000 := by omega
      clear hw hb hd hT hTs hTn hML h5
      go_wp2_with fail
      refine (HD.out).mono ?_; rintro e1 w1 ⟨rfl, hb1⟩
      have HW1 := Lib.hid (HW.out.stay fun i hi _ => hb1.block i hi)
      have HB1 := Lib.hid (below_then HB.out hb1)
      clear hb1
      go_wp2_with fail
      refine (over_any _ _).mono ?_; rintro e2 w2 ⟨rfl, rfl⟩
      have hr2 : Rd 82 (w1.alloc (.cells #[.string T, .int .i64 0, .int .i64 0] 82)) w1.heap.size T 0 0 := heap_alloc_new w1 _
      have hw2 := HW1.out.alloc (.cells #[.string T, .int .i64 0, .int .i64 0] 82)
      have hb2 := HB1.out.alloc HB1.out.size (.cells #[.string T, .int .i64 0, .int .i64 0] 82)
      have hgr : gc < w1.heap.size := HW1.out.lt
      have HGR := Lib.hid HB1.out.size
      have hrl := HW1.out.row_lt
      have HRL := Lib.hid hrl
      generalize w1.alloc (.cells #[.string T, .int .i64 0, .int .i64 0] 82) = W3 at *
      generalize w1.heap.size = gr at *
      have HR2 := Lib.hid hr2
      have HW2 := Lib.hid hw2
      have HB2 := Lib.hid hb2
      clear hr2 hw2 hb2 hrl
      go_wp2_with fail
      go_loopw [51] (fun i wx => ∃ j : Nat, j ≤ k ∧ i = .int .i64 j ∧ Rd 82 wx gr T (st f j).2 0 ∧ Wr wx w.heap.size gc r (st f k).1 (st f k).2 ∧ Below w.heap.size w wx) (fun i _ => k - (intOf i).toNat)
      case atStart => exact ⟨0, Nat.zero_le _, rfl, HR2.out, HW2.out, HB2.out⟩
      case round =>
        obtain ⟨j, hj, rfl, hr3, hw3, hb3⟩ := hrel
        have HR3 := Lib.hid hr3
        have HW3 := Lib.hid hw3
        have HB3 := Lib.hid hb3
        clear hr3 hw3
        by_cases hjl : j < k
        · obtain ⟨b, off, rfl, hbb, hf⟩ := HP.out (by omega)
          have hat := (hf j hjl).below hb3 hbb
          clear hf
          have hs500 := H5.out j hjl
          have hsb := st_bits f j k hjl
          have hsx := st_text f j k hjl
          have hsn1 := st_num f j
          have hsn2 := st_txt f j
          generalize f j = ac at hat hsb hsx hs500 hsn1 hsn2
          obtain ⟨dk, nk, vk, sk⟩ := ac
          obtain ⟨q0, q1, q2, q3, w0, w1', w2', w3'⟩ := hat
          replace q0 : wr.cell? ⟨b, off + j * 4, none⟩ = some (.int .i64 dk) := q0
          replace q1 : wr.cell? ⟨b, off + j * 4 + 1, none⟩ = some (.int .i64 nk) := q1
          replace q2 : wr.cell? ⟨b, off + j * 4 + 2, none⟩ = some (.int .u32 (vk : Nat)) := q2
          replace q3 : wr.cell? ⟨b, off + j * 4 + 3, none⟩ = some (.string sk) := q3
          replace w0 : (Lit.int .i64 dk).wf = true := w0
          replace w1' : (Lit.int .i64 nk).wf = true := w1'
          replace w2' : vk < 4294967296 := w2'
          replace hs500 : sk.size ≤ 500 := hs500
          have hbD := bounds_i64 w0
          have hbN := bounds_i64 w1'
          have hcw := cnt_le nk
          have hcn := cnt_wrap nk
          have hts := HTS.out
          have htn := HTN.out
          have hr4 := HR3.out.alloc (.cells #[.int .i64 dk, .int .i64 nk, .int .u32 (vk : Nat), .string sk] 31)
          have hw4 := HW3.out.alloc (.cells #[.int .i64 dk, .int .i64 nk, .int .u32 (vk : Nat), .string sk] 31)
          have hb4 := HB3.out.alloc HB3.out.size (.cells #[.int .i64 dk, .int .i64 nk, .int .u32 (vk : Nat), .string sk] 31)
          have hn0 : (wr.alloc (.cells #[.int .i64 dk, .int .i64 nk, .int .u32 (vk : Nat), .string sk] 31)).cell? ⟨wr.heap.size, 0, none⟩ = some (.int .i64 dk) := by
            rw [cell_of_row _ _ 0 _ _ _ (heap_alloc_new _ _)]
            rfl
          have hn1 : (wr.alloc (.cells #[.int .i64 dk, .int .i64 nk, .int .u32 (vk : Nat), .string sk] 31)).cell? ⟨wr.heap.size, 1, none⟩ = some (.int .i64 nk) := by
            rw [cell_of_row _ _ 1 _ _ _ (heap_alloc_new _ _)]
            rfl
          have hn2 : (wr.alloc (.cells #[.int .i64 dk, .int .i64 nk, .int .u32 (vk : Nat), .string sk] 31)).cell? ⟨wr.heap.size, 2, none⟩ = some (.int .u32 (vk : Nat)) := by
            rw [cell_of_row _ _ 2 _ _ _ (heap_alloc_new _ _)]
            rfl
          have hn3 : (wr.alloc (.cells #[.int .i64 dk, .int .i64 nk, .int .u32 (vk : Nat), .string sk] 31)).cell? ⟨wr.heap.size, 3, none⟩ = some (.string sk) := by
            rw [cell_of_row _ _ 3 _ _ _ (heap_alloc_new _ _)]
            rfl
          have hga : gr < wr.heap.size := HR3.out.lt
          go_upto_block 1 with (fail)
          generalize wr.alloc (.cells #[.int .i64 dk, .int .i64 nk, .int .u32 (vk : Nat), .string sk] 31) = W4 at *
          generalize wr.heap.size = ga at *
          have HN0 := Lib.hid hn0
          have HN2 := Lib.hid hn2
          have HN3 := Lib.hid hn3
          have HR4 := Lib.hid hr4
          have HW4 := Lib.hid hw4
          have HB4 := Lib.hid hb4
          have hL : (st f j).2 ≤ (st f k).2 := by
            have := (st_mono f j (k - j)).1
            rwa [show j + (k - j) = k by omega] at this
          have hkeep : ∀ w2 : World, W4.drew.grownBy w2 (some gr) → Wr w2 w.heap.size gc r (st f k).1 (st f k).2 := fun w2 hg =>
            HW4.out.stay fun i hi e => hg.block i (by exact hi) (by
              intro h
              injection h with h
              subst h
              rcases e with e | e
              · omega
              · have := HRL.out _ e
                omega)
          have HKEEP := Lib.hid hkeep
          have hbelow : ∀ w2 : World, W4.drew.grownBy w2 (some gr) → Below w.heap.size w w2 := fun w2 hg => HB4.out.drew.grown hg (by exact HB4.out.size) (by intro x hx; injection hx with hx; have := HGR.out; omega)
          have HBEL := Lib.hid hbelow
          have hfar : ∀ (w2 : World) (i : Nat) (u : Value), W4.cell? ⟨ga, i, none⟩ = some u → W4.drew.grownBy w2 (some gr) → w2.cell? ⟨ga, i, none⟩ = some u := fun w2 i u hu hg => hg.cell (by exact hu) (fun e => by
            have h2 : ga = gr := by injection e
            omega)
          clear q0 q1 q2 q3 hr4 hw4 hb4 hn0 hn1 hn2 hn3 hkeep hbelow
          by_cases h0 : dk.tmod 2 = 0
          · obtain ⟨e1, e2⟩ := hsb h0
            have e3 := hsn1 h0
            replace e1 : bitsAt (st f k).1 (st f j).2 (cnt nk) = vk % 2 ^ cnt nk := e1
            replace e2 : (st f j).2 + cnt nk ≤ (st f k).2 := e2
            replace e3 : st f (j + 1) = ((st f j).1 + vk % 2 ^ cnt nk * 2 ^ (st f j).2, (st f j).2 + cnt nk) := e3
            have hread : ∀ w2 : World, Rd 82 w2 gr T (st f j).2 0 → Calls Try.prog 15 #[.pointer (some ⟨gr, 0, none⟩), .int .i64 (cnt nk : Nat)] w2 fun r w' => r = .returned (.int .u32 (vk % 2 ^ cnt nk : Nat)) ∧ Rd 82 w' gr T ((st f j).2 + cnt nk) 0 ∧ w2.grownBy w' (some gr) := fun w2 hr => by
              have h := read_any gr T (st f j).2 0 (cnt nk : Nat) (by omega) (by omega) w2 hr
              have g1 : ((cnt nk : Nat) : Int) ≤ ((8 * T.size - (st f j).2 : Nat) : Int) := by omega
              have g2 : readM T (st f j).2 0 (cnt nk : Nat) = cnt nk := if_pos ⟨rfl, by omega, by omega, g1⟩
              have g3 : readE T (st f j).2 0 (cnt nk : Nat) = 0 := by
                unfold readE
                rw [if_neg (by omega), if_neg (by omega), if_pos g1]
              rw [g2, g3, htn, e1] at h
              exact h
            have HREAD := Lib.hid hread
            have hM := mask_walk vk (cnt nk) (by omega) hcw.2
            have hml : vk % 2 ^ cnt nk < 4294967296 := Nat.lt_of_le_of_lt (Nat.mod_le _ _) w2'
            have HE3 := Lib.hid e3
            have HSJ : Hid ((st f (j + 1)).2 = (st f j).2 + cnt nk) := by show _ = _; rw [e3]
            clear e1 e3 hread hsb hsx hsn1 hsn2 htn
            generalize vk % 2 ^ cnt nk = m at *
            generalize cnt nk = n at *
            have hm32 : IntKind.u32.wrap (m : Int) = m := by rw [IntKind.wrap_u32]; omega
            have hwv : IntKind.u64.wrap (vk : Int) = vk := by rw [IntKind.wrap_u64]; omega
            have hn0 := HN0.out
            have hn2 := HN2.out
            refine wp_region_held_drew (S := fun ww => ww.cell? ⟨ga, 0, none⟩ = some (.int .i64 dk) ∧ ww.cell? ⟨ga, 2, none⟩ = some (.int .u32 (vk : Nat))) (by kernel_rfl) ⟨hn0, hn2⟩ (fun hHeld => ?_)
            refine wpAnyH_take (i := 0) (oi := { dst := some 61, op := Op.fieldAddr 31 (Operand.tmp 8) 0, type := 0, pos := "law.go:113", after := #[], guard := none }) (v := ?v0) rfl (by kernel_rfl) (by kernel_rfl) (by kernel_rfl) (fun _ _ _ h => h) (Or.inl ⟨by kernel_rfl, ?hy0⟩) (by assumption) ?_
            case hy0 =>
              intro ww hSw
              obtain ⟨s0, s2⟩ := hSw
              go_simp
              try with_reducible rfl
            try simp only [Act.put, List.setIfInBounds_toArray, List.set_cons_zero, List.set_cons_succ]
            refine wpAnyH_take (i := 1) (oi := { dst := some 62, op := Op.load 3 (Operand.tmp 61), type := 3, pos := "law.go:113", after := #[{ on := 0, ground := Ground.data }], guard := none }) (v := ?v1) rfl (by kernel_rfl) (by kernel_rfl) (by kernel_rfl) (fun _ _ _ h => h) (Or.inl ⟨by kernel_rfl, ?hy1⟩) (by assumption) ?_
            case hy1 =>
              intro ww hSw
              obtain ⟨s0, s2⟩ := hSw
              go_simp
              try with_reducible rfl
            try simp only [Act.put, List.setIfInBounds_toArray, List.set_cons_zero, List.set_cons_succ]
            refine wpAnyH_take (i := 2) (oi := { dst := some 63, op := Op.binOp BinOp.rem 3 (Operand.tmp 62) (Operand.const (Value.int IntKind.i64 2)) 3, type := 3, pos := "law.go:113", after := #[{ on := 1, ground := Ground.data }], guard := none }) (v := ?v2) rfl (by kernel_rfl) (by kernel_rfl) (by kernel_rfl) (fun _ _ _ h => h) (Or.inl ⟨by kernel_rfl, ?hy2⟩) (by assumption) ?_
            case hy2 =>
              intro ww hSw
              obtain ⟨s0, s2⟩ := hSw
              go_simp
              try with_reducible rfl
            try simp only [Act.put, List.setIfInBounds_toArray, List.set_cons_zero, List.set_cons_succ]
            refine wpAnyH_take (i := 3) (oi := { dst := some 64, op := Op.binOp BinOp.eql 3 (Operand.tmp 63) (Operand.const (Value.int IntKind.i64 0)) 3, type := 4, pos := "law.go:113", after := #[{ on := 2, ground := Ground.data }], guard := none }) (v := ?v3) rfl (by kernel_rfl) (by kernel_rfl) (by kernel_rfl) (fun _ _ _ h => h) (Or.inl ⟨by kernel_rfl, ?hy3⟩) (by assumption) ?_
            case hy3 =>
              intro ww hSw
              obtain ⟨s0, s2⟩ := hSw
              go_simp
              try with_reducible rfl
            try simp only [Act.put, List.setIfInBounds_toArray, List.set_cons_zero, List.set_cons_succ]
            refine wpAnyH_take (i := 4) (oi := { dst := some 65, op := Op.move (Operand.tmp 64), type := 4, pos := "law.go:113", after := #[{ on := 3, ground := Ground.data }], guard := none }) (v := ?v4) rfl (by kernel_rfl) (by kernel_rfl) (by kernel_rfl) (fun _ _ _ h => h) (Or.inl ⟨by kernel_rfl, ?hy4⟩) (by assumption) ?_
            case hy4 =>
              intro ww hSw
              obtain ⟨s0, s2⟩ := hSw
              go_simp
              try with_reducible rfl
            try simp only [Act.put, List.setIfInBounds_toArray, List.set_cons_zero, List.set_cons_succ]
            refine wpAnyH_take (i := 5) (oi := { dst := some 66, op := Op.move (Operand.tmp 6), type := 35, pos := "law.go:113", after := #[{ on := 4, ground := Ground.guard }], guard := some (4, true) }) (v := ?v5) rfl (by kernel_rfl) (by kernel_rfl) (by kernel_rfl) (fun _ _ _ h => h) (Or.inl ⟨by kernel_rfl, ?hy5⟩) (by assumption) ?_
            case hy5 =>
              intro ww hSw
              obtain ⟨s0, s2⟩ := hSw
              go_simp
              try with_reducible rfl
            try simp only [Act.put, List.setIfInBounds_toArray, List.set_cons_zero, List.set_cons_succ]
            refine wpAnyH_take (i := 6) (oi := { dst := some 67, op := Op.move (Operand.tmp 9), type := 3, pos := "law.go:113", after := #[{ on := 4, ground := Ground.guard }], guard := some (4, true) }) (v := ?v6) rfl (by kernel_rfl) (by kernel_rfl) (by kernel_rfl) (fun _ _ _ h => h) (Or.inl ⟨by kernel_rfl, ?hy6⟩) (by assumption) ?_
            case hy6 =>
              intro ww hSw
              obtain ⟨s0, s2⟩ := hSw
              go_simp
              try with_reducible rfl
            try simp only [Act.put, List.setIfInBounds_toArray, List.set_cons_zero, List.set_cons_succ]
            refine wpAnyH_take (i := 8) (oi := { dst := some 69, op := Op.fieldAddr 31 (Operand.tmp 8) 2, type := 0, pos := "law.go:113", after := #[{ on := 4, ground := Ground.guard }], guard := some (4, true) }) (v := ?v8) rfl (by kernel_rfl) (by kernel_rfl) (by kernel_rfl) (fun _ _ _ h => h) (Or.inl ⟨by kernel_rfl, ?hy8⟩) (by assumption) ?_
            case hy8 =>
              intro ww hSw
              obtain ⟨s0, s2⟩ := hSw
              go_simp
              try with_reducible rfl
            try simp only [Act.put, List.setIfInBounds_toArray, List.set_cons_zero, List.set_cons_succ]
            refine wpAnyH_take (i := 9) (oi := { dst := some 70, op := Op.load 29 (Operand.tmp 69), type := 29, pos := "law.go:113", after := #[{ on := 8, ground := Ground.data }, { on := 4, ground := Ground.guard }], guard := some (4, true) }) (v := ?v9) rfl (by kernel_rfl) (by kernel_rfl) (by kernel_rfl) (fun _ _ _ h => h) (Or.inl ⟨by kernel_rfl, ?hy9⟩) (by assumption) ?_
            case hy9 =>
              intro ww hSw
              obtain ⟨s0, s2⟩ := hSw
              go_simp
              try with_reducible rfl
            try simp only [Act.put, List.setIfInBounds_toArray, List.set_cons_zero, List.set_cons_succ]
            refine wpAnyH_take (i := 10) (oi := { dst := some 71, op := Op.convert 29 26 (Operand.tmp 70), type := 26, pos := "law.go:113", after := #[{ on := 9, ground := Ground.data }, { on := 4, ground := Ground.guard }], guard := some (4, true) }) (v := ?v10) rfl (by kernel_rfl) (by kernel_rfl) (by kernel_rfl) (fun _ _ _ h => h) (Or.inl ⟨by kernel_rfl, ?hy10⟩) (by assumption) ?_
            case hy10 =>
              intro ww hSw
              obtain ⟨s0, s2⟩ := hSw
              go_simp
              try with_reducible rfl
            try simp only [Act.put, List.setIfInBounds_toArray, List.set_cons_zero, List.set_cons_succ]
            refine wpAnyH_take (i := 11) (oi := { dst := some 72, op := Op.move (Operand.tmp 9), type := 3, pos := "law.go:113", after := #[{ on := 4, ground := Ground.guard }], guard := some (4, true) }) (v := ?v11) rfl (by kernel_rfl) (by kernel_rfl) (by kernel_rfl) (fun _ _ _ h => h) (Or.inl ⟨by kernel_rfl, ?hy11⟩) (by assumption) ?_
            case hy11 =>
              intro ww hSw
              obtain ⟨s0, s2⟩ := hSw
              go_simp
              try with_reducible rfl
            try simp only [Act.put, List.setIfInBounds_toArray, List.set_cons_zero, List.set_cons_succ]
            refine wpAnyH_take (i := 12) (oi := { dst := some 73, op := Op.binOp BinOp.shl 26 (Operand.const (Value.int IntKind.u64 1)) (Operand.tmp 72) 3, type := 26, pos := "law.go:113", after := #[{ on := 11, ground := Ground.data }, { on := 4, ground := Ground.guard }], guard := some (4, true) }) (v := ?v12) rfl (by kernel_rfl) (by kernel_rfl) (by kernel_rfl) (fun _ _ _ h => h) (Or.inl ⟨by kernel_rfl, ?hy12⟩) (by assumption) ?_
            case hy12 =>
              intro ww hSw
              obtain ⟨s0, s2⟩ := hSw
              go_simp
              try with_reducible rfl
            try simp only [Act.put, List.setIfInBounds_toArray, List.set_cons_zero, List.set_cons_succ]
            refine wpAnyH_take (i := 13) (oi := { dst := some 74, op := Op.binOp BinOp.sub 26 (Operand.tmp 73) (Operand.const (Value.int IntKind.u64 1)) 26, type := 26, pos := "law.go:113", after := #[{ on := 12, ground := Ground.data }, { on := 4, ground := Ground.guard }], guard := some (4, true) }) (v := ?v13) rfl (by kernel_rfl) (by kernel_rfl) (by kernel_rfl) (fun _ _ _ h => h) (Or.inl ⟨by kernel_rfl, ?hy13⟩) (by assumption) ?_
            case hy13 =>
              intro ww hSw
              obtain ⟨s0, s2⟩ := hSw
              go_simp
              try with_reducible rfl
            try simp only [Act.put, List.setIfInBounds_toArray, List.set_cons_zero, List.set_cons_succ]
            refine wpAnyH_take (i := 14) (oi := { dst := some 75, op := Op.binOp BinOp.and 26 (Operand.tmp 71) (Operand.tmp 74) 26, type := 26, pos := "law.go:113", after := #[{ on := 10, ground := Ground.data }, { on := 13, ground := Ground.data }, { on := 4, ground := Ground.guard }], guard := some (4, true) }) (v := ?v14) rfl (by kernel_rfl) (by kernel_rfl) (by kernel_rfl) (fun _ _ _ h => h) (Or.inl ⟨by kernel_rfl, ?hy14⟩) (by assumption) ?_
            case hy14 =>
              intro ww hSw
              obtain ⟨s0, s2⟩ := hSw
              go_simp
              try with_reducible rfl
            try simp only [Act.put, List.setIfInBounds_toArray, List.set_cons_zero, List.set_cons_succ]
            refine wpAnyH_take (i := 15) (oi := { dst := some 76, op := Op.convert 26 29 (Operand.tmp 75), type := 29, pos := "law.go:113", after := #[{ on := 14, ground := Ground.data }, { on := 4, ground := Ground.guard }], guard := some (4, true) }) (v := ?v15) rfl (by kernel_rfl) (by kernel_rfl) (by kernel_rfl) (fun _ _ _ h => h) (Or.inl ⟨by kernel_rfl, ?hy15⟩) (by assumption) ?_
            case hy15 =>
              intro ww hSw
              obtain ⟨s0, s2⟩ := hSw
              go_simp
              try with_reducible rfl
            try simp only [Act.put, List.setIfInBounds_toArray, List.set_cons_zero, List.set_cons_succ]
            refine wpAnyH_ready (rs := [7]) (by kernel_rfl) (by simp) ?_
            refine AllReadyH.cons (o := { dst := some 68, op := Op.call { callee := Callee.value (Operand.func 15), args := #[Operand.tmp 66, Operand.tmp 67], argTypes := #[35, 3] }, type := 29, pos := "law.go:113", after := #[{ on := 5, ground := Ground.data }, { on := 6, ground := Ground.data }, { on := 4, ground := Ground.chain }, { on := 4, ground := Ground.guard }], guard := some (4, true) }) rfl (fun K hK => ?_) AllReadyH.nil
            go_simp
            refine (HREAD.out _ ?hr).mono ?_
            case hr => exact HR4.out
            rintro r1 x1 ⟨rfl, hr1, hg1⟩
            have k0 := hfar x1 0 _ hn0 (by exact hg1)
            have k2 := hfar x1 2 _ hn2 (by exact hg1)
            refine hK.out _ _ ?hS (fun hHeld2 => ?_)
            case hS => exact ⟨k0, k2⟩
            clear hK K hHeld
            try simp only [Act.put, List.setIfInBounds_toArray, List.set_cons_zero, List.set_cons_succ]
            refine wpAnyH_take (i := 16) (oi := { dst := some 77, op := Op.binOp BinOp.neq 29 (Operand.tmp 68) (Operand.tmp 76) 29, type := 4, pos := "law.go:113", after := #[{ on := 7, ground := Ground.data }, { on := 15, ground := Ground.data }, { on := 4, ground := Ground.guard }], guard := some (4, true) }) (v := ?v16) rfl (by kernel_rfl) (by kernel_rfl) (by kernel_rfl) (fun _ _ _ h => h) (Or.inl ⟨by kernel_rfl, ?hy16⟩) (by assumption) ?_
            case hy16 =>
              intro ww hSw
              obtain ⟨s0, s2⟩ := hSw
              go_simp
              try with_reducible rfl
            try simp only [Act.put, List.setIfInBounds_toArray, List.set_cons_zero, List.set_cons_succ]
            refine wpAnyH_take (i := 17) (oi := { dst := some 78, op := Op.pick (Operand.tmp 65) (Operand.tmp 77) (Operand.const (Value.bool false)), type := 4, pos := "law.go:113", after := #[{ on := 4, ground := Ground.data }, { on := 16, ground := Ground.data }], guard := none }) (v := ?v17) rfl (by kernel_rfl) (by kernel_rfl) (by kernel_rfl) (fun _ _ _ h => h) (Or.inl ⟨by kernel_rfl, ?hy17⟩) (by assumption) ?_
            case hy17 =>
              intro ww hSw
              obtain ⟨s0, s2⟩ := hSw
              go_simp
              try with_reducible rfl
            try simp only [Act.put, List.setIfInBounds_toArray, List.set_cons_zero, List.set_cons_succ]
            refine wpAnyH_take (i := 18) (oi := { dst := some 79, op := Op.move (Operand.tmp 78), type := 4, pos := "law.go:113", after := #[{ on := 17, ground := Ground.data }, { on := 7, ground := Ground.chain }], guard := none }) (v := ?v18) rfl (by kernel_rfl) (by kernel_rfl) (by kernel_rfl) (fun _ _ _ h => h) (Or.inl ⟨by kernel_rfl, ?hy18⟩) (by assumption) ?_
            case hy18 =>
              intro ww hSw
              obtain ⟨s0, s2⟩ := hSw
              go_simp
              try with_reducible rfl
            try simp only [Act.put, List.setIfInBounds_toArray, List.set_cons_zero, List.set_cons_succ]
            refine wpAnyH_take (i := 19) (oi := { dst := some 80, op := Op.fieldAddr 31 (Operand.tmp 8) 0, type := 0, pos := "law.go:113", after := #[{ on := 18, ground := Ground.guard }], guard := some (18, false) }) (v := ?v19) rfl (by kernel_rfl) (by kernel_rfl) (by kernel_rfl) (fun _ _ _ h => h) (Or.inl ⟨by kernel_rfl, ?hy19⟩) (by assumption) ?_
            case hy19 =>
              intro ww hSw
              obtain ⟨s0, s2⟩ := hSw
              go_simp
              try with_reducible rfl
            try simp only [Act.put, List.setIfInBounds_toArray, List.set_cons_zero, List.set_cons_succ]
            refine wpAnyH_take (i := 20) (oi := { dst := some 81, op := Op.load 3 (Operand.tmp 80), type := 3, pos := "law.go:113", after := #[{ on := 19, ground := Ground.data }, { on := 18, ground := Ground.guard }], guard := some (18, false) }) (v := ?v20) rfl (by kernel_rfl) (by kernel_rfl) (by kernel_rfl) (fun _ _ _ h => h) (Or.inl ⟨by kernel_rfl, ?hy20⟩) (by assumption) ?_
            case hy20 =>
              intro ww hSw
              obtain ⟨s0, s2⟩ := hSw
              go_simp
              try with_reducible rfl
            try simp only [Act.put, List.setIfInBounds_toArray, List.set_cons_zero, List.set_cons_succ]
            refine wpAnyH_take (i := 21) (oi := { dst := some 82, op := Op.binOp BinOp.rem 3 (Operand.tmp 81) (Operand.const (Value.int IntKind.i64 2)) 3, type := 3, pos := "law.go:113", after := #[{ on := 20, ground := Ground.data }, { on := 18, ground := Ground.guard }], guard := some (18, false) }) (v := ?v21) rfl (by kernel_rfl) (by kernel_rfl) (by kernel_rfl) (fun _ _ _ h => h) (Or.inl ⟨by kernel_rfl, ?hy21⟩) (by assumption) ?_
            case hy21 =>
              intro ww hSw
              obtain ⟨s0, s2⟩ := hSw
              go_simp
              try with_reducible rfl
            try simp only [Act.put, List.setIfInBounds_toArray, List.set_cons_zero, List.set_cons_succ]
            refine wpAnyH_take (i := 22) (oi := { dst := some 83, op := Op.binOp BinOp.neq 3 (Operand.tmp 82) (Operand.const (Value.int IntKind.i64 0)) 3, type := 4, pos := "law.go:113", after := #[{ on := 21, ground := Ground.data }, { on := 18, ground := Ground.guard }], guard := some (18, false) }) (v := ?v22) rfl (by kernel_rfl) (by kernel_rfl) (by kernel_rfl) (fun _ _ _ h => h) (Or.inl ⟨by kernel_rfl, ?hy22⟩) (by assumption) ?_
            case hy22 =>
              intro ww hSw
              obtain ⟨s0, s2⟩ := hSw
              go_simp
              try with_reducible rfl
            try simp only [Act.put, List.setIfInBounds_toArray, List.set_cons_zero, List.set_cons_succ]
            refine wpAnyH_take (i := 23) (oi := { dst := some 84, op := Op.move (Operand.tmp 83), type := 4, pos := "law.go:113", after := #[{ on := 22, ground := Ground.data }, { on := 18, ground := Ground.chain }, { on := 18, ground := Ground.guard }], guard := some (18, false) }) (v := ?v23) rfl (by kernel_rfl) (by kernel_rfl) (by kernel_rfl) (fun _ _ _ h => h) (Or.inl ⟨by kernel_rfl, ?hy23⟩) (by assumption) ?_
            case hy23 =>
              intro ww hSw
              obtain ⟨s0, s2⟩ := hSw
              go_simp
              try with_reducible rfl
            try simp only [Act.put, List.setIfInBounds_toArray, List.set_cons_zero, List.set_cons_succ]
            refine wpAnyH_take (i := 24) (oi := { dst := some 85, op := Op.move (Operand.tmp 6), type := 35, pos := "law.go:113", after := #[{ on := 23, ground := Ground.guard }], guard := some (23, true) }) (v := undef) rfl (by kernel_rfl) (by kernel_rfl) (by kernel_rfl) (fun _ _ _ h => h) (Or.inr ⟨by kernel_rfl, rfl⟩) (by assumption) ?_
            try simp only [Act.put, List.setIfInBounds_toArray, List.set_cons_zero, List.set_cons_succ]
            refine wpAnyH_take (i := 25) (oi := { dst := some 86, op := Op.fieldAddr 31 (Operand.tmp 8) 3, type := 0, pos := "law.go:113", after := #[{ on := 23, ground := Ground.guard }], guard := some (23, true) }) (v := undef) rfl (by kernel_rfl) (by kernel_rfl) (by kernel_rfl) (fun _ _ _ h => h) (Or.inr ⟨by kernel_rfl, rfl⟩) (by assumption) ?_
            try simp only [Act.put, List.setIfInBounds_toArray, List.set_cons_zero, List.set_cons_succ]
            refine wpAnyH_take (i := 26) (oi := { dst := some 87, op := Op.load 9 (Operand.tmp 86), type := 9, pos := "law.go:113", after := #[{ on := 25, ground := Ground.data }, { on := 23, ground := Ground.guard }], guard := some (23, true) }) (v := undef) rfl (by kernel_rfl) (by kernel_rfl) (by kernel_rfl) (fun _ _ _ h => h) (Or.inr ⟨by kernel_rfl, rfl⟩) (by assumption) ?_
            try simp only [Act.put, List.setIfInBounds_toArray, List.set_cons_zero, List.set_cons_succ]
            refine wpAnyH_take (i := 27) (oi := { dst := some 88, op := Op.call { callee := Callee.builtin Builtin.len, args := #[Operand.tmp 87], argTypes := #[9] }, type := 3, pos := "law.go:113", after := #[{ on := 26, ground := Ground.data }, { on := 23, ground := Ground.guard }], guard := some (23, true) }) (v := undef) rfl (by kernel_rfl) (by kernel_rfl) (by kernel_rfl) (fun _ _ _ h => h) (Or.inr ⟨by kernel_rfl, rfl⟩) (by assumption) ?_
            try simp only [Act.put, List.setIfInBounds_toArray, List.set_cons_zero, List.set_cons_succ]
            refine wpAnyH_take (i := 28) (oi := { dst := some 89, op := Op.call { callee := Callee.value (Operand.func 16), args := #[Operand.tmp 85, Operand.tmp 88], argTypes := #[35, 3] }, type := 9, pos := "law.go:113", after := #[{ on := 24, ground := Ground.data }, { on := 27, ground := Ground.data }, { on := 23, ground := Ground.chain }, { on := 23, ground := Ground.guard }], guard := some (23, true) }) (v := undef) rfl (by kernel_rfl) (by kernel_rfl) (by kernel_rfl) (fun _ _ _ h => h) (Or.inr ⟨by kernel_rfl, rfl⟩) (by assumption) ?_
            try simp only [Act.put, List.setIfInBounds_toArray, List.set_cons_zero, List.set_cons_succ]
            refine wpAnyH_take (i := 29) (oi := { dst := some 90, op := Op.fieldAddr 31 (Operand.tmp 8) 3, type := 0, pos := "law.go:113", after := #[{ on := 23, ground := Ground.guard }], guard := some (23, true) }) (v := undef) rfl (by kernel_rfl) (by kernel_rfl) (by kernel_rfl) (fun _ _ _ h => h) (Or.inr ⟨by kernel_rfl, rfl⟩) (by assumption) ?_
            try simp only [Act.put, List.setIfInBounds_toArray, List.set_cons_zero, List.set_cons_succ]
            refine wpAnyH_take (i := 30) (oi := { dst := some 91, op := Op.load 9 (Operand.tmp 90), type := 9, pos := "law.go:113", after := #[{ on := 29, ground := Ground.data }, { on := 23, ground := Ground.guard }], guard := some (23, true) }) (v := undef) rfl (by kernel_rfl) (by kernel_rfl) (by kernel_rfl) (fun _ _ _ h => h) (Or.inr ⟨by kernel_rfl, rfl⟩) (by assumption) ?_
            try simp only [Act.put, List.setIfInBounds_toArray, List.set_cons_zero, List.set_cons_succ]
            refine wpAnyH_take (i := 31) (oi := { dst := some 92, op := Op.binOp BinOp.neq 9 (Operand.tmp 89) (Operand.tmp 91) 9, type := 4, pos := "law.go:113", after := #[{ on := 28, ground := Ground.data }, { on := 30, ground := Ground.data }, { on := 23, ground := Ground.guard }], guard := some (23, true) }) (v := undef) rfl (by kernel_rfl) (by kernel_rfl) (by kernel_rfl) (fun _ _ _ h => h) (Or.inr ⟨by kernel_rfl, rfl⟩) (by assumption) ?_
            try simp only [Act.put, List.setIfInBounds_toArray, List.set_cons_zero, List.set_cons_succ]
            refine wpAnyH_take (i := 32) (oi := { dst := some 93, op := Op.pick (Operand.tmp 84) (Operand.tmp 92) (Operand.const (Value.bool false)), type := 4, pos := "law.go:113", after := #[{ on := 23, ground := Ground.data }, { on := 31, ground := Ground.data }, { on := 18, ground := Ground.guard }], guard := some (18, false) }) (v := ?v32) rfl (by kernel_rfl) (by kernel_rfl) (by kernel_rfl) (fun _ _ _ h => h) (Or.inl ⟨by kernel_rfl, ?hy32⟩) (by assumption) ?_
            case hy32 =>
              intro ww hSw
              obtain ⟨s0, s2⟩ := hSw
              go_simp
              try with_reducible rfl
            try simp only [Act.put, List.setIfInBounds_toArray, List.set_cons_zero, List.set_cons_succ]
            refine wpAnyH_take (i := 33) (oi := { dst := some 94, op := Op.pick (Operand.tmp 79) (Operand.const (Value.bool true)) (Operand.tmp 93), type := 4, pos := "law.go:113", after := #[{ on := 18, ground := Ground.data }, { on := 32, ground := Ground.data }], guard := none }) (v := ?v33) rfl (by kernel_rfl) (by kernel_rfl) (by kernel_rfl) (fun _ _ _ h => h) (Or.inl ⟨by kernel_rfl, ?hy33⟩) (by assumption) ?_
            case hy33 =>
              intro ww hSw
              obtain ⟨s0, s2⟩ := hSw
              go_simp
              try with_reducible rfl
            try simp only [Act.put, List.setIfInBounds_toArray, List.set_cons_zero, List.set_cons_succ]
            refine wpAnyH_done (by kernel_rfl) ?_ _
            all_goals
              have HX : Hid (Rd 82 x1 gr T (st f (j + 1)).2 0 ∧ Wr x1 w.heap.size gc r (st f k).1 (st f k).2 ∧ Below w.heap.size w x1) := ⟨by rw [HSJ.out]; exact hr1, HKEEP.out x1 (by exact hg1), HBEL.out x1 (by exact hg1)⟩
              clear k0 k2 hr1 hg1 hn0 hn2
              go_wp2_with fail
              go_roundw
              case rel => exact ⟨j + 1, by omega, by go_num, HX.out.1, HX.out.2.1, HX.out.2.2⟩
              case measure =>
                simp only [intOf]
                omega
          · obtain ⟨e1, e2⟩ := hsx h0
            have e3 := hsn2 h0
            replace e1 : (st f k).1 / 2 ^ up8 (st f j).2 % 2 ^ (8 * sk.size) = num sk := e1
            replace e2 : up8 (st f j).2 + 8 * sk.size ≤ (st f k).2 := e2
            replace e3 : st f (j + 1) = ((st f j).1 + num sk * 2 ^ up8 (st f j).2, up8 (st f j).2 + 8 * sk.size) := e3
            have hu8 := up8_mod (st f j).2
            have hal : alignA (st f j).2 0 = up8 (st f j).2 := if_pos rfl
            have hread : ∀ w2 : World, Rd 82 w2 gr T (st f j).2 0 → Calls Try.prog 16 #[.pointer (some ⟨gr, 0, none⟩), .int .i64 (sk.size : Nat)] w2 fun r w' => r = .returned (.string sk) ∧ Rd 82 w' gr T (up8 (st f j).2 + 8 * sk.size) 0 ∧ w2.grownBy w' (some gr) := fun w2 hr => by
              have h := bytes_any gr T (st f j).2 0 (sk.size : Nat) (by omega) (by omega) w2 hr
              rw [hal] at h
              have hmy : mayB T (up8 (st f j).2) 0 (sk.size : Nat) = true := decide_eq_true ⟨rfl, by omega, by omega⟩
              have hpc : pieceB T (up8 (st f j).2) 0 (sk.size : Nat) = sk := by
                rw [show pieceB T (up8 (st f j).2) 0 (sk.size : Nat) = T.extract (up8 (st f j).2 / 8) (up8 (st f j).2 / 8 + sk.size) from if_pos hmy]
                refine eq_of_num _ _ (by rw [ByteArray.size_extract]; omega) ?_
                rw [extract_num, htn, show 8 * (up8 (st f j).2 / 8) = up8 (st f j).2 by omega, e1]
              rw [hpc, show bytA T (up8 (st f j).2) 0 (sk.size : Nat) = up8 (st f j).2 + 8 * sk.size from if_pos hmy, show bytE T (up8 (st f j).2) 0 (sk.size : Nat) = 0 by (unfold bytE; rw [if_neg (by omega), if_neg (by omega), if_pos (by omega)])] at h
              exact h
            have HREAD := Lib.hid hread
            have HSJ : Hid ((st f (j + 1)).2 = up8 (st f j).2 + 8 * sk.size) := by show _ = _; rw [e3]
            have hodd : dk.tmod 2 = 1 ∨ dk.tmod 2 = -1 := by
              have m1 := Int.lt_tmod_of_pos dk (show (0 : Int) < 2 by omega)
              have m2 := Int.tmod_lt_of_pos dk (show (0 : Int) < 2 by omega)
              omega
            clear h0
            clear e1 e3 hread hsb hsx hsn1 hsn2 htn
            generalize up8 (st f j).2 + 8 * sk.size = L2 at *
            rcases hodd with hodd | hodd
            · have hn0 := HN0.out
              have hn3 := HN3.out
              refine wp_region_held_drew (S := fun ww => ww.cell? ⟨ga, 0, none⟩ = some (.int .i64 dk) ∧ ww.cell? ⟨ga, 3, none⟩ = some (.string sk)) (by kernel_rfl) ⟨hn0, hn3⟩ (fun hHeld => ?_)
              refine wpAnyH_take (i := 0) (oi := { dst := some 61, op := Op.fieldAddr 31 (Operand.tmp 8) 0, type := 0, pos := "law.go:113", after := #[], guard := none }) (v := ?v0) rfl (by kernel_rfl) (by kernel_rfl) (by kernel_rfl) (fun _ _ _ h => h) (Or.inl ⟨by kernel_rfl, ?hy0⟩) (by assumption) ?_
              case hy0 =>
                intro ww hSw
                obtain ⟨s0, s2⟩ := hSw
                go_simp
                try with_reducible rfl
              try simp only [Act.put, List.setIfInBounds_toArray, List.set_cons_zero, List.set_cons_succ]
              refine wpAnyH_take (i := 1) (oi := { dst := some 62, op := Op.load 3 (Operand.tmp 61), type := 3, pos := "law.go:113", after := #[{ on := 0, ground := Ground.data }], guard := none }) (v := ?v1) rfl (by kernel_rfl) (by kernel_rfl) (by kernel_rfl) (fun _ _ _ h => h) (Or.inl ⟨by kernel_rfl, ?hy1⟩) (by assumption) ?_
              case hy1 =>
                intro ww hSw
                obtain ⟨s0, s2⟩ := hSw
                go_simp
                try with_reducible rfl
              try simp only [Act.put, List.setIfInBounds_toArray, List.set_cons_zero, List.set_cons_succ]
              refine wpAnyH_take (i := 2) (oi := { dst := some 63, op := Op.binOp BinOp.rem 3 (Operand.tmp 62) (Operand.const (Value.int IntKind.i64 2)) 3, type := 3, pos := "law.go:113", after := #[{ on := 1, ground := Ground.data }], guard := none }) (v := .int .i64 (1)) rfl (by kernel_rfl) (by kernel_rfl) (by kernel_rfl) (fun _ _ _ h => h) (Or.inl ⟨by kernel_rfl, ?hy2⟩) (by assumption) ?_
              case hy2 =>
                intro ww hSw
                obtain ⟨s0, s2⟩ := hSw
                go_simp
                try with_reducible rfl
              try simp only [Act.put, List.setIfInBounds_toArray, List.set_cons_zero, List.set_cons_succ]
              refine wpAnyH_take (i := 3) (oi := { dst := some 64, op := Op.binOp BinOp.eql 3 (Operand.tmp 63) (Operand.const (Value.int IntKind.i64 0)) 3, type := 4, pos := "law.go:113", after := #[{ on := 2, ground := Ground.data }], guard := none }) (v := .bool false) rfl (by kernel_rfl) (by kernel_rfl) (by kernel_rfl) (fun _ _ _ h => h) (Or.inl ⟨by kernel_rfl, ?hy3⟩) (by assumption) ?_
              case hy3 =>
                intro ww hSw
                obtain ⟨s0, s2⟩ := hSw
                go_simp
                try with_reducible rfl
              try simp only [Act.put, List.setIfInBounds_toArray, List.set_cons_zero, List.set_cons_succ]
              refine wpAnyH_take (i := 4) (oi := { dst := some 65, op := Op.move (Operand.tmp 64), type := 4, pos := "law.go:113", after := #[{ on := 3, ground := Ground.data }], guard := none }) (v := .bool false) rfl (by kernel_rfl) (by kernel_rfl) (by kernel_rfl) (fun _ _ _ h => h) (Or.inl ⟨by kernel_rfl, ?hy4⟩) (by assumption) ?_
              case hy4 =>
                intro ww hSw
                obtain ⟨s0, s2⟩ := hSw
                go_simp
                try with_reducible rfl
              try simp only [Act.put, List.setIfInBounds_toArray, List.set_cons_zero, List.set_cons_succ]
              refine wpAnyH_take (i := 5) (oi := { dst := some 66, op := Op.move (Operand.tmp 6), type := 35, pos := "law.go:113", after := #[{ on := 4, ground := Ground.guard }], guard := some (4, true) }) (v := undef) rfl (by kernel_rfl) (by kernel_rfl) (by kernel_rfl) (fun _ _ _ h => h) (Or.inr ⟨by kernel_rfl, rfl⟩) (by assumption) ?_
              try simp only [Act.put, List.setIfInBounds_toArray, List.set_cons_zero, List.set_cons_succ]
              refine wpAnyH_take (i := 6) (oi := { dst := some 67, op := Op.move (Operand.tmp 9), type := 3, pos := "law.go:113", after := #[{ on := 4, ground := Ground.guard }], guard := some (4, true) }) (v := undef) rfl (by kernel_rfl) (by kernel_rfl) (by kernel_rfl) (fun _ _ _ h => h) (Or.inr ⟨by kernel_rfl, rfl⟩) (by assumption) ?_
              try simp only [Act.put, List.setIfInBounds_toArray, List.set_cons_zero, List.set_cons_succ]
              refine wpAnyH_take (i := 7) (oi := { dst := some 68, op := Op.call { callee := Callee.value (Operand.func 15), args := #[Operand.tmp 66, Operand.tmp 67], argTypes := #[35, 3] }, type := 29, pos := "law.go:113", after := #[{ on := 5, ground := Ground.data }, { on := 6, ground := Ground.data }, { on := 4, ground := Ground.chain }, { on := 4, ground := Ground.guard }], guard := some (4, true) }) (v := undef) rfl (by kernel_rfl) (by kernel_rfl) (by kernel_rfl) (fun _ _ _ h => h) (Or.inr ⟨by kernel_rfl, rfl⟩) (by assumption) ?_
              try simp only [Act.put, List.setIfInBounds_toArray, List.set_cons_zero, List.set_cons_succ]
              refine wpAnyH_take (i := 8) (oi := { dst := some 69, op := Op.fieldAddr 31 (Operand.tmp 8) 2, type := 0, pos := "law.go:113", after := #[{ on := 4, ground := Ground.guard }], guard := some (4, true) }) (v := undef) rfl (by kernel_rfl) (by kernel_rfl) (by kernel_rfl) (fun _ _ _ h => h) (Or.inr ⟨by kernel_rfl, rfl⟩) (by assumption) ?_
              try simp only [Act.put, List.setIfInBounds_toArray, List.set_cons_zero, List.set_cons_succ]
              refine wpAnyH_take (i := 9) (oi := { dst := some 70, op := Op.load 29 (Operand.tmp 69), type := 29, pos := "law.go:113", after := #[{ on := 8, ground := Ground.data }, { on := 4, ground := Ground.guard }], guard := some (4, true) }) (v := undef) rfl (by kernel_rfl) (by kernel_rfl) (by kernel_rfl) (fun _ _ _ h => h) (Or.inr ⟨by kernel_rfl, rfl⟩) (by assumption) ?_
              try simp only [Act.put, List.setIfInBounds_toArray, List.set_cons_zero, List.set_cons_succ]
              refine wpAnyH_take (i := 10) (oi := { dst := some 71, op := Op.convert 29 26 (Operand.tmp 70), type := 26, pos := "law.go:113", after := #[{ on := 9, ground := Ground.data }, { on := 4, ground := Ground.guard }], guard := some (4, true) }) (v := undef) rfl (by kernel_rfl) (by kernel_rfl) (by kernel_rfl) (fun _ _ _ h => h) (Or.inr ⟨by kernel_rfl, rfl⟩) (by assumption) ?_
              try simp only [Act.put, List.setIfInBounds_toArray, List.set_cons_zero, List.set_cons_succ]
              refine wpAnyH_take (i := 11) (oi := { dst := some 72, op := Op.move (Operand.tmp 9), type := 3, pos := "law.go:113", after := #[{ on := 4, ground := Ground.guard }], guard := some (4, true) }) (v := undef) rfl (by kernel_rfl) (by kernel_rfl) (by kernel_rfl) (fun _ _ _ h => h) (Or.inr ⟨by kernel_rfl, rfl⟩) (by assumption) ?_
              try simp only [Act.put, List.setIfInBounds_toArray, List.set_cons_zero, List.set_cons_succ]
              refine wpAnyH_take (i := 12) (oi := { dst := some 73, op := Op.binOp BinOp.shl 26 (Operand.const (Value.int IntKind.u64 1)) (Operand.tmp 72) 3, type := 26, pos := "law.go:113", after := #[{ on := 11, ground := Ground.data }, { on := 4, ground := Ground.guard }], guard := some (4, true) }) (v := undef) rfl (by kernel_rfl) (by kernel_rfl) (by kernel_rfl) (fun _ _ _ h => h) (Or.inr ⟨by kernel_rfl, rfl⟩) (by assumption) ?_
              try simp only [Act.put, List.setIfInBounds_toArray, List.set_cons_zero, List.set_cons_succ]
              refine wpAnyH_take (i := 13) (oi := { dst := some 74, op := Op.binOp BinOp.sub 26 (Operand.tmp 73) (Operand.const (Value.int IntKind.u64 1)) 26, type := 26, pos := "law.go:113", after := #[{ on := 12, ground := Ground.data }, { on := 4, ground := Ground.guard }], guard := some (4, true) }) (v := undef) rfl (by kernel_rfl) (by kernel_rfl) (by kernel_rfl) (fun _ _ _ h => h) (Or.inr ⟨by kernel_rfl, rfl⟩) (by assumption) ?_
              try simp only [Act.put, List.setIfInBounds_toArray, List.set_cons_zero, List.set_cons_succ]
              refine wpAnyH_take (i := 14) (oi := { dst := some 75, op := Op.binOp BinOp.and 26 (Operand.tmp 71) (Operand.tmp 74) 26, type := 26, pos := "law.go:113", after := #[{ on := 10, ground := Ground.data }, { on := 13, ground := Ground.data }, { on := 4, ground := Ground.guard }], guard := some (4, true) }) (v := undef) rfl (by kernel_rfl) (by kernel_rfl) (by kernel_rfl) (fun _ _ _ h => h) (Or.inr ⟨by kernel_rfl, rfl⟩) (by assumption) ?_
              try simp only [Act.put, List.setIfInBounds_toArray, List.set_cons_zero, List.set_cons_succ]
              refine wpAnyH_take (i := 15) (oi := { dst := some 76, op := Op.convert 26 29 (Operand.tmp 75), type := 29, pos := "law.go:113", after := #[{ on := 14, ground := Ground.data }, { on := 4, ground := Ground.guard }], guard := some (4, true) }) (v := undef) rfl (by kernel_rfl) (by kernel_rfl) (by kernel_rfl) (fun _ _ _ h => h) (Or.inr ⟨by kernel_rfl, rfl⟩) (by assumption) ?_
              try simp only [Act.put, List.setIfInBounds_toArray, List.set_cons_zero, List.set_cons_succ]
              refine wpAnyH_take (i := 16) (oi := { dst := some 77, op := Op.binOp BinOp.neq 29 (Operand.tmp 68) (Operand.tmp 76) 29, type := 4, pos := "law.go:113", after := #[{ on := 7, ground := Ground.data }, { on := 15, ground := Ground.data }, { on := 4, ground := Ground.guard }], guard := some (4, true) }) (v := undef) rfl (by kernel_rfl) (by kernel_rfl) (by kernel_rfl) (fun _ _ _ h => h) (Or.inr ⟨by kernel_rfl, rfl⟩) (by assumption) ?_
              try simp only [Act.put, List.setIfInBounds_toArray, List.set_cons_zero, List.set_cons_succ]
              refine wpAnyH_take (i := 17) (oi := { dst := some 78, op := Op.pick (Operand.tmp 65) (Operand.tmp 77) (Operand.const (Value.bool false)), type := 4, pos := "law.go:113", after := #[{ on := 4, ground := Ground.data }, { on := 16, ground := Ground.data }], guard := none }) (v := .bool false) rfl (by kernel_rfl) (by kernel_rfl) (by kernel_rfl) (fun _ _ _ h => h) (Or.inl ⟨by kernel_rfl, ?hy17⟩) (by assumption) ?_
              case hy17 =>
                intro ww hSw
                obtain ⟨s0, s2⟩ := hSw
                go_simp
                try with_reducible rfl
              try simp only [Act.put, List.setIfInBounds_toArray, List.set_cons_zero, List.set_cons_succ]
              refine wpAnyH_take (i := 18) (oi := { dst := some 79, op := Op.move (Operand.tmp 78), type := 4, pos := "law.go:113", after := #[{ on := 17, ground := Ground.data }, { on := 7, ground := Ground.chain }], guard := none }) (v := .bool false) rfl (by kernel_rfl) (by kernel_rfl) (by kernel_rfl) (fun _ _ _ h => h) (Or.inl ⟨by kernel_rfl, ?hy18⟩) (by assumption) ?_
              case hy18 =>
                intro ww hSw
                obtain ⟨s0, s2⟩ := hSw
                go_simp
                try with_reducible rfl
              try simp only [Act.put, List.setIfInBounds_toArray, List.set_cons_zero, List.set_cons_succ]
              refine wpAnyH_take (i := 19) (oi := { dst := some 80, op := Op.fieldAddr 31 (Operand.tmp 8) 0, type := 0, pos := "law.go:113", after := #[{ on := 18, ground := Ground.guard }], guard := some (18, false) }) (v := ?v19) rfl (by kernel_rfl) (by kernel_rfl) (by kernel_rfl) (fun _ _ _ h => h) (Or.inl ⟨by kernel_rfl, ?hy19⟩) (by assumption) ?_
              case hy19 =>
                intro ww hSw
                obtain ⟨s0, s2⟩ := hSw
                go_simp
                try with_reducible rfl
              try simp only [Act.put, List.setIfInBounds_toArray, List.set_cons_zero, List.set_cons_succ]
              refine wpAnyH_take (i := 20) (oi := { dst := some 81, op := Op.load 3 (Operand.tmp 80), type := 3, pos := "law.go:113", after := #[{ on := 19, ground := Ground.data }, { on := 18, ground := Ground.guard }], guard := some (18, false) }) (v := ?v20) rfl (by kernel_rfl) (by kernel_rfl) (by kernel_rfl) (fun _ _ _ h => h) (Or.inl ⟨by kernel_rfl, ?hy20⟩) (by assumption) ?_
              case hy20 =>
                intro ww hSw
                obtain ⟨s0, s2⟩ := hSw
                go_simp
                try with_reducible rfl
              try simp only [Act.put, List.setIfInBounds_toArray, List.set_cons_zero, List.set_cons_succ]
              refine wpAnyH_take (i := 21) (oi := { dst := some 82, op := Op.binOp BinOp.rem 3 (Operand.tmp 81) (Operand.const (Value.int IntKind.i64 2)) 3, type := 3, pos := "law.go:113", after := #[{ on := 20, ground := Ground.data }, { on := 18, ground := Ground.guard }], guard := some (18, false) }) (v := .int .i64 (1)) rfl (by kernel_rfl) (by kernel_rfl) (by kernel_rfl) (fun _ _ _ h => h) (Or.inl ⟨by kernel_rfl, ?hy21⟩) (by assumption) ?_
              case hy21 =>
                intro ww hSw
                obtain ⟨s0, s2⟩ := hSw
                go_simp
                try with_reducible rfl
              try simp only [Act.put, List.setIfInBounds_toArray, List.set_cons_zero, List.set_cons_succ]
              refine wpAnyH_take (i := 22) (oi := { dst := some 83, op := Op.binOp BinOp.neq 3 (Operand.tmp 82) (Operand.const (Value.int IntKind.i64 0)) 3, type := 4, pos := "law.go:113", after := #[{ on := 21, ground := Ground.data }, { on := 18, ground := Ground.guard }], guard := some (18, false) }) (v := .bool true) rfl (by kernel_rfl) (by kernel_rfl) (by kernel_rfl) (fun _ _ _ h => h) (Or.inl ⟨by kernel_rfl, ?hy22⟩) (by assumption) ?_
              case hy22 =>
                intro ww hSw
                obtain ⟨s0, s2⟩ := hSw
                go_simp
                try with_reducible rfl
              try simp only [Act.put, List.setIfInBounds_toArray, List.set_cons_zero, List.set_cons_succ]
              refine wpAnyH_take (i := 23) (oi := { dst := some 84, op := Op.move (Operand.tmp 83), type := 4, pos := "law.go:113", after := #[{ on := 22, ground := Ground.data }, { on := 18, ground := Ground.chain }, { on := 18, ground := Ground.guard }], guard := some (18, false) }) (v := .bool true) rfl (by kernel_rfl) (by kernel_rfl) (by kernel_rfl) (fun _ _ _ h => h) (Or.inl ⟨by kernel_rfl, ?hy23⟩) (by assumption) ?_
              case hy23 =>
                intro ww hSw
                obtain ⟨s0, s2⟩ := hSw
                go_simp
                try with_reducible rfl
              try simp only [Act.put, List.setIfInBounds_toArray, List.set_cons_zero, List.set_cons_succ]
              refine wpAnyH_take (i := 24) (oi := { dst := some 85, op := Op.move (Operand.tmp 6), type := 35, pos := "law.go:113", after := #[{ on := 23, ground := Ground.guard }], guard := some (23, true) }) (v := ?v24) rfl (by kernel_rfl) (by kernel_rfl) (by kernel_rfl) (fun _ _ _ h => h) (Or.inl ⟨by kernel_rfl, ?hy24⟩) (by assumption) ?_
              case hy24 =>
                intro ww hSw
                obtain ⟨s0, s2⟩ := hSw
                go_simp
                try with_reducible rfl
              try simp only [Act.put, List.setIfInBounds_toArray, List.set_cons_zero, List.set_cons_succ]
              refine wpAnyH_take (i := 25) (oi := { dst := some 86, op := Op.fieldAddr 31 (Operand.tmp 8) 3, type := 0, pos := "law.go:113", after := #[{ on := 23, ground := Ground.guard }], guard := some (23, true) }) (v := ?v25) rfl (by kernel_rfl) (by kernel_rfl) (by kernel_rfl) (fun _ _ _ h => h) (Or.inl ⟨by kernel_rfl, ?hy25⟩) (by assumption) ?_
              case hy25 =>
                intro ww hSw
                obtain ⟨s0, s2⟩ := hSw
                go_simp
                try with_reducible rfl
              try simp only [Act.put, List.setIfInBounds_toArray, List.set_cons_zero, List.set_cons_succ]
              refine wpAnyH_take (i := 26) (oi := { dst := some 87, op := Op.load 9 (Operand.tmp 86), type := 9, pos := "law.go:113", after := #[{ on := 25, ground := Ground.data }, { on := 23, ground := Ground.guard }], guard := some (23, true) }) (v := ?v26) rfl (by kernel_rfl) (by kernel_rfl) (by kernel_rfl) (fun _ _ _ h => h) (Or.inl ⟨by kernel_rfl, ?hy26⟩) (by assumption) ?_
              case hy26 =>
                intro ww hSw
                obtain ⟨s0, s2⟩ := hSw
                go_simp
                try with_reducible rfl
              try simp only [Act.put, List.setIfInBounds_toArray, List.set_cons_zero, List.set_cons_succ]
              refine wpAnyH_take (i := 27) (oi := { dst := some 88, op := Op.call { callee := Callee.builtin Builtin.len, args := #[Operand.tmp 87], argTypes := #[9] }, type := 3, pos := "law.go:113", after := #[{ on := 26, ground := Ground.data }, { on := 23, ground := Ground.guard }], guard := some (23, true) }) (v := ?v27) rfl (by kernel_rfl) (by kernel_rfl) (by kernel_rfl) (fun _ _ _ h => h) (Or.inl ⟨by kernel_rfl, ?hy27⟩) (by assumption) ?_
              case hy27 =>
                intro ww hSw
                obtain ⟨s0, s2⟩ := hSw
                go_simp
                try with_reducible rfl
              try simp only [Act.put, List.setIfInBounds_toArray, List.set_cons_zero, List.set_cons_succ]
              refine wpAnyH_take (i := 29) (oi := { dst := some 90, op := Op.fieldAddr 31 (Operand.tmp 8) 3, type := 0, pos := "law.go:113", after := #[{ on := 23, ground := Ground.guard }], guard := some (23, true) }) (v := ?v29) rfl (by kernel_rfl) (by kernel_rfl) (by kernel_rfl) (fun _ _ _ h => h) (Or.inl ⟨by kernel_rfl, ?hy29⟩) (by assumption) ?_
              case hy29 =>
                intro ww hSw
                obtain ⟨s0, s2⟩ := hSw
                go_simp
                try with_reducible rfl
              try simp only [Act.put, List.setIfInBounds_toArray, List.set_cons_zero, List.set_cons_succ]
              refine wpAnyH_take (i := 30) (oi := { dst := some 91, op := Op.load 9 (Operand.tmp 90), type := 9, pos := "law.go:113", after := #[{ on := 29, ground := Ground.data }, { on := 23, ground := Ground.guard }], guard := some (23, true) }) (v := ?v30) rfl (by kernel_rfl) (by kernel_rfl) (by kernel_rfl) (fun _ _ _ h => h) (Or.inl ⟨by kernel_rfl, ?hy30⟩) (by assumption) ?_
              case hy30 =>
                intro ww hSw
                obtain ⟨s0, s2⟩ := hSw
                go_simp
                try with_reducible rfl
              try simp only [Act.put, List.setIfInBounds_toArray, List.set_cons_zero, List.set_cons_succ]
              refine wpAnyH_ready (rs := [28]) (by kernel_rfl) (by simp) ?_
              refine AllReadyH.cons (o := { dst := some 89, op := Op.call { callee := Callee.value (Operand.func 16), args := #[Operand.tmp 85, Operand.tmp 88], argTypes := #[35, 3] }, type := 9, pos := "law.go:113", after := #[{ on := 24, ground := Ground.data }, { on := 27, ground := Ground.data }, { on := 23, ground := Ground.chain }, { on := 23, ground := Ground.guard }], guard := some (23, true) }) rfl (fun K hK => ?_) AllReadyH.nil
              go_simp
              refine (HREAD.out _ ?hr).mono ?_
              case hr => exact HR4.out
              rintro r1 x1 ⟨rfl, hr1, hg1⟩
              have k0 := hfar x1 0 _ hn0 (by exact hg1)
              have k3 := hfar x1 3 _ hn3 (by exact hg1)
              refine hK.out _ _ ?hS (fun hHeld2 => ?_)
              case hS => exact ⟨k0, k3⟩
              clear hK K hHeld
              try simp only [Act.put, List.setIfInBounds_toArray, List.set_cons_zero, List.set_cons_succ]
              refine wpAnyH_take (i := 31) (oi := { dst := some 92, op := Op.binOp BinOp.neq 9 (Operand.tmp 89) (Operand.tmp 91) 9, type := 4, pos := "law.go:113", after := #[{ on := 28, ground := Ground.data }, { on := 30, ground := Ground.data }, { on := 23, ground := Ground.guard }], guard := some (23, true) }) (v := ?v31) rfl (by kernel_rfl) (by kernel_rfl) (by kernel_rfl) (fun _ _ _ h => h) (Or.inl ⟨by kernel_rfl, ?hy31⟩) (by assumption) ?_
              case hy31 =>
                intro ww hSw
                obtain ⟨s0, s2⟩ := hSw
                go_simp
                try with_reducible rfl
              try simp only [Act.put, List.setIfInBounds_toArray, List.set_cons_zero, List.set_cons_succ]
              refine wpAnyH_take (i := 32) (oi := { dst := some 93, op := Op.pick (Operand.tmp 84) (Operand.tmp 92) (Operand.const (Value.bool false)), type := 4, pos := "law.go:113", after := #[{ on := 23, ground := Ground.data }, { on := 31, ground := Ground.data }, { on := 18, ground := Ground.guard }], guard := some (18, false) }) (v := ?v32) rfl (by kernel_rfl) (by kernel_rfl) (by kernel_rfl) (fun _ _ _ h => h) (Or.inl ⟨by kernel_rfl, ?hy32⟩) (by assumption) ?_
              case hy32 =>
                intro ww hSw
                obtain ⟨s0, s2⟩ := hSw
                go_simp
                try with_reducible rfl
              try simp only [Act.put, List.setIfInBounds_toArray, List.set_cons_zero, List.set_cons_succ]
              refine wpAnyH_take (i := 33) (oi := { dst := some 94, op := Op.pick (Operand.tmp 79) (Operand.const (Value.bool true)) (Operand.tmp 93), type := 4, pos := "law.go:113", after := #[{ on := 18, ground := Ground.data }, { on := 32, ground := Ground.data }], guard := none }) (v := ?v33) rfl (by kernel_rfl) (by kernel_rfl) (by kernel_rfl) (fun _ _ _ h => h) (Or.inl ⟨by kernel_rfl, ?hy33⟩) (by assumption) ?_
              case hy33 =>
                intro ww hSw
                obtain ⟨s0, s2⟩ := hSw
                go_simp
                try with_reducible rfl
              try simp only [Act.put, List.setIfInBounds_toArray, List.set_cons_zero, List.set_cons_succ]
              refine wpAnyH_done (by kernel_rfl) ?_ _
              all_goals
                have HX : Hid (Rd 82 x1 gr T (st f (j + 1)).2 0 ∧ Wr x1 w.heap.size gc r (st f k).1 (st f k).2 ∧ Below w.heap.size w x1) := ⟨by rw [HSJ.out]; exact hr1, HKEEP.out x1 (by exact hg1), HBEL.out x1 (by exact hg1)⟩
                clear k0 k3 hr1 hg1 hn0 hn3
                go_wp2_with fail
                go_roundw
                case rel => exact ⟨j + 1, by omega, by go_num, HX.out.1, HX.out.2.1, HX.out.2.2⟩
                case measure =>
                  simp only [intOf]
                  omega
            · have hn0 := HN0.out
              have hn3 := HN3.out
              refine wp_region_held_drew (S := fun ww => ww.cell? ⟨ga, 0, none⟩ = some (.int .i64 dk) ∧ ww.cell? ⟨ga, 3, none⟩ = some (.string sk)) (by kernel_rfl) ⟨hn0, hn3⟩ (fun hHeld => ?_)
              refine wpAnyH_take (i := 0) (oi := { dst := some 61, op := Op.fieldAddr 31 (Operand.tmp 8) 0, type := 0, pos := "law.go:113", after := #[], guard := none }) (v := ?v0) rfl (by kernel_rfl) (by kernel_rfl) (by kernel_rfl) (fun _ _ _ h => h) (Or.inl ⟨by kernel_rfl, ?hy0⟩) (by assumption) ?_
              case hy0 =>
                intro ww hSw
                obtain ⟨s0, s2⟩ := hSw
                go_simp
                try with_reducible rfl
              try simp only [Act.put, List.setIfInBounds_toArray, List.set_cons_zero, List.set_cons_succ]
              refine wpAnyH_take (i := 1) (oi := { dst := some 62, op := Op.load 3 (Operand.tmp 61), type := 3, pos := "law.go:113", after := #[{ on := 0, ground := Ground.data }], guard := none }) (v := ?v1) rfl (by kernel_rfl) (by kernel_rfl) (by kernel_rfl) (fun _ _ _ h => h) (Or.inl ⟨by kernel_rfl, ?hy1⟩) (by assumption) ?_
              case hy1 =>
                intro ww hSw
                obtain ⟨s0, s2⟩ := hSw
                go_simp
                try with_reducible rfl
              try simp only [Act.put, List.setIfInBounds_toArray, List.set_cons_zero, List.set_cons_succ]
              refine wpAnyH_take (i := 2) (oi := { dst := some 63, op := Op.binOp BinOp.rem 3 (Operand.tmp 62) (Operand.const (Value.int IntKind.i64 2)) 3, type := 3, pos := "law.go:113", after := #[{ on := 1, ground := Ground.data }], guard := none }) (v := .int .i64 (-1)) rfl (by kernel_rfl) (by kernel_rfl) (by kernel_rfl) (fun _ _ _ h => h) (Or.inl ⟨by kernel_rfl, ?hy2⟩) (by assumption) ?_
              case hy2 =>
                intro ww hSw
                obtain ⟨s0, s2⟩ := hSw
                go_simp
                try with_reducible rfl
              try simp only [Act.put, List.setIfInBounds_toArray, List.set_cons_zero, List.set_cons_succ]
              refine wpAnyH_take (i := 3) (oi := { dst := some 64, op := Op.binOp BinOp.eql 3 (Operand.tmp 63) (Operand.const (Value.int IntKind.i64 0)) 3, type := 4, pos := "law.go:113", after := #[{ on := 2, ground := Ground.data }], guard := none }) (v := .bool false) rfl (by kernel_rfl) (by kernel_rfl) (by kernel_rfl) (fun _ _ _ h => h) (Or.inl ⟨by kernel_rfl, ?hy3⟩) (by assumption) ?_
              case hy3 =>
                intro ww hSw
                obtain ⟨s0, s2⟩ := hSw
                go_simp
                try with_reducible rfl
              try simp only [Act.put, List.setIfInBounds_toArray, List.set_cons_zero, List.set_cons_succ]
              refine wpAnyH_take (i := 4) (oi := { dst := some 65, op := Op.move (Operand.tmp 64), type := 4, pos := "law.go:113", after := #[{ on := 3, ground := Ground.data }], guard := none }) (v := .bool false) rfl (by kernel_rfl) (by kernel_rfl) (by kernel_rfl) (fun _ _ _ h => h) (Or.inl ⟨by kernel_rfl, ?hy4⟩) (by assumption) ?_
              case hy4 =>
                intro ww hSw
                obtain ⟨s0, s2⟩ := hSw
                go_simp
                try with_reducible rfl
              try simp only [Act.put, List.setIfInBounds_toArray, List.set_cons_zero, List.set_cons_succ]
              refine wpAnyH_take (i := 5) (oi := { dst := some 66, op := Op.move (Operand.tmp 6), type := 35, pos := "law.go:113", after := #[{ on := 4, ground := Ground.guard }], guard := some (4, true) }) (v := undef) rfl (by kernel_rfl) (by kernel_rfl) (by kernel_rfl) (fun _ _ _ h => h) (Or.inr ⟨by kernel_rfl, rfl⟩) (by assumption) ?_
              try simp only [Act.put, List.setIfInBounds_toArray, List.set_cons_zero, List.set_cons_succ]
              refine wpAnyH_take (i := 6) (oi := { dst := some 67, op := Op.move (Operand.tmp 9), type := 3, pos := "law.go:113", after := #[{ on := 4, ground := Ground.guard }], guard := some (4, true) }) (v := undef) rfl (by kernel_rfl) (by kernel_rfl) (by kernel_rfl) (fun _ _ _ h => h) (Or.inr ⟨by kernel_rfl, rfl⟩) (by assumption) ?_
              try simp only [Act.put, List.setIfInBounds_toArray, List.set_cons_zero, List.set_cons_succ]
              refine wpAnyH_take (i := 7) (oi := { dst := some 68, op := Op.call { callee := Callee.value (Operand.func 15), args := #[Operand.tmp 66, Operand.tmp 67], argTypes := #[35, 3] }, type := 29, pos := "law.go:113", after := #[{ on := 5, ground := Ground.data }, { on := 6, ground := Ground.data }, { on := 4, ground := Ground.chain }, { on := 4, ground := Ground.guard }], guard := some (4, true) }) (v := undef) rfl (by kernel_rfl) (by kernel_rfl) (by kernel_rfl) (fun _ _ _ h => h) (Or.inr ⟨by kernel_rfl, rfl⟩) (by assumption) ?_
              try simp only [Act.put, List.setIfInBounds_toArray, List.set_cons_zero, List.set_cons_succ]
              refine wpAnyH_take (i := 8) (oi := { dst := some 69, op := Op.fieldAddr 31 (Operand.tmp 8) 2, type := 0, pos := "law.go:113", after := #[{ on := 4, ground := Ground.guard }], guard := some (4, true) }) (v := undef) rfl (by kernel_rfl) (by kernel_rfl) (by kernel_rfl) (fun _ _ _ h => h) (Or.inr ⟨by kernel_rfl, rfl⟩) (by assumption) ?_
              try simp only [Act.put, List.setIfInBounds_toArray, List.set_cons_zero, List.set_cons_succ]
              refine wpAnyH_take (i := 9) (oi := { dst := some 70, op := Op.load 29 (Operand.tmp 69), type := 29, pos := "law.go:113", after := #[{ on := 8, ground := Ground.data }, { on := 4, ground := Ground.guard }], guard := some (4, true) }) (v := undef) rfl (by kernel_rfl) (by kernel_rfl) (by kernel_rfl) (fun _ _ _ h => h) (Or.inr ⟨by kernel_rfl, rfl⟩) (by assumption) ?_
              try simp only [Act.put, List.setIfInBounds_toArray, List.set_cons_zero, List.set_cons_succ]
              refine wpAnyH_take (i := 10) (oi := { dst := some 71, op := Op.convert 29 26 (Operand.tmp 70), type := 26, pos := "law.go:113", after := #[{ on := 9, ground := Ground.data }, { on := 4, ground := Ground.guard }], guard := some (4, true) }) (v := undef) rfl (by kernel_rfl) (by kernel_rfl) (by kernel_rfl) (fun _ _ _ h => h) (Or.inr ⟨by kernel_rfl, rfl⟩) (by assumption) ?_
              try simp only [Act.put, List.setIfInBounds_toArray, List.set_cons_zero, List.set_cons_succ]
              refine wpAnyH_take (i := 11) (oi := { dst := some 72, op := Op.move (Operand.tmp 9), type := 3, pos := "law.go:113", after := #[{ on := 4, ground := Ground.guard }], guard := some (4, true) }) (v := undef) rfl (by kernel_rfl) (by kernel_rfl) (by kernel_rfl) (fun _ _ _ h => h) (Or.inr ⟨by kernel_rfl, rfl⟩) (by assumption) ?_
              try simp only [Act.put, List.setIfInBounds_toArray, List.set_cons_zero, List.set_cons_succ]
              refine wpAnyH_take (i := 12) (oi := { dst := some 73, op := Op.binOp BinOp.shl 26 (Operand.const (Value.int IntKind.u64 1)) (Operand.tmp 72) 3, type := 26, pos := "law.go:113", after := #[{ on := 11, ground := Ground.data }, { on := 4, ground := Ground.guard }], guard := some (4, true) }) (v := undef) rfl (by kernel_rfl) (by kernel_rfl) (by kernel_rfl) (fun _ _ _ h => h) (Or.inr ⟨by kernel_rfl, rfl⟩) (by assumption) ?_
              try simp only [Act.put, List.setIfInBounds_toArray, List.set_cons_zero, List.set_cons_succ]
              refine wpAnyH_take (i := 13) (oi := { dst := some 74, op := Op.binOp BinOp.sub 26 (Operand.tmp 73) (Operand.const (Value.int IntKind.u64 1)) 26, type := 26, pos := "law.go:113", after := #[{ on := 12, ground := Ground.data }, { on := 4, ground := Ground.guard }], guard := some (4, true) }) (v := undef) rfl (by kernel_rfl) (by kernel_rfl) (by kernel_rfl) (fun _ _ _ h => h) (Or.inr ⟨by kernel_rfl, rfl⟩) (by assumption) ?_
              try simp only [Act.put, List.setIfInBounds_toArray, List.set_cons_zero, List.set_cons_succ]
              refine wpAnyH_take (i := 14) (oi := { dst := some 75, op := Op.binOp BinOp.and 26 (Operand.tmp 71) (Operand.tmp 74) 26, type := 26, pos := "law.go:113", after := #[{ on := 10, ground := Ground.data }, { on := 13, ground := Ground.data }, { on := 4, ground := Ground.guard }], guard := some (4, true) }) (v := undef) rfl (by kernel_rfl) (by kernel_rfl) (by kernel_rfl) (fun _ _ _ h => h) (Or.inr ⟨by kernel_rfl, rfl⟩) (by assumption) ?_
              try simp only [Act.put, List.setIfInBounds_toArray, List.set_cons_zero, List.set_cons_succ]
              refine wpAnyH_take (i := 15) (oi := { dst := some 76, op := Op.convert 26 29 (Operand.tmp 75), type := 29, pos := "law.go:113", after := #[{ on := 14, ground := Ground.data }, { on := 4, ground := Ground.guard }], guard := some (4, true) }) (v := undef) rfl (by kernel_rfl) (by kernel_rfl) (by kernel_rfl) (fun _ _ _ h => h) (Or.inr ⟨by kernel_rfl, rfl⟩) (by assumption) ?_
              try simp only [Act.put, List.setIfInBounds_toArray, List.set_cons_zero, List.set_cons_succ]
              refine wpAnyH_take (i := 16) (oi := { dst := some 77, op := Op.binOp BinOp.neq 29 (Operand.tmp 68) (Operand.tmp 76) 29, type := 4, pos := "law.go:113", after := #[{ on := 7, ground := Ground.data }, { on := 15, ground := Ground.data }, { on := 4, ground := Ground.guard }], guard := some (4, true) }) (v := undef) rfl (by kernel_rfl) (by kernel_rfl) (by kernel_rfl) (fun _ _ _ h => h) (Or.inr ⟨by kernel_rfl, rfl⟩) (by assumption) ?_
              try simp only [Act.put, List.setIfInBounds_toArray, List.set_cons_zero, List.set_cons_succ]
              refine wpAnyH_take (i := 17) (oi := { dst := some 78, op := Op.pick (Operand.tmp 65) (Operand.tmp 77) (Operand.const (Value.bool false)), type := 4, pos := "law.go:113", after := #[{ on := 4, ground := Ground.data }, { on := 16, ground := Ground.data }], guard := none }) (v := .bool false) rfl (by kernel_rfl) (by kernel_rfl) (by kernel_rfl) (fun _ _ _ h => h) (Or.inl ⟨by kernel_rfl, ?hy17⟩) (by assumption) ?_
              case hy17 =>
                intro ww hSw
                obtain ⟨s0, s2⟩ := hSw
                go_simp
                try with_reducible rfl
              try simp only [Act.put, List.setIfInBounds_toArray, List.set_cons_zero, List.set_cons_succ]
              refine wpAnyH_take (i := 18) (oi := { dst := some 79, op := Op.move (Operand.tmp 78), type := 4, pos := "law.go:113", after := #[{ on := 17, ground := Ground.data }, { on := 7, ground := Ground.chain }], guard := none }) (v := .bool false) rfl (by kernel_rfl) (by kernel_rfl) (by kernel_rfl) (fun _ _ _ h => h) (Or.inl ⟨by kernel_rfl, ?hy18⟩) (by assumption) ?_
              case hy18 =>
                intro ww hSw
                obtain ⟨s0, s2⟩ := hSw
                go_simp
                try with_reducible rfl
              try simp only [Act.put, List.setIfInBounds_toArray, List.set_cons_zero, List.set_cons_succ]
              refine wpAnyH_take (i := 19) (oi := { dst := some 80, op := Op.fieldAddr 31 (Operand.tmp 8) 0, type := 0, pos := "law.go:113", after := #[{ on := 18, ground := Ground.guard }], guard := some (18, false) }) (v := ?v19) rfl (by kernel_rfl) (by kernel_rfl) (by kernel_rfl) (fun _ _ _ h => h) (Or.inl ⟨by kernel_rfl, ?hy19⟩) (by assumption) ?_
              case hy19 =>
                intro ww hSw
                obtain ⟨s0, s2⟩ := hSw
                go_simp
                try with_reducible rfl
              try simp only [Act.put, List.setIfInBounds_toArray, List.set_cons_zero, List.set_cons_succ]
              refine wpAnyH_take (i := 20) (oi := { dst := some 81, op := Op.load 3 (Operand.tmp 80), type := 3, pos := "law.go:113", after := #[{ on := 19, ground := Ground.data }, { on := 18, ground := Ground.guard }], guard := some (18, false) }) (v := ?v20) rfl (by kernel_rfl) (by kernel_rfl) (by kernel_rfl) (fun _ _ _ h => h) (Or.inl ⟨by kernel_rfl, ?hy20⟩) (by assumption) ?_
              case hy20 =>
                intro ww hSw
                obtain ⟨s0, s2⟩ := hSw
                go_simp
                try with_reducible rfl
              try simp only [Act.put, List.setIfInBounds_toArray, List.set_cons_zero, List.set_cons_succ]
              refine wpAnyH_take (i := 21) (oi := { dst := some 82, op := Op.binOp BinOp.rem 3 (Operand.tmp 81) (Operand.const (Value.int IntKind.i64 2)) 3, type := 3, pos := "law.go:113", after := #[{ on := 20, ground := Ground.data }, { on := 18, ground := Ground.guard }], guard := some (18, false) }) (v := .int .i64 (-1)) rfl (by kernel_rfl) (by kernel_rfl) (by kernel_rfl) (fun _ _ _ h => h) (Or.inl ⟨by kernel_rfl, ?hy21⟩) (by assumption) ?_
              case hy21 =>
                intro ww hSw
                obtain ⟨s0, s2⟩ := hSw
                go_simp
                try with_reducible rfl
              try simp only [Act.put, List.setIfInBounds_toArray, List.set_cons_zero, List.set_cons_succ]
              refine wpAnyH_take (i := 22) (oi := { dst := some 83, op := Op.binOp BinOp.neq 3 (Operand.tmp 82) (Operand.const (Value.int IntKind.i64 0)) 3, type := 4, pos := "law.go:113", after := #[{ on := 21, ground := Ground.data }, { on := 18, ground := Ground.guard }], guard := some (18, false) }) (v := .bool true) rfl (by kernel_rfl) (by kernel_rfl) (by kernel_rfl) (fun _ _ _ h => h) (Or.inl ⟨by kernel_rfl, ?hy22⟩) (by assumption) ?_
              case hy22 =>
                intro ww hSw
                obtain ⟨s0, s2⟩ := hSw
                go_simp
                try with_reducible rfl
              try simp only [Act.put, List.setIfInBounds_toArray, List.set_cons_zero, List.set_cons_succ]
              refine wpAnyH_take (i := 23) (oi := { dst := some 84, op := Op.move (Operand.tmp 83), type := 4, pos := "law.go:113", after := #[{ on := 22, ground := Ground.data }, { on := 18, ground := Ground.chain }, { on := 18, ground := Ground.guard }], guard := some (18, false) }) (v := .bool true) rfl (by kernel_rfl) (by kernel_rfl) (by kernel_rfl) (fun _ _ _ h => h) (Or.inl ⟨by kernel_rfl, ?hy23⟩) (by assumption) ?_
              case hy23 =>
                intro ww hSw
                obtain ⟨s0, s2⟩ := hSw
                go_simp
                try with_reducible rfl
              try simp only [Act.put, List.setIfInBounds_toArray, List.set_cons_zero, List.set_cons_succ]
              refine wpAnyH_take (i := 24) (oi := { dst := some 85, op := Op.move (Operand.tmp 6), type := 35, pos := "law.go:113", after := #[{ on := 23, ground := Ground.guard }], guard := some (23, true) }) (v := ?v24) rfl (by kernel_rfl) (by kernel_rfl) (by kernel_rfl) (fun _ _ _ h => h) (Or.inl ⟨by kernel_rfl, ?hy24⟩) (by assumption) ?_
              case hy24 =>
                intro ww hSw
                obtain ⟨s0, s2⟩ := hSw
                go_simp
                try with_reducible rfl
              try simp only [Act.put, List.setIfInBounds_toArray, List.set_cons_zero, List.set_cons_succ]
              refine wpAnyH_take (i := 25) (oi := { dst := some 86, op := Op.fieldAddr 31 (Operand.tmp 8) 3, type := 0, pos := "law.go:113", after := #[{ on := 23, ground := Ground.guard }], guard := some (23, true) }) (v := ?v25) rfl (by kernel_rfl) (by kernel_rfl) (by kernel_rfl) (fun _ _ _ h => h) (Or.inl ⟨by kernel_rfl, ?hy25⟩) (by assumption) ?_
              case hy25 =>
                intro ww hSw
                obtain ⟨s0, s2⟩ := hSw
                go_simp
                try with_reducible rfl
              try simp only [Act.put, List.setIfInBounds_toArray, List.set_cons_zero, List.set_cons_succ]
              refine wpAnyH_take (i := 26) (oi := { dst := some 87, op := Op.load 9 (Operand.tmp 86), type := 9, pos := "law.go:113", after := #[{ on := 25, ground := Ground.data }, { on := 23, ground := Ground.guard }], guard := some (23, true) }) (v := ?v26) rfl (by kernel_rfl) (by kernel_rfl) (by kernel_rfl) (fun _ _ _ h => h) (Or.inl ⟨by kernel_rfl, ?hy26⟩) (by assumption) ?_
              case hy26 =>
                intro ww hSw
                obtain ⟨s0, s2⟩ := hSw
                go_simp
                try with_reducible rfl
              try simp only [Act.put, List.setIfInBounds_toArray, List.set_cons_zero, List.set_cons_succ]
              refine wpAnyH_take (i := 27) (oi := { dst := some 88, op := Op.call { callee := Callee.builtin Builtin.len, args := #[Operand.tmp 87], argTypes := #[9] }, type := 3, pos := "law.go:113", after := #[{ on := 26, ground := Ground.data }, { on := 23, ground := Ground.guard }], guard := some (23, true) }) (v := ?v27) rfl (by kernel_rfl) (by kernel_rfl) (by kernel_rfl) (fun _ _ _ h => h) (Or.inl ⟨by kernel_rfl, ?hy27⟩) (by assumption) ?_
              case hy27 =>
                intro ww hSw
                obtain ⟨s0, s2⟩ := hSw
                go_simp
                try with_reducible rfl
              try simp only [Act.put, List.setIfInBounds_toArray, List.set_cons_zero, List.set_cons_succ]
              refine wpAnyH_take (i := 29) (oi := { dst := some 90, op := Op.fieldAddr 31 (Operand.tmp 8) 3, type := 0, pos := "law.go:113", after := #[{ on := 23, ground := Ground.guard }], guard := some (23, true) }) (v := ?v29) rfl (by kernel_rfl) (by kernel_rfl) (by kernel_rfl) (fun _ _ _ h => h) (Or.inl ⟨by kernel_rfl, ?hy29⟩) (by assumption) ?_
              case hy29 =>
                intro ww hSw
                obtain ⟨s0, s2⟩ := hSw
                go_simp
                try with_reducible rfl
              try simp only [Act.put, List.setIfInBounds_toArray, List.set_cons_zero, List.set_cons_succ]
              refine wpAnyH_take (i := 30) (oi := { dst := some 91, op := Op.load 9 (Operand.tmp 90), type := 9, pos := "law.go:113", after := #[{ on := 29, ground := Ground.data }, { on := 23, ground := Ground.guard }], guard := some (23, true) }) (v := ?v30) rfl (by kernel_rfl) (by kernel_rfl) (by kernel_rfl) (fun _ _ _ h => h) (Or.inl ⟨by kernel_rfl, ?hy30⟩) (by assumption) ?_
              case hy30 =>
                intro ww hSw
                obtain ⟨s0, s2⟩ := hSw
                go_simp
                try with_reducible rfl
              try simp only [Act.put, List.setIfInBounds_toArray, List.set_cons_zero, List.set_cons_succ]
              refine wpAnyH_ready (rs := [28]) (by kernel_rfl) (by simp) ?_
              refine AllReadyH.cons (o := { dst := some 89, op := Op.call { callee := Callee.value (Operand.func 16), args := #[Operand.tmp 85, Operand.tmp 88], argTypes := #[35, 3] }, type := 9, pos := "law.go:113", after := #[{ on := 24, ground := Ground.data }, { on := 27, ground := Ground.data }, { on := 23, ground := Ground.chain }, { on := 23, ground := Ground.guard }], guard := some (23, true) }) rfl (fun K hK => ?_) AllReadyH.nil
              go_simp
              refine (HREAD.out _ ?hr).mono ?_
              case hr => exact HR4.out
              rintro r1 x1 ⟨rfl, hr1, hg1⟩
              have k0 := hfar x1 0 _ hn0 (by exact hg1)
              have k3 := hfar x1 3 _ hn3 (by exact hg1)
              refine hK.out _ _ ?hS (fun hHeld2 => ?_)
              case hS => exact ⟨k0, k3⟩
              clear hK K hHeld
              try simp only [Act.put, List.setIfInBounds_toArray, List.set_cons_zero, List.set_cons_succ]
              refine wpAnyH_take (i := 31) (oi := { dst := some 92, op := Op.binOp BinOp.neq 9 (Operand.tmp 89) (Operand.tmp 91) 9, type := 4, pos := "law.go:113", after := #[{ on := 28, ground := Ground.data }, { on := 30, ground := Ground.data }, { on := 23, ground := Ground.guard }], guard := some (23, true) }) (v := ?v31) rfl (by kernel_rfl) (by kernel_rfl) (by kernel_rfl) (fun _ _ _ h => h) (Or.inl ⟨by kernel_rfl, ?hy31⟩) (by assumption) ?_
              case hy31 =>
                intro ww hSw
                obtain ⟨s0, s2⟩ := hSw
                go_simp
                try with_reducible rfl
              try simp only [Act.put, List.setIfInBounds_toArray, List.set_cons_zero, List.set_cons_succ]
              refine wpAnyH_take (i := 32) (oi := { dst := some 93, op := Op.pick (Operand.tmp 84) (Operand.tmp 92) (Operand.const (Value.bool false)), type := 4, pos := "law.go:113", after := #[{ on := 23, ground := Ground.data }, { on := 31, ground := Ground.data }, { on := 18, ground := Ground.guard }], guard := some (18, false) }) (v := ?v32) rfl (by kernel_rfl) (by kernel_rfl) (by kernel_rfl) (fun _ _ _ h => h) (Or.inl ⟨by kernel_rfl, ?hy32⟩) (by assumption) ?_
              case hy32 =>
                intro ww hSw
                obtain ⟨s0, s2⟩ := hSw
                go_simp
                try with_reducible rfl
              try simp only [Act.put, List.setIfInBounds_toArray, List.set_cons_zero, List.set_cons_succ]
              refine wpAnyH_take (i := 33) (oi := { dst := some 94, op := Op.pick (Operand.tmp 79) (Operand.const (Value.bool true)) (Operand.tmp 93), type := 4, pos := "law.go:113", after := #[{ on := 18, ground := Ground.data }, { on := 32, ground := Ground.data }], guard := none }) (v := ?v33) rfl (by kernel_rfl) (by kernel_rfl) (by kernel_rfl) (fun _ _ _ h => h) (Or.inl ⟨by kernel_rfl, ?hy33⟩) (by assumption) ?_
              case hy33 =>
                intro ww hSw
                obtain ⟨s0, s2⟩ := hSw
                go_simp
                try with_reducible rfl
              try simp only [Act.put, List.setIfInBounds_toArray, List.set_cons_zero, List.set_cons_succ]
              refine wpAnyH_done (by kernel_rfl) ?_ _
              all_goals
                have HX : Hid (Rd 82 x1 gr T (st f (j + 1)).2 0 ∧ Wr x1 w.heap.size gc r (st f k).1 (st f k).2 ∧ Below w.heap.size w x1) := ⟨by rw [HSJ.out]; exact hr1, HKEEP.out x1 (by exact hg1), HBEL.out x1 (by exact hg1)⟩
                clear k0 k3 hr1 hg1 hn0 hn3
                go_wp2_with fail
                go_roundw
                case rel => exact ⟨j + 1, by omega, by go_num, HX.out.1, HX.out.2.1, HX.out.2.2⟩
                case measure =>
                  simp only [intOf]
                  omega
        · obtain rfl : j = k := by omega
          have hLk : (st f j).2 ≤ 1000000000 := by omega
          have KE := Lib.hid (err_any gr T _ 0 wr HR3.out)
          have KA := Lib.hid (at_any gr T _ 0 wr HR3.out)
          have KL := Lib.hid (wlen_any _ gc r _ _ hLk wr HW3.out)
          go_wp2_with (first | (go_at_call 17; refine (KE.out).mono ?_; rintro e3 w3 ⟨rfl, rfl⟩) | (go_at_call 18; refine (KA.out).mono ?_; rintro e3 w3 ⟨rfl, rfl⟩) | (go_at_call 19; refine (KL.out).mono ?_; rintro e3 w3 ⟨rfl, d3, rfl⟩))
          go_ret
          exact ⟨rfl, below_drewN HB3.out d3⟩

set_option maxRecDepth 100000 in
set_option maxHeartbeats 1000000 in
theorem bitsBack_long (p : Option Addr) (len cap : Nat) (h : 60 < len) (w : World) :
    Calls Try.prog 3 #[.slice p len cap] w fun e w' => e = .returned (.bool true) ∧ Below w.heap.size w w' := by
  go_enter Try.func3, Try.ntmps3
  go_wp2_with (go_at_call 10; refine (awake3_any _).mono ?_; rintro r wA ⟨rfl, hbA⟩)
  go_ret
  exact ⟨rfl, hbA⟩

/-- BitsBack, over a script that came in. -/
theorem bitsBack_walk (p : Option Addr) (len cap : Nat) (f : Nat → Act) (w : World) (hp : IsActs w p len f) :
    Calls Try.prog 3 #[.slice p len cap] w fun e w' => e = .returned (.bool true) ∧ Below w.heap.size w w' := by
  by_cases h60 : len ≤ 60
  · exact bitsBack_main p len cap f h60 w hp
  · exact bitsBack_long p len cap (by omega) w
end Go.Proofs.Ytljekdnjdcfliaa
