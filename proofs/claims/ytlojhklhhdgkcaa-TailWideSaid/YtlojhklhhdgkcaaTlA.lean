/-
  Rows of numbers as bytes (package tail).
-/
import Derived.Test.YtlojhklhhdgkcaaHdH
namespace Go.Proofs.Ytlojhklhhdgkcaa
set_option maxRecDepth 100000
set_option linter.unusedSimpArgs false
open Go.RowKit Go.Joins Go.Deep Go.Op
set_option maxHeartbeats 2000000 in
theorem row2_tail (A : Option Addr) (c : Nat) (l : List Nat) (hl : l.length ≤ 20) (hb : ∀ x ∈ l, x < 65536) (w : World) (hr : RdI w .u16 A l) :
    Calls Try.prog 19 #[.func (.func 20) #[] #[], .slice A l.length c] w fun e w' => e = .returned (.string (text (lesL 2 l))) ∧ Below w.heap.size w w' := by
  have HR := Lib.hid hr
  have HFR := Lib.hid (bd_freshE w)
  have HB0 := Lib.hid ((Below.refl w.heap.size w).alloc (Nat.le_refl _) (.cells #[.pointer none, .slice none 0 0] 67))
  have HS0 : Hid (w.heap.size + 1 ≤ (w.alloc (.cells #[.pointer none, .slice none 0 0] 67)).heap.size) := by show _ ≤ _; simp
  have HGET := Lib.hid (fun (k : Nat) (h : k < l.length) => List.getElem?_eq_getElem h)
  have HBD := Lib.hid (fun (k : Nat) (h : k < l.length) => hb _ (List.getElem_mem h))
  have HT := Lib.hid (fun (k x : Nat) (h : l[k]? = some x) => show lesL 2 (l.take (k + 1)) = lesL 2 (l.take k) ++ le x 2 by rw [take_snoc h]; simp [lesL])
  have HLL := Lib.hid (fun k => lesL_len 2 (l.take k))
  have HLT := Lib.hid (fun l => lesL_lt 2 l)
  have HALL : Hid (l.take l.length = l) := by show _ = _; rw [List.take_length]
  have HTL := Lib.hid (fun k => show (l.take k).length ≤ l.length by rw [List.length_take]; omega)
  clear hr hb
  go_enter Try.func19, Try.ntmps19
  go_wp2_with fail
  generalize w.alloc (.cells #[.pointer none, .slice none 0 0] 67) = w0 at *
  go_loopw [10] (fun i wr => ∃ k : Nat, k ≤ l.length ∧ i = .int .i64 (k : Nat) ∧ Bd wr w.heap.size w.heap.size (lesL 2 (l.take k)) ∧ Below w.heap.size w wr) (fun i _ => l.length - (intOf i).toNat)
  case atStart => exact ⟨0, Nat.zero_le _, rfl, HFR.out, HB0.out⟩
  case round =>
    clear HFR HB0 HS0
    obtain ⟨k, hk, rfl, hbd, hbel⟩ := hrel
    have hlen := HLL.out k
    have htl := HTL.out k
    have HD := Lib.hid hbd
    have HB := Lib.hid hbel
    clear hbd hbel
    generalize hM : lesL 2 (l.take k) = M at *
    have HM := Lib.hid hM
    clear hM
    by_cases hlt : k < l.length
    · have hx := HGET.out k hlt
      have hxb := HBD.out k hlt
      have hst := HT.out k _ hx
      obtain ⟨g, rfl⟩ := HR.out.slice (by omega)
      have hc := (HR.out.below HB.out).at hx
      generalize l[k] = x at *
      rw [HM.out] at hst
      have HST := Lib.hid hst
      clear hx hst
      go_wp2_with fail
      refine (two_any x hxb _).mono ?_; rintro e w1 ⟨rfl, hb1⟩
      have HD1 := Lib.hid (HD.out.below hb1)
      have HB1 := Lib.hid (below_then HB.out hb1)
      have hz : (text (le x 2)).size ≤ 1000000 := by rw [text_size, le_len]; omega
      have hn : nums (text (le x 2)) = le x 2 := nums_text _ (le_lt _ _)
      have HWS := Lib.hid (writeString_any w.heap.size w.heap.size (text (le x 2)) M w1 hz (by omega) HB1.out.size HD1.out)
      rw [hn] at HWS
      clear hb1 hz hn
      go_wp2_with fail
      refine (HWS.out).mono ?_; rintro e w2 ⟨rfl, hd2, hb2, _⟩
      have HD2 := Lib.hid hd2
      have HB2 := Lib.hid (HB1.out.trans hb2)
      clear hd2 hb2
      go_wp2_with fail
      go_roundw
      case rel => exact ⟨k + 1, by omega, by go_num, by rw [HST.out]; exact HD2.out, HB2.out⟩
      case measure => simp [intOf]; omega
    · obtain rfl : k = l.length := by omega
      have hM := HM.out
      rw [HALL.out] at hM
      subst hM
      have HSG := Lib.hid (bdString_any _ _ _ _ (HLT.out l) HB.out.size HD.out)
      clear hlen htl
      go_wp2_with fail
      refine (HSG.out).mono ?_; rintro e w2 ⟨rfl, hb2⟩
      have HB2 := Lib.hid (HB.out.trans hb2)
      clear hb2
      go_wp2_with fail
      go_ret
      exact ⟨rfl, HB2.out⟩
set_option maxHeartbeats 2000000 in
theorem row4_tail (A : Option Addr) (c : Nat) (l : List Nat) (hl : l.length ≤ 20) (hb : ∀ x ∈ l, x < 4294967296) (w : World) (hr : RdI w .u32 A l) :
    Calls Try.prog 21 #[.func (.func 22) #[] #[], .slice A l.length c] w fun e w' => e = .returned (.string (text (lesL 4 l))) ∧ Below w.heap.size w w' := by
  have HR := Lib.hid hr
  have HFR := Lib.hid (bd_freshE w)
  have HB0 := Lib.hid ((Below.refl w.heap.size w).alloc (Nat.le_refl _) (.cells #[.pointer none, .slice none 0 0] 67))
  have HS0 : Hid (w.heap.size + 1 ≤ (w.alloc (.cells #[.pointer none, .slice none 0 0] 67)).heap.size) := by show _ ≤ _; simp
  have HGET := Lib.hid (fun (k : Nat) (h : k < l.length) => List.getElem?_eq_getElem h)
  have HBD := Lib.hid (fun (k : Nat) (h : k < l.length) => hb _ (List.getElem_mem h))
  have HT := Lib.hid (fun (k x : Nat) (h : l[k]? = some x) => show lesL 4 (l.take (k + 1)) = lesL 4 (l.take k) ++ le x 4 by rw [take_snoc h]; simp [lesL])
  have HLL := Lib.hid (fun k => lesL_len 4 (l.take k))
  have HLT := Lib.hid (fun l => lesL_lt 4 l)
  have HALL : Hid (l.take l.length = l) := by show _ = _; rw [List.take_length]
  have HTL := Lib.hid (fun k => show (l.take k).length ≤ l.length by rw [List.length_take]; omega)
  clear hr hb
  go_enter Try.func21, Try.ntmps21
  go_wp2_with fail
  generalize w.alloc (.cells #[.pointer none, .slice none 0 0] 67) = w0 at *
  go_loopw [10] (fun i wr => ∃ k : Nat, k ≤ l.length ∧ i = .int .i64 (k : Nat) ∧ Bd wr w.heap.size w.heap.size (lesL 4 (l.take k)) ∧ Below w.heap.size w wr) (fun i _ => l.length - (intOf i).toNat)
  case atStart => exact ⟨0, Nat.zero_le _, rfl, HFR.out, HB0.out⟩
  case round =>
    clear HFR HB0 HS0
    obtain ⟨k, hk, rfl, hbd, hbel⟩ := hrel
    have hlen := HLL.out k
    have htl := HTL.out k
    have HD := Lib.hid hbd
    have HB := Lib.hid hbel
    clear hbd hbel
    generalize hM : lesL 4 (l.take k) = M at *
    have HM := Lib.hid hM
    clear hM
    by_cases hlt : k < l.length
    · have hx := HGET.out k hlt
      have hxb := HBD.out k hlt
      have hst := HT.out k _ hx
      obtain ⟨g, rfl⟩ := HR.out.slice (by omega)
      have hc := (HR.out.below HB.out).at hx
      generalize l[k] = x at *
      rw [HM.out] at hst
      have HST := Lib.hid hst
      clear hx hst
      go_wp2_with fail
      refine (four_any x hxb _).mono ?_; rintro e w1 ⟨rfl, hb1⟩
      have HD1 := Lib.hid (HD.out.below hb1)
      have HB1 := Lib.hid (below_then HB.out hb1)
      have hz : (text (le x 4)).size ≤ 1000000 := by rw [text_size, le_len]; omega
      have hn : nums (text (le x 4)) = le x 4 := nums_text _ (le_lt _ _)
      have HWS := Lib.hid (writeString_any w.heap.size w.heap.size (text (le x 4)) M w1 hz (by omega) HB1.out.size HD1.out)
      rw [hn] at HWS
      clear hb1 hz hn
      go_wp2_with fail
      refine (HWS.out).mono ?_; rintro e w2 ⟨rfl, hd2, hb2, _⟩
      have HD2 := Lib.hid hd2
      have HB2 := Lib.hid (HB1.out.trans hb2)
      clear hd2 hb2
      go_wp2_with fail
      go_roundw
      case rel => exact ⟨k + 1, by omega, by go_num, by rw [HST.out]; exact HD2.out, HB2.out⟩
      case measure => simp [intOf]; omega
    · obtain rfl : k = l.length := by omega
      have hM := HM.out
      rw [HALL.out] at hM
      subst hM
      have HSG := Lib.hid (bdString_any _ _ _ _ (HLT.out l) HB.out.size HD.out)
      clear hlen htl
      go_wp2_with fail
      refine (HSG.out).mono ?_; rintro e w2 ⟨rfl, hb2⟩
      have HB2 := Lib.hid (HB.out.trans hb2)
      clear hb2
      go_wp2_with fail
      go_ret
      exact ⟨rfl, HB2.out⟩
set_option maxHeartbeats 2000000 in
theorem row8_tail (A : Option Addr) (c : Nat) (l : List Nat) (hl : l.length ≤ 20) (hb : ∀ x ∈ l, x < 18446744073709551616) (w : World) (hr : RdI w .u64 A l) :
    Calls Try.prog 23 #[.func (.func 18) #[] #[], .slice A l.length c] w fun e w' => e = .returned (.string (text (lesL 8 l))) ∧ Below w.heap.size w w' := by
  have HR := Lib.hid hr
  have HFR := Lib.hid (bd_freshE w)
  have HB0 := Lib.hid ((Below.refl w.heap.size w).alloc (Nat.le_refl _) (.cells #[.pointer none, .slice none 0 0] 67))
  have HS0 : Hid (w.heap.size + 1 ≤ (w.alloc (.cells #[.pointer none, .slice none 0 0] 67)).heap.size) := by show _ ≤ _; simp
  have HGET := Lib.hid (fun (k : Nat) (h : k < l.length) => List.getElem?_eq_getElem h)
  have HBD := Lib.hid (fun (k : Nat) (h : k < l.length) => hb _ (List.getElem_mem h))
  have HT := Lib.hid (fun (k x : Nat) (h : l[k]? = some x) => show lesL 8 (l.take (k + 1)) = lesL 8 (l.take k) ++ le x 8 by rw [take_snoc h]; simp [lesL])
  have HLL := Lib.hid (fun k => lesL_len 8 (l.take k))
  have HLT := Lib.hid (fun l => lesL_lt 8 l)
  have HALL : Hid (l.take l.length = l) := by show _ = _; rw [List.take_length]
  have HTL := Lib.hid (fun k => show (l.take k).length ≤ l.length by rw [List.length_take]; omega)
  clear hr hb
  go_enter Try.func23, Try.ntmps23
  go_wp2_with fail
  generalize w.alloc (.cells #[.pointer none, .slice none 0 0] 67) = w0 at *
  go_loopw [10] (fun i wr => ∃ k : Nat, k ≤ l.length ∧ i = .int .i64 (k : Nat) ∧ Bd wr w.heap.size w.heap.size (lesL 8 (l.take k)) ∧ Below w.heap.size w wr) (fun i _ => l.length - (intOf i).toNat)
  case atStart => exact ⟨0, Nat.zero_le _, rfl, HFR.out, HB0.out⟩
  case round =>
    clear HFR HB0 HS0
    obtain ⟨k, hk, rfl, hbd, hbel⟩ := hrel
    have hlen := HLL.out k
    have htl := HTL.out k
    have HD := Lib.hid hbd
    have HB := Lib.hid hbel
    clear hbd hbel
    generalize hM : lesL 8 (l.take k) = M at *
    have HM := Lib.hid hM
    clear hM
    by_cases hlt : k < l.length
    · have hx := HGET.out k hlt
      have hxb := HBD.out k hlt
      have hst := HT.out k _ hx
      obtain ⟨g, rfl⟩ := HR.out.slice (by omega)
      have hc := (HR.out.below HB.out).at hx
      generalize l[k] = x at *
      rw [HM.out] at hst
      have HST := Lib.hid hst
      clear hx hst
      go_wp2_with fail
      refine (eight_any x hxb _).mono ?_; rintro e w1 ⟨rfl, hb1⟩
      have HD1 := Lib.hid (HD.out.below hb1)
      have HB1 := Lib.hid (below_then HB.out hb1)
      have hz : (text (le x 8)).size ≤ 1000000 := by rw [text_size, le_len]; omega
      have hn : nums (text (le x 8)) = le x 8 := nums_text _ (le_lt _ _)
      have HWS := Lib.hid (writeString_any w.heap.size w.heap.size (text (le x 8)) M w1 hz (by omega) HB1.out.size HD1.out)
      rw [hn] at HWS
      clear hb1 hz hn
      go_wp2_with fail
      refine (HWS.out).mono ?_; rintro e w2 ⟨rfl, hd2, hb2, _⟩
      have HD2 := Lib.hid hd2
      have HB2 := Lib.hid (HB1.out.trans hb2)
      clear hd2 hb2
      go_wp2_with fail
      go_roundw
      case rel => exact ⟨k + 1, by omega, by go_num, by rw [HST.out]; exact HD2.out, HB2.out⟩
      case measure => simp [intOf]; omega
    · obtain rfl : k = l.length := by omega
      have hM := HM.out
      rw [HALL.out] at hM
      subst hM
      have HSG := Lib.hid (bdString_any _ _ _ _ (HLT.out l) HB.out.size HD.out)
      clear hlen htl
      go_wp2_with fail
      refine (HSG.out).mono ?_; rintro e w2 ⟨rfl, hb2⟩
      have HB2 := Lib.hid (HB.out.trans hb2)
      clear hb2
      go_wp2_with fail
      go_ret
      exact ⟨rfl, HB2.out⟩
end Go.Proofs.Ytlojhklhhdgkcaa
