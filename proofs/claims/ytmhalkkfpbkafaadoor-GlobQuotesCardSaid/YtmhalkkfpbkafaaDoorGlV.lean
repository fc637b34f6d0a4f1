/-
  Glob: Quote, the program's.
-/
import Derived.Test.YtmhalkkfpbkafaaDoorGlU
namespace Go.Proofs.YtmhalkkfpbkafaaDoor
set_option maxRecDepth 100000
set_option linter.unusedSimpArgs false
open Go.RowKit Go.Deep Go.Joins
open Go.Lib hiding intOf

theorem ix_all : (List.range 256).all (fun c => decide (0 ≤ Lib.indexByte [42, 63, 91, 92] ((c : Nat) : Int).toNat.toUInt8) == decide (c = 42 ∨ c = 63 ∨ c = 91 ∨ c = 92)) = true := by kernel_rfl
theorem ix_iff (c : Nat) (h : c < 256) : decide (0 ≤ Lib.indexByte [42, 63, 91, 92] ((c : Nat) : Int).toNat.toUInt8) = decide (c = 42 ∨ c = 63 ∨ c = 91 ∨ c = 92) := by
  have := List.all_eq_true.1 ix_all c (List.mem_range.2 h)
  exact beq_iff_eq.1 this
set_option maxHeartbeats 8000000 in
theorem quote_any (s : ByteArray) (hs : s.size ≤ 100000) (w : World) :
    Calls Tryd.prog 9 #[.string s] w fun e w' => e = .returned (.string (text (quoL (nums s)))) ∧ Below w.heap.size w w' := by
  have hzb := zero_bdE
  have hib := info_bd
  have HBD := Lib.hid (bd_freshE w)
  have HB0 := Lib.hid (below_al w (.cells #[.pointer none, .slice none 0 0] 71))
  obtain ⟨b, hbv⟩ : ∃ b, b = w.heap.size := ⟨_, rfl⟩
  go_enter Tryd.func9, Tryd.ntmps9
  go_wp2_with fail
  generalize w.alloc (.cells #[.pointer none, .slice none 0 0] 71) = w0 at *
  go_loopw [4, 7] (fun _ i wr => ∃ (k : Nat) (l : List Nat), i = .int .i64 (k : Nat) ∧ k ≤ s.size ∧ Hid (l = quoL ((nums s).take k)) ∧ l.length ≤ k * 2 ∧ Hid (Bd wr w.heap.size w.heap.size l) ∧ Hid (Below w.heap.size w wr)) (fun _ i _ => s.size - (intOf i).toNat)
  case atStart => exact ⟨0, [], rfl, Nat.zero_le _, rfl, Nat.le_refl _, HBD, HB0⟩
  case round =>
    obtain ⟨k, l, rfl, hk, HL, hll, HD, HB⟩ := hrel
    by_cases hks : k < s.size
    · have hlt : s[k].toNat < 256 := s[k].toNat_lt
      have HSN : Hid (quoL ((nums s).take (k + 1)) = l ++ quo1 s[k].toNat) := by show _ = _; rw [nums_snoc s k hks, quoL_snoc, HL.out]
      have hix := ix_iff s[k].toNat hlt
      have HIX := Lib.hid (fun w1 => sh_strings_IndexByte ⟨#[42, 63, 91, 92]⟩ (s[k].toNat : Int) w1)
      obtain ⟨z, hz⟩ : ∃ z, z = Lib.indexByte [42, 63, 91, 92] (s[k].toNat : Int).toNat.toUInt8 := ⟨_, rfl⟩
      rw [← hz] at hix
      have HZ : Hid (∀ w1, Calls Tryd.prog 30 #[.string ⟨#[42, 63, 91, 92]⟩, .int .u8 (s[k].toNat : Int)] w1 fun e w' => e = .returned (.int .i64 z) ∧ w' = w1) := by rw [hz]; exact HIX.out
      have HW1 := Lib.hid (fun w1 l1 h1 h2 h3 => writeByte_any w.heap.size w.heap.size s[k].toNat l1 w1 hlt h1 h2 h3)
      have HW2 := Lib.hid (fun w1 h1 h2 h3 => writeByte_any w.heap.size w.heap.size 92 l w1 (by decide) h1 h2 h3)
      clear hz HIX
      have hl6 : l.length ≤ 1000000 := by omega
      by_cases hq : s[k].toNat = 42 ∨ s[k].toNat = 63 ∨ s[k].toNat = 91 ∨ s[k].toNat = 92
      · have gz : decide (0 ≤ z) = true := hix.trans (decide_eq_true hq)
        have hsn := HSN.out
        unfold quo1 at hsn
        rw [if_pos hq] at hsn
        have HS2 : Hid (l ++ [92] ++ [s[k].toNat] = quoL ((nums s).take (k + 1))) := by show _ = _; rw [hsn, List.append_assoc]; rfl
        clear hsn hq HSN hix
        go_wp2_with fail
        refine (HZ.out _).mono ?_; rintro e w3 ⟨rfl, rfl⟩
        go_wp2_with fail
        refine (HW2.out _ hl6 HB.out.size HD.out).mono ?_; rintro e w4 ⟨rfl, hd4, hb4, _⟩
        have HD4 := Lib.hid hd4
        have HB4 := Lib.hid (HB.out.trans hb4)
        clear hd4 hb4
        go_wp2_with fail
        refine (HW1.out _ _ (by rw [List.length_append]; show l.length + 1 ≤ _; omega) HB4.out.size HD4.out).mono ?_; rintro e w5 ⟨rfl, hd5, hb5, _⟩
        have HD5 := Lib.hid hd5
        have HB5 := Lib.hid (HB4.out.trans hb5)
        clear hd5 hb5
        go_wp2_with fail
        go_roundw
        case rel => exact ⟨k + 1, l ++ [92] ++ [s[k].toNat], by go_num, by omega, HS2.out, by rw [List.length_append, List.length_append]; show l.length + 1 + 1 ≤ _; omega, HD5, HB5⟩
        case measure => simp [intOf]; omega
      · have gz : decide (0 ≤ z) = false := hix.trans (decide_eq_false hq)
        have hsn := HSN.out
        unfold quo1 at hsn
        rw [if_neg hq] at hsn
        have HS2 : Hid (l ++ [s[k].toNat] = quoL ((nums s).take (k + 1))) := hsn.symm
        clear hsn hq HSN hix
        go_wp2_with fail
        refine (HZ.out _).mono ?_; rintro e w3 ⟨rfl, rfl⟩
        go_wp2_with fail
        refine (HW1.out _ _ hl6 HB.out.size HD.out).mono ?_; rintro e w5 ⟨rfl, hd5, hb5, _⟩
        have HD5 := Lib.hid hd5
        have HB5 := Lib.hid (HB.out.trans hb5)
        clear hd5 hb5
        go_wp2_with fail
        go_roundw
        case rel => exact ⟨k + 1, l ++ [s[k].toNat], by go_num, by omega, HS2.out, by rw [List.length_append]; show l.length + 1 ≤ _; omega, HD5, HB5⟩
        case measure => simp [intOf]; omega
    · obtain rfl : k = s.size := by omega
      have hl2 : l = quoL (nums s) := by
        rw [HL.out, ← nums_len, List.take_length]
      have HSt := Lib.hid (bdString_any w.heap.size w.heap.size l wr (by rw [hl2]; exact quoL_lt _ (nums_lt256 s)) HB.out.size HD.out)
      have HL2 := Lib.hid hl2
      clear hl2
      go_wp2_with fail
      refine HSt.out.mono ?_; rintro e w3 ⟨rfl, hb3⟩
      have HB3 := Lib.hid (HB.out.trans hb3)
      clear hb3
      go_wp2_with fail
      go_ret
      exact ⟨by show Ending.returned (.string (text l)) = _; rw [HL2.out], HB3.out⟩
end Go.Proofs.YtmhalkkfpbkafaaDoor
