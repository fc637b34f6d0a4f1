/-
  What Parse answers, told by cases.
-/
import Derived.Test.YtklmfncljebgnaaHdS
namespace Go.Proofs.Ytklmfncljebgnaa
set_option maxRecDepth 100000
set_option linter.unusedSimpArgs false
set_option linter.unusedVariables false
open Go.RowKit Go.Joins Go.Deep Go.Op
theorem formL (s : ByteArray) (hs : s.size ≤ 1000000) : ∃ x0 x1 x2 x3 x4 x5 x6 : Nat, ∃ s7 s8 : ByteArray, ∃ n e : Nat, psL s = .tuple #[.agg #[.int .u16 (x0 : Nat), .int .u16 (x1 : Nat), .int .u16 (x2 : Nat), .int .u32 (x3 : Nat), .int .u32 (x4 : Nat), .int .u32 (x5 : Nat), .int .u32 (x6 : Nat), .string s7, .string s8], .int .i64 (n : Nat), .int .i64 (e : Nat)] ∧ (x0 < 65536 ∧ x1 < 65536 ∧ x2 < 65536 ∧ x3 < 4294967296 ∧ x4 < 4294967296 ∧ x5 < 4294967296 ∧ x6 < 4294967296) ∧ (s7.size ≤ 1000000 ∧ s8.size ≤ 1000000) ∧ ((okR s wsLocals 67324752 [8, 9] ∧ e = 0 ∧ n = txE (rowN s 0 wsLocals) wsLocals.sum [8, 9] ∧ rowLocal x0 x1 x2 x3 x4 x5 x6 s7 s8 = rowN s 0 wsLocals ∧ txT s (rowN s 0 wsLocals) wsLocals.sum [8, 9] = [s7, s8]) ∨ (¬ okR s wsLocals 67324752 [8, 9] ∧ e = erB s 67324752 ∧ n = 0 ∧ x0 = 0 ∧ x1 = 0 ∧ x2 = 0 ∧ x3 = 0 ∧ x4 = 0 ∧ x5 = 0 ∧ x6 = 0 ∧ s7 = ⟨#[]⟩ ∧ s8 = ⟨#[]⟩)) := by
  by_cases h : okR s wsLocals 67324752 [8, 9]
  · have hf := ((ok_L s).1 h).2
    unfold fitL at hf
    have hm : nAt s 0 4 = 67324752 := h.2.1
    refine ⟨nAt s 4 2, nAt s 6 2, nAt s 8 2, nAt s 10 4, nAt s 14 4, nAt s 18 4, nAt s 22 4, tAt s 30 (nAt s 26 2), tAt s (30 + nAt s 26 2) (nAt s 28 2), endL s, 0, ?_, ⟨nAt_lt s 4 2, nAt_lt s 6 2, nAt_lt s 8 2, nAt_lt s 10 4, nAt_lt s 14 4, nAt_lt s 18 4, nAt_lt s 22 4⟩, ⟨?_, ?_⟩, .inl ⟨h, rfl, rfl, ?_, rfl⟩⟩
    · obtain ⟨hb, hf⟩ := (ok_L s).1 h
      unfold psL
      rw [if_pos hb, if_pos hf]
      rfl
    · rw [tAt_size _ _ _ (by omega)]; omega
    · rw [tAt_size _ _ _ (by omega)]; omega
    · unfold rowLocal
      rw [row_L, tAt_size _ _ _ (by omega), tAt_size _ _ _ (by omega), hm]
  · refine ⟨0, 0, 0, 0, 0, 0, 0, ⟨#[]⟩, ⟨#[]⟩, 0, erB s 67324752, psL_no h, by simp, by decide, .inr ⟨h, rfl, rfl, rfl, rfl, rfl, rfl, rfl, rfl, rfl, rfl, rfl⟩⟩
theorem formC (s : ByteArray) (hs : s.size ≤ 1000000) : ∃ x0 x1 x2 x3 x4 x5 x6 x7 x8 x9 x10 x11 : Nat, ∃ s12 s13 s14 : ByteArray, ∃ n e : Nat, psC s = .tuple #[.agg #[.int .u16 (x0 : Nat), .int .u16 (x1 : Nat), .int .u16 (x2 : Nat), .int .u16 (x3 : Nat), .int .u32 (x4 : Nat), .int .u32 (x5 : Nat), .int .u32 (x6 : Nat), .int .u32 (x7 : Nat), .int .u16 (x8 : Nat), .int .u16 (x9 : Nat), .int .u32 (x10 : Nat), .int .u32 (x11 : Nat), .string s12, .string s13, .string s14], .int .i64 (n : Nat), .int .i64 (e : Nat)] ∧ (x0 < 65536 ∧ x1 < 65536 ∧ x2 < 65536 ∧ x3 < 65536 ∧ x4 < 4294967296 ∧ x5 < 4294967296 ∧ x6 < 4294967296 ∧ x7 < 4294967296 ∧ x8 < 65536 ∧ x9 < 65536 ∧ x10 < 4294967296 ∧ x11 < 4294967296) ∧ (s12.size ≤ 1000000 ∧ s13.size ≤ 1000000 ∧ s14.size ≤ 1000000) ∧ ((okR s wsCentrals 33639248 [9, 10, 11] ∧ e = 0 ∧ n = txE (rowN s 0 wsCentrals) wsCentrals.sum [9, 10, 11] ∧ rowCentral x0 x1 x2 x3 x4 x5 x6 x7 x8 x9 x10 x11 s12 s13 s14 = rowN s 0 wsCentrals ∧ txT s (rowN s 0 wsCentrals) wsCentrals.sum [9, 10, 11] = [s12, s13, s14]) ∨ (¬ okR s wsCentrals 33639248 [9, 10, 11] ∧ e = erB s 33639248 ∧ n = 0 ∧ x0 = 0 ∧ x1 = 0 ∧ x2 = 0 ∧ x3 = 0 ∧ x4 = 0 ∧ x5 = 0 ∧ x6 = 0 ∧ x7 = 0 ∧ x8 = 0 ∧ x9 = 0 ∧ x10 = 0 ∧ x11 = 0 ∧ s12 = ⟨#[]⟩ ∧ s13 = ⟨#[]⟩ ∧ s14 = ⟨#[]⟩)) := by
  by_cases h : okR s wsCentrals 33639248 [9, 10, 11]
  · have hf := ((ok_C s).1 h).2
    unfold fitC at hf
    have hm : nAt s 0 4 = 33639248 := h.2.1
    refine ⟨nAt s 4 2, nAt s 6 2, nAt s 8 2, nAt s 10 2, nAt s 12 4, nAt s 16 4, nAt s 20 4, nAt s 24 4, nAt s 34 2, nAt s 36 2, nAt s 38 4, nAt s 42 4, tAt s 46 (nAt s 28 2), tAt s (46 + nAt s 28 2) (nAt s 30 2), tAt s (46 + nAt s 28 2 + nAt s 30 2) (nAt s 32 2), endC s, 0, ?_, ⟨nAt_lt s 4 2, nAt_lt s 6 2, nAt_lt s 8 2, nAt_lt s 10 2, nAt_lt s 12 4, nAt_lt s 16 4, nAt_lt s 20 4, nAt_lt s 24 4, nAt_lt s 34 2, nAt_lt s 36 2, nAt_lt s 38 4, nAt_lt s 42 4⟩, ⟨?_, ?_, ?_⟩, .inl ⟨h, rfl, rfl, ?_, rfl⟩⟩
    · obtain ⟨hb, hf⟩ := (ok_C s).1 h
      unfold psC
      rw [if_pos hb, if_pos hf]
      rfl
    · rw [tAt_size _ _ _ (by omega)]; omega
    · rw [tAt_size _ _ _ (by omega)]; omega
    · rw [tAt_size _ _ _ (by omega)]; omega
    · unfold rowCentral
      rw [row_C, tAt_size _ _ _ (by omega), tAt_size _ _ _ (by omega), tAt_size _ _ _ (by omega), hm]
  · refine ⟨0, 0, 0, 0, 0, 0, 0, 0, 0, 0, 0, 0, ⟨#[]⟩, ⟨#[]⟩, ⟨#[]⟩, 0, erB s 33639248, psC_no h, by simp, by decide, .inr ⟨h, rfl, rfl, rfl, rfl, rfl, rfl, rfl, rfl, rfl, rfl, rfl, rfl, rfl, rfl, rfl, rfl, rfl⟩⟩
theorem formD (s : ByteArray) (wide : Bool) (hs : s.size ≤ 1000000) : ∃ x0 x1 x2 : Nat, ∃ n e : Nat, psD wide s = .tuple #[.agg #[.int .u32 (x0 : Nat), .int .u64 (x1 : Nat), .int .u64 (x2 : Nat)], .int .i64 (n : Nat), .int .i64 (e : Nat)] ∧ (x0 < 4294967296 ∧ x1 < 18446744073709551616 ∧ x2 < 18446744073709551616) ∧ (True) ∧ ((okR s (wsD wide) 134695760 [] ∧ e = 0 ∧ n = txE (rowN s 0 (wsD wide)) (wsD wide).sum [] ∧ rowDescriptor x0 x1 x2 = rowN s 0 (wsD wide) ∧ txT s (rowN s 0 (wsD wide)) (wsD wide).sum [] = []) ∨ (¬ okR s (wsD wide) 134695760 [] ∧ e = erB s 134695760 ∧ n = 0 ∧ x0 = 0 ∧ x1 = 0 ∧ x2 = 0)) := by
  by_cases h : okR s (wsD wide) 134695760 []
  · have hm : nAt s 0 4 = 134695760 := h.2.1
    refine ⟨nAt s 4 4, nAt s 8 (dw wide), nAt s (8 + dw wide) (dw wide), 8 + dw wide + dw wide, 0, ?_, ⟨nAt_lt s 4 4, ?_, ?_⟩, trivial, .inl ⟨h, rfl, ?_, ?_, rfl⟩⟩
    · obtain ⟨hb, hf⟩ := (ok_D s wide).1 h
      unfold psD
      rw [if_pos hb, if_pos hf]
      rfl
    · exact Nat.lt_of_lt_of_le (nAt_lt s 8 (dw wide)) (by cases wide <;> decide)
    · exact Nat.lt_of_lt_of_le (nAt_lt s (8 + dw wide) (dw wide)) (by cases wide <;> decide)
    · cases wide <;> rfl
    · unfold rowDescriptor
      rw [row_D, hm]
  · refine ⟨0, 0, 0, 0, erB s 134695760, psD_no h, by simp, by decide, .inr ⟨h, rfl, rfl, rfl, rfl, rfl⟩⟩
end Go.Proofs.Ytklmfncljebgnaa
