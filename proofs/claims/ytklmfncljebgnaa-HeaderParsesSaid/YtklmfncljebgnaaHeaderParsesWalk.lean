/-
  The walk of HeaderParses.
-/
import Derived.Test.YtklmfncljebgnaaHdS
import Derived.Deep.RegionHeld3
import Derived.Deep.CutRange
import Derived.Laws.StructEq
namespace Go.Proofs.Ytklmfncljebgnaa
set_option maxRecDepth 100000
set_option linter.unusedSimpArgs false
set_option linter.unusedVariables false
open Go.RowKit Go.Joins Go.Deep Go.Op
theorem formL (s : ByteArray) (hs : s.size ≤ 1000000) : ∃ x0 x1 x2 x3 x4 x5 x6 : Nat, ∃ s7 s8 : ByteArray, ∃ n e : Nat, psL s = .tuple #[.agg #[.int .u16 (x0 : Nat), .int .u16 (x1 : Nat), .int .u16 (x2 : Nat), .int .u32 (x3 : Nat), .int .u32 (x4 : Nat), .int .u32 (x5 : Nat), .int .u32 (x6 : Nat), .string s7, .string s8], .int .i64 (n : Nat), .int .i64 (e : Nat)] ∧ (x0 < 65536 ∧ x1 < 65536 ∧ x2 < 65536 ∧ x3 < 4294967296 ∧ x4 < 4294967296 ∧ x5 < 4294967296 ∧ x6 < 4294967296) ∧ (s7.size ≤ 1000000 ∧ s8.size ≤ 1000000) ∧ ((okR s wsLocals 67324752 [8, 9] ∧ e = 0 ∧ n = txE (rowN s 0 wsLocals) wsLocals.sum [8, 9] ∧ rowLocal x0 x1 x2 x3 x4 x5 x6 s7 s8 = rowN s 0 wsLocals ∧ txT s (rowN s 0 wsLocals) wsLocals.sum [8, 9] = [s7, s8]) ∨ (¬ okR s wsLocals 67324752 [8, 9] ∧ e = erB s 67324752 ∧ n = 0 ∧ x0 = 0 ∧ x1 = 0 ∧ x2 = 0 ∧ x3 = 0 ∧ x4 = 0 ∧ x5 = 0 ∧ x6 = 0 ∧ s7 = ⟨#[]⟩ ∧ s8 = ⟨#[]⟩)) := by
  by_cases h : okR s wsLocals 67324752 [8, 9]
  · have hf := ((ok_L s).1 h).2
    unfold fitL at hf
    have hm : nAt s 0 4 = 67324752 := h.2.1
    refine ⟨nAt s 4 2, nAt s 6 2, nAt s 8 2, nAt s 10 4, nAt s 14 4, nAt s 18 4, nAt s 22 4, tAt s 30 (nAt s 26 2), tAt s (30 + nAt s 26 2) (nAt s 28 2), endL s, 0, ?_, ⟨nAt_lt s 4 2, nAt_lt s 6 2, nAt_lt s 8 2, nAt_lt s 10 4, nAt_lt s 14 4, nAt_lt s 18 4, nAt_lt s 22 4⟩, ⟨?_, ?_⟩, .inl ⟨h, rfl, rfl, ?_, rfl⟩⟩
    · obtain ⟨hb, hf⟩ := (ok_L s).1 h
      unfold psL
      rw [if_pos hb, if_pos hf]
      rfl
    · rw [tAt_size _ _ _ (by omega)]; omega
    · rw [tAt_size _ _ _ (by omega)]; omega
    · unfold rowLocal
      rw [row_L, tAt_size _ _ _ (by omega), tAt_size _ _ _ (by omega), hm]
  · refine ⟨0, 0, 0, 0, 0, 0, 0, ⟨#[]⟩, ⟨#[]⟩, 0, erB s 67324752, psL_no h, by simp, by decide, .inr ⟨h, rfl, rfl, rfl, rfl, rfl, rfl, rfl, rfl, rfl, rfl, rfl⟩⟩
theorem formC (s : ByteArray) (hs : s.size ≤ 1000000) : ∃ x0 x1 x2 x3 x4 x5 x6 x7 x8 x9 x10 x11 : Nat, ∃ s12 s13 s14 : ByteArray, ∃ n e : Nat, psC s = .tuple #[.agg #[.int .u16 (x0 : Nat), .int .u16 (x1 : Nat), .int .u16 (x2 : Nat), .int .u16 (x3 : Nat), .int .u32 (x4 : Nat), .int .u32 (x5 : Nat), .int .u32 (x6 : Nat), .int .u32 (x7 : Nat), .int .u16 (x8 : Nat), .int .u16 (x9 : Nat), .int .u32 (x10 : Nat), .int .u32 (x11 : Nat), .string s12, .string s13, .string s14], .int .i64 (n : Nat), .int .i64 (e : Nat)] ∧ (x0 < 65536 ∧ x1 < 65536 ∧ x2 < 65536 ∧ x3 < 65536 ∧ x4 < 4294967296 ∧ x5 < 4294967296 ∧ x6 < 4294967296 ∧ x7 < 4294967296 ∧ x8 < 65536 ∧ x9 < 65536 ∧ x10 < 4294967296 ∧ x11 < 4294967296) ∧ (s12.size ≤ 1000000 ∧ s13.size ≤ 1000000 ∧ s14.size ≤ 1000000) ∧ ((okR s wsCentrals 33639248 [9, 10, 11] ∧ e = 0 ∧ n = txE (rowN s 0 wsCentrals) wsCentrals.sum [9, 10, 11] ∧ rowCentral x0 x1 x2 x3 x4 x5 x6 x7 x8 x9 x10 x11 s12 s13 s14 = rowN s 0 wsCentrals ∧ txT s (rowN s 0 wsCentrals) wsCentrals.sum [9, 10, 11] = [s12, s13, s14]) ∨ (¬ okR s wsCentrals 33639248 [9, 10, 11] ∧ e = erB s 33639248 ∧ n = 0 ∧ x0 = 0 ∧ x1 = 0 ∧ x2 = 0 ∧ x3 = 0 ∧ x4 = 0 ∧ x5 = 0 ∧ x6 = 0 ∧ x7 = 0 ∧ x8 = 0 ∧ x9 = 0 ∧ x10 = 0 ∧ x11 = 0 ∧ s12 = ⟨#[]⟩ ∧ s13 = ⟨#[]⟩ ∧ s14 = ⟨#[]⟩)) := by
  by_cases h : okR s wsCentrals 33639248 [9, 10, 11]
  · have hf := ((ok_C s).1 h).2
    unfold fitC at hf
    have hm : nAt s 0 4 = 33639248 := h.2.1
    refine ⟨nAt s 4 2, nAt s 6 2, nAt s 8 2, nAt s 10 2, nAt s 12 4, nAt s 16 4, nAt s 20 4, nAt s 24 4, nAt s 34 2, nAt s 36 2, nAt s 38 4, nAt s 42 4, tAt s 46 (nAt s 28 2), tAt s (46 + nAt s 28 2) (nAt s 30 2), tAt s (46 + nAt s 28 2 + nAt s 30 2) (nAt s 32 2), endC s, 0, ?_, ⟨nAt_lt s 4 2, nAt_lt s 6 2, nAt_lt s 8 2, nAt_lt s 10 2, nAt_lt s 12 4, nAt_lt s 16 4, nAt_lt s 20 4, nAt_lt s 24 4, nAt_lt s 34 2, nAt_lt s 36 2, nAt_lt s 38 4, nAt_lt s 42 4⟩, ⟨?_, ?_, ?_⟩, .inl ⟨h, rfl, rfl, ?_, rfl⟩⟩
    · obtain ⟨hb, hf⟩ := (ok_C s).1 h
      unfold psC
      rw [if_pos hb, if_pos hf]
      rfl
    · rw [tAt_size _ _ _ (by omega)]; omega
    · rw [tAt_size _ _ _ (by omega)]; omega
    · rw [tAt_size _ _ _ (by omega)]; omega
    · unfold rowCentral
      rw [row_C, tAt_size _ _ _ (by omega), tAt_size _ _ _ (by omega), tAt_size _ _ _ (by omega), hm]
  · refine ⟨0, 0, 0, 0, 0, 0, 0, 0, 0, 0, 0, 0, ⟨#[]⟩, ⟨#[]⟩, ⟨#[]⟩, 0, erB s 33639248, psC_no h, by simp, by decide, .inr ⟨h, rfl, rfl, rfl, rfl, rfl, rfl, rfl, rfl, rfl, rfl, rfl, rfl, rfl, rfl, rfl, rfl, rfl⟩⟩
theorem formD (s : ByteArray) (wide : Bool) (hs : s.size ≤ 1000000) : ∃ x0 x1 x2 : Nat, ∃ n e : Nat, psD wide s = .tuple #[.agg #[.int .u32 (x0 : Nat), .int .u64 (x1 : Nat), .int .u64 (x2 : Nat)], .int .i64 (n : Nat), .int .i64 (e : Nat)] ∧ (x0 < 4294967296 ∧ x1 < 18446744073709551616 ∧ x2 < 18446744073709551616) ∧ (True) ∧ ((okR s (wsD wide) 134695760 [] ∧ e = 0 ∧ n = txE (rowN s 0 (wsD wide)) (wsD wide).sum [] ∧ rowDescriptor x0 x1 x2 = rowN s 0 (wsD wide) ∧ txT s (rowN s 0 (wsD wide)) (wsD wide).sum [] = []) ∨ (¬ okR s (wsD wide) 134695760 [] ∧ e = erB s 134695760 ∧ n = 0 ∧ x0 = 0 ∧ x1 = 0 ∧ x2 = 0)) := by
  by_cases h : okR s (wsD wide) 134695760 []
  · have hm : nAt s 0 4 = 134695760 := h.2.1
    refine ⟨nAt s 4 4, nAt s 8 (dw wide), nAt s (8 + dw wide) (dw wide), 8 + dw wide + dw wide, 0, ?_, ⟨nAt_lt s 4 4, ?_, ?_⟩, trivial, .inl ⟨h, rfl, ?_, ?_, rfl⟩⟩
    · obtain ⟨hb, hf⟩ := (ok_D s wide).1 h
      unfold psD
      rw [if_pos hb, if_pos hf]
      rfl
    · exact Nat.lt_of_lt_of_le (nAt_lt s 8 (dw wide)) (by cases wide <;> decide)
    · exact Nat.lt_of_lt_of_le (nAt_lt s (8 + dw wide) (dw wide)) (by cases wide <;> decide)
    · cases wide <;> rfl
    · unfold rowDescriptor
      rw [row_D, hm]
  · refine ⟨0, 0, 0, 0, erB s 134695760, psD_no h, by simp, by decide, .inr ⟨h, rfl, rfl, rfl, rfl, rfl⟩⟩
theorem tsL (s : ByteArray) : ∀ x ∈ [8, 9], x < wsLocals.length ∧ (rowN s 0 wsLocals).getD x 0 < 65536 := by
  intro x hx
  rw [row_L]
  simp at hx
  rcases hx with rfl | rfl
  · exact ⟨by decide, nAt_lt s 26 2⟩
  · exact ⟨by decide, nAt_lt s 28 2⟩
theorem tsC (s : ByteArray) : ∀ x ∈ [9, 10, 11], x < wsCentrals.length ∧ (rowN s 0 wsCentrals).getD x 0 < 65536 := by
  intro x hx
  rw [row_C]
  simp at hx
  rcases hx with rfl | rfl | rfl
  · exact ⟨by decide, nAt_lt s 28 2⟩
  · exact ⟨by decide, nAt_lt s 30 2⟩
  · exact ⟨by decide, nAt_lt s 32 2⟩
theorem rDescs_any (b : Bool) (w : World) : Calls Try.prog 20 #[.bool b] w fun e w' => e = .returned (.slice (some ⟨w.heap.size, 0, none⟩) 4 4) ∧ RdI w' .i64 (some ⟨w.heap.size, 0, none⟩) (wsD b) ∧ Below w.heap.size w w' := by
  cases b
  · exact rDesc_false w
  · exact rDesc_true w
/-- What the document's Parse answers of a descriptor. -/
def PostRD (s : ByteArray) (b : Bool) (e : Ending) (w w' : World) : Prop :=
  (okR s (wsD b) 134695760 [] ∧ (∃ A2 c2 A3 c3, e = .returned (.tuple #[.slice A2 4 c2, .slice A3 0 c3, .int .i64 (txE (rowN s 0 (wsD b)) (wsD b).sum [] : Nat), .int .i64 0]) ∧ RdI w' .u64 A2 (rowN s 0 (wsD b)) ∧ RdS w' A3 (txT s (rowN s 0 (wsD b)) (wsD b).sum [])) ∨ ¬ okR s (wsD b) 134695760 [] ∧ e = .returned (noR s 134695760)) ∧ Below w.heap.size w w'
theorem rparseD_any (s : ByteArray) (hs : s.size ≤ 1000000) (b : Bool) (A : Option Addr) (c : Nat) (w : World) (hr : RdI w .i64 A (wsD b)) :
    Calls Try.prog 12 #[.string s, .slice A 4 c, .int .u64 134695760, .slice none 0 0] w fun e w' => PostRD s b e w w' := by
  have h := fun l (hl : (wsD b).length = l) => rparse_any s hs A c (wsD b) (by cases b <;> decide) (by cases b <;> decide) (by cases b <;> decide) 134695760 (by omega) none 0 [] (by decide) (by intro x hx; cases hx) w hr (fun h => absurd h (by decide))
  have hl : (wsD b).length = 4 := by cases b <;> rfl
  have h2 := h 4 hl
  rw [hl] at h2
  refine h2.mono fun e w' hp => ?_
  obtain ⟨hc, hb⟩ := hp
  refine ⟨?_, hb⟩
  rw [hl] at hc
  exact hc
set_option maxHeartbeats 40000000 in
theorem headerParses_walk (s : ByteArray) (wide : Bool) (ws : s.size ≤ maxLen) (w : World) :
    Calls Try.prog 3 #[.string s, .bool wide] w fun e w' => e = .returned (.bool true) ∧ Below w.heap.size w w' := by
  unfold maxLen at ws
  by_cases hbig : 3000 < s.size
  · have hd : decide ((3000 : Int) < (s.size : Int)) = true := decide_eq_true (by omega)
    go_enter Try.func3, Try.ntmps3
    go_wp2_with fail
    refine (awake17_any _).mono ?_; rintro r w0 ⟨rfl, hb⟩
    have HB := Lib.hid hb
    clear hb
    go_wp2_with fail
    go_ret
    exact ⟨rfl, HB.out⟩
  have hd : decide ((3000 : Int) < (s.size : Int)) = false := decide_eq_false (by omega)
  have HSZ : Hid (s.size ≤ 1000000) := by show _ ≤ _; omega
  go_enter Try.func3, Try.ntmps3
  go_wp2_with fail
  refine (awake17_any _).mono ?_; rintro r w0 ⟨rfl, hb⟩
  have HB := Lib.hid hb
  clear hb
  obtain ⟨x0, x1, x2, x3, x4, x5, x6, s7, s8, n, e, hps, hbd, hzs, hcase⟩ := formL s HSZ.out
  have HPS := Lib.hid (fun w => parseL_any s HSZ.out w)
  rw [hps] at HPS
  have HCASE := Lib.hid hcase
  have HBD := Lib.hid hbd
  have HZS := Lib.hid hzs
  clear hps hcase hbd hzs
  go_wp2_with fail
  refine (HPS.out _).mono ?_; rintro r w1 ⟨rfl, hb1⟩
  have HB1 := Lib.hid (below_then HB.out hb1)
  have HH : Hid ((w1.alloc (.cells #[.int .u16 (x0 : Nat), .int .u16 (x1 : Nat), .int .u16 (x2 : Nat), .int .u32 (x3 : Nat), .int .u32 (x4 : Nat), .int .u32 (x5 : Nat), .int .u32 (x6 : Nat), .string s7, .string s8] 26)).heap[w1.heap.size]? = some (.cells #[.int .u16 (x0 : Nat), .int .u16 (x1 : Nat), .int .u16 (x2 : Nat), .int .u32 (x3 : Nat), .int .u32 (x4 : Nat), .int .u32 (x5 : Nat), .int .u32 (x6 : Nat), .string s7, .string s8] 26 (0, 0))) := heap_alloc_new _ _
  have HB2 := Lib.hid (HB1.out.alloc HB1.out.size (.cells #[.int .u16 (x0 : Nat), .int .u16 (x1 : Nat), .int .u16 (x2 : Nat), .int .u32 (x3 : Nat), .int .u32 (x4 : Nat), .int .u32 (x5 : Nat), .int .u32 (x6 : Nat), .string s7, .string s8] 26))
  clear hb1 HB1 HB HPS
  go_wp2_with fail
  generalize w1.alloc (.cells #[.int .u16 (x0 : Nat), .int .u16 (x1 : Nat), .int .u16 (x2 : Nat), .int .u32 (x3 : Nat), .int .u32 (x4 : Nat), .int .u32 (x5 : Nat), .int .u32 (x6 : Nat), .string s7, .string s8] 26) = wA at *
  generalize w1.heap.size = gb at *
  refine (rLocals_any _).mono ?_; rintro r w2 ⟨rfl, hrd, hb2⟩
  have HB3 := Lib.hid ((HB2.out.trans (hb2.mono HB2.out.size)).alloc (Nat.le_trans HB2.out.size hb2.size) (.cells #[.int .i64 8, .int .i64 9] 3))
  have HH3 : Hid ((w2.alloc (.cells #[.int .i64 8, .int .i64 9] 3)).heap[gb]? = some (.cells #[.int .u16 (x0 : Nat), .int .u16 (x1 : Nat), .int .u16 (x2 : Nat), .int .u32 (x3 : Nat), .int .u32 (x4 : Nat), .int .u32 (x5 : Nat), .int .u32 (x6 : Nat), .string s7, .string s8] 26 (0, 0))) := (Below.heap_alloc _ _ _ (Nat.lt_of_lt_of_le (lt_of_some HH.out) hb2.size)).trans ((hb2.block _ (lt_of_some HH.out)).trans HH.out)
  have hrd2 : RdI (w2.alloc (.cells #[.int .i64 8, .int .i64 9] 3)) .i64 (some ⟨wA.heap.size, 0, none⟩) wsLocals := hrd.below ((Below.refl _ _).alloc (Nat.le_refl _) _)
  have hrt : RdI (w2.alloc (.cells #[.int .i64 8, .int .i64 9] 3)) .i64 (some ⟨w2.heap.size, 0, none⟩) [8, 9] := RdI.of_heap (heap_alloc_new _ _) rfl
  have HRP := Lib.hid (rparse_any s HSZ.out (some ⟨wA.heap.size, 0, none⟩) 10 wsLocals (by decide) (by decide) (by decide) 67324752 (by omega) (some ⟨w2.heap.size, 0, none⟩) 2 [8, 9] (by decide) (tsL s) _ hrd2 hrt)
  clear hrd hb2 hrd2 hrt HB2 HH
  go_wp2_with fail
  generalize w2.alloc (.cells #[.int .i64 8, .int .i64 9] 3) = wB at *
  refine (HRP.out).mono ?_; rintro r w3 hpr
  obtain ⟨hpc, hb3⟩ := hpr
  have HB4 := Lib.hid (HB3.out.trans (hb3.mono HB3.out.size))
  have HH4 : Hid (w3.heap[gb]? = some (.cells #[.int .u16 (x0 : Nat), .int .u16 (x1 : Nat), .int .u16 (x2 : Nat), .int .u32 (x3 : Nat), .int .u32 (x4 : Nat), .int .u32 (x5 : Nat), .int .u32 (x6 : Nat), .string s7, .string s8] 26 (0, 0))) := (hb3.block _ (lt_of_some HH3.out)).trans HH3.out
  clear hb3 HB3 HH3 HRP
  have hgo : ∃ (X Y : Value) (m f : Nat), r = .returned (.tuple #[X, Y, .int .i64 (m : Nat), .int .i64 (f : Nat)]) := by
    rcases hpc with ⟨_, A2, c2, A3, c3, h, _⟩ | ⟨_, h⟩
    · exact ⟨_, _, _, 0, h⟩
    · exact ⟨_, _, 0, _, h⟩
  obtain ⟨X, Y, m, f, rfl⟩ := hgo
  have HPC := Lib.hid hpc
  clear hpc
  go_upto_region 7 with fail
  go_cut [77] from 34 to 77 (fun b wx => b = .bool false ∧ Below w.heap.size w wx)
  case first =>
    have hpc := HPC.out
    clear HPC
    rcases HCASE.out with hy | hy
    · as_aux_lemma =>
        obtain ⟨hok, rfl, rfl, hrow, htx⟩ := hy
        rcases hpc with ⟨_, A2, c2, A3, c3, heq, hr2, hr3⟩ | ⟨hno, _⟩
        case inr => exact absurd hok hno
        injection heq with heq
        injection heq with heq
        simp only [Array.mk.injEq, List.cons.injEq, and_true] at heq
        obtain ⟨rfl, rfl, hm1, hf1⟩ := heq
        injection hm1 with _ hm1
        injection hf1 with _ hf1
        obtain rfl := Int.ofNat.inj hm1
        obtain rfl : f = 0 := Int.ofNat.inj hf1
        rw [hrow.symm] at hr2
        rw [htx] at hr3
        generalize hnn : txE (rowN s 0 wsLocals) wsLocals.sum [8, 9] = n at *
        obtain ⟨b0, b1, b2, b3, b4, b5, b6⟩ := HBD.out
        obtain ⟨z7, z8⟩ := HZS.out
        have HLW := Lib.hid (fun w => locals_any x0 x1 x2 x3 x4 x5 x6 b0 b1 b2 b3 b4 b5 b6 s7 s8 z7 z8 w)
        obtain ⟨g3, rfl⟩ := hr3.slice (by simp)
        have HT0 : Hid (w3.cell? ⟨g3, 0, none⟩ = some (.string s7)) := hr3.at rfl
        have HT1 : Hid (w3.cell? ⟨g3, 1, none⟩ = some (.string s8)) := hr3.at rfl
        have HR2 := Lib.hid hr2
        clear hnn hrow htx hr2 hr3 hok b0 b1 b2 b3 b4 b5 b6 z7 z8
        have hS0 : (fun ww => ww.heap[gb]? = some (.cells #[.int .u16 (x0 : Nat), .int .u16 (x1 : Nat), .int .u16 (x2 : Nat), .int .u32 (x3 : Nat), .int .u32 (x4 : Nat), .int .u32 (x5 : Nat), .int .u32 (x6 : Nat), .string s7, .string s8] 26 (0, 0)) ∧ Below w.heap.size w ww ∧ RdI ww .u64 A2 (rowLocal x0 x1 x2 x3 x4 x5 x6 s7 s8) ∧ ww.cell? ⟨g3, 0, none⟩ = some (.string s7) ∧ ww.cell? ⟨g3, 1, none⟩ = some (.string s8)) w3.drew := ⟨HH4.out, HB4.out.drew, HR2.out.drewN 1, HT0.out, HT1.out⟩
        refine wp_region_held_drew (S := fun ww => ww.heap[gb]? = some (.cells #[.int .u16 (x0 : Nat), .int .u16 (x1 : Nat), .int .u16 (x2 : Nat), .int .u32 (x3 : Nat), .int .u32 (x4 : Nat), .int .u32 (x5 : Nat), .int .u32 (x6 : Nat), .string s7, .string s8] 26 (0, 0)) ∧ Below w.heap.size w ww ∧ RdI ww .u64 A2 (rowLocal x0 x1 x2 x3 x4 x5 x6 s7 s8) ∧ ww.cell? ⟨g3, 0, none⟩ = some (.string s7) ∧ ww.cell? ⟨g3, 1, none⟩ = some (.string s8)) (by kernel_rfl) hS0 (fun hSA => ?_)
        clear hS0
        refine wpAnyH_take (i := 0) (v := .int .i64 0) rfl (by kernel_rfl) (by kernel_rfl) (by kernel_rfl) (fun _ _ _ h => h) (Or.inl ⟨by kernel_rfl, ?_⟩) (by assumption) ?_
        · intro ww hSw
          clear hSw
          go_simp
          all_goals (try assumption)
          all_goals (try rfl)
        try simp only [Act.put, List.setIfInBounds_toArray, List.set_cons_zero, List.set_cons_succ, List.getElem_toArray, List.getElem_cons_succ, List.getElem_cons_zero]
        refine wpAnyH_take (i := 1) (v := .int .i64 0) rfl (by kernel_rfl) (by kernel_rfl) (by kernel_rfl) (fun _ _ _ h => h) (Or.inl ⟨by kernel_rfl, ?_⟩) (by assumption) ?_
        · intro ww hSw
          clear hSw
          go_simp
          all_goals (try assumption)
          all_goals (try rfl)
        try simp only [Act.put, List.setIfInBounds_toArray, List.set_cons_zero, List.set_cons_succ, List.getElem_toArray, List.getElem_cons_succ, List.getElem_cons_zero]
        refine wpAnyH_take (i := 2) (v := .bool false) rfl (by kernel_rfl) (by kernel_rfl) (by kernel_rfl) (fun _ _ _ h => h) (Or.inl ⟨by kernel_rfl, ?_⟩) (by assumption) ?_
        · intro ww hSw
          clear hSw
          go_simp
          all_goals (try assumption)
          all_goals (try rfl)
        try simp only [Act.put, List.setIfInBounds_toArray, List.set_cons_zero, List.set_cons_succ, List.getElem_toArray, List.getElem_cons_succ, List.getElem_cons_zero]
        refine wpAnyH_take (i := 3) (v := .bool false) rfl (by kernel_rfl) (by kernel_rfl) (by kernel_rfl) (fun _ _ _ h => h) (Or.inl ⟨by kernel_rfl, ?_⟩) (by assumption) ?_
        · intro ww hSw
          clear hSw
          go_simp
          all_goals (try assumption)
          all_goals (try rfl)
        try simp only [Act.put, List.setIfInBounds_toArray, List.set_cons_zero, List.set_cons_succ, List.getElem_toArray, List.getElem_cons_succ, List.getElem_cons_zero]
        refine wpAnyH_take (i := 4) (v := .int .i64 (n : Nat)) rfl (by kernel_rfl) (by kernel_rfl) (by kernel_rfl) (fun _ _ _ h => h) (Or.inl ⟨by kernel_rfl, ?_⟩) (by assumption) ?_
        · intro ww hSw
          clear hSw
          go_simp
          all_goals (try assumption)
          all_goals (try rfl)
        try simp only [Act.put, List.setIfInBounds_toArray, List.set_cons_zero, List.set_cons_succ, List.getElem_toArray, List.getElem_cons_succ, List.getElem_cons_zero]
        refine wpAnyH_take (i := 5) (v := .int .i64 (n : Nat)) rfl (by kernel_rfl) (by kernel_rfl) (by kernel_rfl) (fun _ _ _ h => h) (Or.inl ⟨by kernel_rfl, ?_⟩) (by assumption) ?_
        · intro ww hSw
          clear hSw
          go_simp
          all_goals (try assumption)
          all_goals (try rfl)
        try simp only [Act.put, List.setIfInBounds_toArray, List.set_cons_zero, List.set_cons_succ, List.getElem_toArray, List.getElem_cons_succ, List.getElem_cons_zero]
        refine wpAnyH_take (i := 6) (v := .bool false) rfl (by kernel_rfl) (by kernel_rfl) (by kernel_rfl) (fun _ _ _ h => h) (Or.inl ⟨by kernel_rfl, ?_⟩) (by assumption) ?_
        · intro ww hSw
          clear hSw
          go_simp
          all_goals (try assumption)
          all_goals (try rfl)
        try simp only [Act.put, List.setIfInBounds_toArray, List.set_cons_zero, List.set_cons_succ, List.getElem_toArray, List.getElem_cons_succ, List.getElem_cons_zero]
        refine wpAnyH_take (i := 7) (v := .bool false) rfl (by kernel_rfl) (by kernel_rfl) (by kernel_rfl) (fun _ _ _ h => h) (Or.inl ⟨by kernel_rfl, ?_⟩) (by assumption) ?_
        · intro ww hSw
          clear hSw
          go_simp
          all_goals (try assumption)
          all_goals (try rfl)
        try simp only [Act.put, List.setIfInBounds_toArray, List.set_cons_zero, List.set_cons_succ, List.getElem_toArray, List.getElem_cons_succ, List.getElem_cons_zero]
        refine wpAnyH_take (i := 8) (v := .bool false) rfl (by kernel_rfl) (by kernel_rfl) (by kernel_rfl) (fun _ _ _ h => h) (Or.inl ⟨by kernel_rfl, ?_⟩) (by assumption) ?_
        · intro ww hSw
          clear hSw
          go_simp
          all_goals (try assumption)
          all_goals (try rfl)
        try simp only [Act.put, List.setIfInBounds_toArray, List.set_cons_zero, List.set_cons_succ, List.getElem_toArray, List.getElem_cons_succ, List.getElem_cons_zero]
        refine wpAnyH_take (i := 9) (v := .int .i64 0) rfl (by kernel_rfl) (by kernel_rfl) (by kernel_rfl) (fun _ _ _ h => h) (Or.inl ⟨by kernel_rfl, ?_⟩) (by assumption) ?_
        · intro ww hSw
          clear hSw
          go_simp
          all_goals (try assumption)
          all_goals (try rfl)
        try simp only [Act.put, List.setIfInBounds_toArray, List.set_cons_zero, List.set_cons_succ, List.getElem_toArray, List.getElem_cons_succ, List.getElem_cons_zero]
        refine wpAnyH_take (i := 10) (v := .bool true) rfl (by kernel_rfl) (by kernel_rfl) (by kernel_rfl) (fun _ _ _ h => h) (Or.inl ⟨by kernel_rfl, ?_⟩) (by assumption) ?_
        · intro ww hSw
          clear hSw
          go_simp
          all_goals (try assumption)
          all_goals (try rfl)
        try simp only [Act.put, List.setIfInBounds_toArray, List.set_cons_zero, List.set_cons_succ, List.getElem_toArray, List.getElem_cons_succ, List.getElem_cons_zero]
        refine wpAnyH_take (i := 11) (v := .bool true) rfl (by kernel_rfl) (by kernel_rfl) (by kernel_rfl) (fun _ _ _ h => h) (Or.inl ⟨by kernel_rfl, ?_⟩) (by assumption) ?_
        · intro ww hSw
          clear hSw
          go_simp
          all_goals (try assumption)
          all_goals (try rfl)
        try simp only [Act.put, List.setIfInBounds_toArray, List.set_cons_zero, List.set_cons_succ, List.getElem_toArray, List.getElem_cons_succ, List.getElem_cons_zero]
        refine wpAnyH_take (i := 12) (v := .agg #[.int .u16 (x0 : Nat), .int .u16 (x1 : Nat), .int .u16 (x2 : Nat), .int .u32 (x3 : Nat), .int .u32 (x4 : Nat), .int .u32 (x5 : Nat), .int .u32 (x6 : Nat), .string s7, .string s8]) rfl (by kernel_rfl) (by kernel_rfl) (by kernel_rfl) (fun _ _ _ h => h) (Or.inl ⟨by kernel_rfl, ?_⟩) (by assumption) ?_
        · intro ww hSw
          have hc0 : ww.cell? ⟨gb, 0, none⟩ = some (.int .u16 (x0 : Nat)) := by rw [Lib.cell_of_heap hSw.1]; rfl
          have hc1 : ww.cell? ⟨gb, 1, none⟩ = some (.int .u16 (x1 : Nat)) := by rw [Lib.cell_of_heap hSw.1]; rfl
          have hc2 : ww.cell? ⟨gb, 2, none⟩ = some (.int .u16 (x2 : Nat)) := by rw [Lib.cell_of_heap hSw.1]; rfl
          have hc3 : ww.cell? ⟨gb, 3, none⟩ = some (.int .u32 (x3 : Nat)) := by rw [Lib.cell_of_heap hSw.1]; rfl
          have hc4 : ww.cell? ⟨gb, 4, none⟩ = some (.int .u32 (x4 : Nat)) := by rw [Lib.cell_of_heap hSw.1]; rfl
          have hc5 : ww.cell? ⟨gb, 5, none⟩ = some (.int .u32 (x5 : Nat)) := by rw [Lib.cell_of_heap hSw.1]; rfl
          have hc6 : ww.cell? ⟨gb, 6, none⟩ = some (.int .u32 (x6 : Nat)) := by rw [Lib.cell_of_heap hSw.1]; rfl
          have hc7 : ww.cell? ⟨gb, 7, none⟩ = some (.string s7) := by rw [Lib.cell_of_heap hSw.1]; rfl
          have hc8 : ww.cell? ⟨gb, 8, none⟩ = some (.string s8) := by rw [Lib.cell_of_heap hSw.1]; rfl
          clear hSw
          go_simp
          all_goals (try assumption)
          all_goals (try rfl)
        try simp only [Act.put, List.setIfInBounds_toArray, List.set_cons_zero, List.set_cons_succ, List.getElem_toArray, List.getElem_cons_succ, List.getElem_cons_zero]
        refine wpAnyH_take (i := 14) (v := .slice A2 10 c2) rfl (by kernel_rfl) (by kernel_rfl) (by kernel_rfl) (fun _ _ _ h => h) (Or.inl ⟨by kernel_rfl, ?_⟩) (by assumption) ?_
        · intro ww hSw
          clear hSw
          go_simp
          all_goals (try assumption)
          all_goals (try rfl)
        try simp only [Act.put, List.setIfInBounds_toArray, List.set_cons_zero, List.set_cons_succ, List.getElem_toArray, List.getElem_cons_succ, List.getElem_cons_zero]
        refine wpAnyH_ready (rs := [13]) (by kernel_rfl) (by simp) ?_
        refine AllReadyH.cons rfl (fun K hK => ?_) AllReadyH.nil
        go_simp
        refine (HLW.out _).mono ?_
        rintro e w8 ⟨rfl, hrow, hb8⟩
        have hS8 : (fun ww => ww.heap[gb]? = some (.cells #[.int .u16 (x0 : Nat), .int .u16 (x1 : Nat), .int .u16 (x2 : Nat), .int .u32 (x3 : Nat), .int .u32 (x4 : Nat), .int .u32 (x5 : Nat), .int .u32 (x6 : Nat), .string s7, .string s8] 26 (0, 0)) ∧ Below w.heap.size w ww ∧ RdI ww .u64 A2 (rowLocal x0 x1 x2 x3 x4 x5 x6 s7 s8) ∧ ww.cell? ⟨g3, 0, none⟩ = some (.string s7) ∧ ww.cell? ⟨g3, 1, none⟩ = some (.string s8)) w8 := ⟨(hb8.block _ (lt_of_some hSA.1)).trans hSA.1, hSA.2.1.trans (hb8.mono hSA.2.1.size), hSA.2.2.1.below hb8, (hb8.cell (p := ⟨g3, 0, none⟩) (World.block_lt_of_cell? _ _ hSA.2.2.2.1)).trans hSA.2.2.2.1, (hb8.cell (p := ⟨g3, 1, none⟩) (World.block_lt_of_cell? _ _ hSA.2.2.2.2)).trans hSA.2.2.2.2⟩
        have HROW8 := Lib.hid hrow
        refine hK.out _ _ hS8 (fun hS9 => ?_)
        clear hK K
        try simp only [Act.put, List.setIfInBounds_toArray, List.set_cons_zero, List.set_cons_succ, List.getElem_toArray, List.getElem_cons_succ, List.getElem_cons_zero]
        refine wpAnyH_ready (rs := [15]) (by kernel_rfl) (by simp) ?_
        refine AllReadyH.cons rfl (fun K hK => ?_) AllReadyH.nil
        go_simp
        refine (equal_same _ _ 10 c2 _ (by simp [rowLocal]) _ HROW8.out hS9.2.2.1).mono ?_
        rintro e w10 ⟨rfl, d10, rfl⟩
        have hS10 : (fun ww => ww.heap[gb]? = some (.cells #[.int .u16 (x0 : Nat), .int .u16 (x1 : Nat), .int .u16 (x2 : Nat), .int .u32 (x3 : Nat), .int .u32 (x4 : Nat), .int .u32 (x5 : Nat), .int .u32 (x6 : Nat), .string s7, .string s8] 26 (0, 0)) ∧ Below w.heap.size w ww ∧ RdI ww .u64 A2 (rowLocal x0 x1 x2 x3 x4 x5 x6 s7 s8) ∧ ww.cell? ⟨g3, 0, none⟩ = some (.string s7) ∧ ww.cell? ⟨g3, 1, none⟩ = some (.string s8)) (w8.drewN d10) := ⟨hS9.1, below_drewN hS9.2.1 d10, hS9.2.2.1.drewN d10, hS9.2.2.2⟩
        refine hK.out _ _ hS10 (fun hS11 => ?_)
        clear hK K
        try simp only [Act.put, List.setIfInBounds_toArray, List.set_cons_zero, List.set_cons_succ, List.getElem_toArray, List.getElem_cons_succ, List.getElem_cons_zero]
        refine wpAnyH_take (i := 16) (v := .bool false) rfl (by kernel_rfl) (by kernel_rfl) (by kernel_rfl) (fun _ _ _ h => h) (Or.inl ⟨by kernel_rfl, ?_⟩) (by assumption) ?_
        · intro ww hSw
          clear hSw
          go_simp
          all_goals (try assumption)
          all_goals (try rfl)
        try simp only [Act.put, List.setIfInBounds_toArray, List.set_cons_zero, List.set_cons_succ, List.getElem_toArray, List.getElem_cons_succ, List.getElem_cons_zero]
        refine wpAnyH_take (i := 17) (v := .bool false) rfl (by kernel_rfl) (by kernel_rfl) (by kernel_rfl) (fun _ _ _ h => h) (Or.inl ⟨by kernel_rfl, ?_⟩) (by assumption) ?_
        · intro ww hSw
          clear hSw
          go_simp
          all_goals (try assumption)
          all_goals (try rfl)
        try simp only [Act.put, List.setIfInBounds_toArray, List.set_cons_zero, List.set_cons_succ, List.getElem_toArray, List.getElem_cons_succ, List.getElem_cons_zero]
        refine wpAnyH_take (i := 18) (v := .pointer (some ⟨gb, 7, none⟩)) rfl (by kernel_rfl) (by kernel_rfl) (by kernel_rfl) (fun _ _ _ h => h) (Or.inl ⟨by kernel_rfl, ?_⟩) (by assumption) ?_
        · intro ww hSw
          clear hSw
          go_simp
          all_goals (try assumption)
          all_goals (try rfl)
        try simp only [Act.put, List.setIfInBounds_toArray, List.set_cons_zero, List.set_cons_succ, List.getElem_toArray, List.getElem_cons_succ, List.getElem_cons_zero]
        refine wpAnyH_take (i := 19) (v := .string s7) rfl (by kernel_rfl) (by kernel_rfl) (by kernel_rfl) (fun _ _ _ h => h) (Or.inl ⟨by kernel_rfl, ?_⟩) (by assumption) ?_
        · intro ww hSw
          have hcc : ww.cell? ⟨gb, 7, none⟩ = some (.string s7) := by rw [Lib.cell_of_heap hSw.1]; rfl
          clear hSw
          go_simp
          all_goals (try assumption)
          all_goals (try rfl)
        try simp only [Act.put, List.setIfInBounds_toArray, List.set_cons_zero, List.set_cons_succ, List.getElem_toArray, List.getElem_cons_succ, List.getElem_cons_zero]
        refine wpAnyH_take (i := 20) (v := .slice (some ⟨g3, 0, none⟩) 2 c3) rfl (by kernel_rfl) (by kernel_rfl) (by kernel_rfl) (fun _ _ _ h => h) (Or.inl ⟨by kernel_rfl, ?_⟩) (by assumption) ?_
        · intro ww hSw
          clear hSw
          go_simp
          all_goals (try assumption)
          all_goals (try rfl)
        try simp only [Act.put, List.setIfInBounds_toArray, List.set_cons_zero, List.set_cons_succ, List.getElem_toArray, List.getElem_cons_succ, List.getElem_cons_zero]
        refine wpAnyH_take (i := 21) (v := .pointer (some ⟨g3, 0, none⟩)) rfl (by kernel_rfl) (by kernel_rfl) (by kernel_rfl) (fun _ _ _ h => h) (Or.inl ⟨by kernel_rfl, ?_⟩) (by assumption) ?_
        · intro ww hSw
          clear hSw
          go_simp
          all_goals (try assumption)
          all_goals (try rfl)
        try simp only [Act.put, List.setIfInBounds_toArray, List.set_cons_zero, List.set_cons_succ, List.getElem_toArray, List.getElem_cons_succ, List.getElem_cons_zero]
        refine wpAnyH_take (i := 22) (v := .string s7) rfl (by kernel_rfl) (by kernel_rfl) (by kernel_rfl) (fun _ _ _ h => h) (Or.inl ⟨by kernel_rfl, ?_⟩) (by assumption) ?_
        · intro ww hSw
          have hcc : ww.cell? ⟨g3, 0, none⟩ = some (.string s7) := hSw.2.2.2.1
          clear hSw
          go_simp
          all_goals (try assumption)
          all_goals (try rfl)
        try simp only [Act.put, List.setIfInBounds_toArray, List.set_cons_zero, List.set_cons_succ, List.getElem_toArray, List.getElem_cons_succ, List.getElem_cons_zero]
        refine wpAnyH_take (i := 23) (v := .bool false) rfl (by kernel_rfl) (by kernel_rfl) (by kernel_rfl) (fun _ _ _ h => h) (Or.inl ⟨by kernel_rfl, ?_⟩) (by assumption) ?_
        · intro ww hSw
          clear hSw
          go_simp
          all_goals (try assumption)
          all_goals (try rfl)
        try simp only [Act.put, List.setIfInBounds_toArray, List.set_cons_zero, List.set_cons_succ, List.getElem_toArray, List.getElem_cons_succ, List.getElem_cons_zero]
        refine wpAnyH_take (i := 24) (v := .bool false) rfl (by kernel_rfl) (by kernel_rfl) (by kernel_rfl) (fun _ _ _ h => h) (Or.inl ⟨by kernel_rfl, ?_⟩) (by assumption) ?_
        · intro ww hSw
          clear hSw
          go_simp
          all_goals (try assumption)
          all_goals (try rfl)
        try simp only [Act.put, List.setIfInBounds_toArray, List.set_cons_zero, List.set_cons_succ, List.getElem_toArray, List.getElem_cons_succ, List.getElem_cons_zero]
        refine wpAnyH_take (i := 25) (v := .bool false) rfl (by kernel_rfl) (by kernel_rfl) (by kernel_rfl) (fun _ _ _ h => h) (Or.inl ⟨by kernel_rfl, ?_⟩) (by assumption) ?_
        · intro ww hSw
          clear hSw
          go_simp
          all_goals (try assumption)
          all_goals (try rfl)
        try simp only [Act.put, List.setIfInBounds_toArray, List.set_cons_zero, List.set_cons_succ, List.getElem_toArray, List.getElem_cons_succ, List.getElem_cons_zero]
        refine wpAnyH_take (i := 26) (v := .pointer (some ⟨gb, 8, none⟩)) rfl (by kernel_rfl) (by kernel_rfl) (by kernel_rfl) (fun _ _ _ h => h) (Or.inl ⟨by kernel_rfl, ?_⟩) (by assumption) ?_
        · intro ww hSw
          clear hSw
          go_simp
          all_goals (try assumption)
          all_goals (try rfl)
        try simp only [Act.put, List.setIfInBounds_toArray, List.set_cons_zero, List.set_cons_succ, List.getElem_toArray, List.getElem_cons_succ, List.getElem_cons_zero]
        refine wpAnyH_take (i := 27) (v := .string s8) rfl (by kernel_rfl) (by kernel_rfl) (by kernel_rfl) (fun _ _ _ h => h) (Or.inl ⟨by kernel_rfl, ?_⟩) (by assumption) ?_
        · intro ww hSw
          have hcc : ww.cell? ⟨gb, 8, none⟩ = some (.string s8) := by rw [Lib.cell_of_heap hSw.1]; rfl
          clear hSw
          go_simp
          all_goals (try assumption)
          all_goals (try rfl)
        try simp only [Act.put, List.setIfInBounds_toArray, List.set_cons_zero, List.set_cons_succ, List.getElem_toArray, List.getElem_cons_succ, List.getElem_cons_zero]
        refine wpAnyH_take (i := 28) (v := .slice (some ⟨g3, 0, none⟩) 2 c3) rfl (by kernel_rfl) (by kernel_rfl) (by kernel_rfl) (fun _ _ _ h => h) (Or.inl ⟨by kernel_rfl, ?_⟩) (by assumption) ?_
        · intro ww hSw
          clear hSw
          go_simp
          all_goals (try assumption)
          all_goals (try rfl)
        try simp only [Act.put, List.setIfInBounds_toArray, List.set_cons_zero, List.set_cons_succ, List.getElem_toArray, List.getElem_cons_succ, List.getElem_cons_zero]
        refine wpAnyH_take (i := 29) (v := .pointer (some ⟨g3, 1, none⟩)) rfl (by kernel_rfl) (by kernel_rfl) (by kernel_rfl) (fun _ _ _ h => h) (Or.inl ⟨by kernel_rfl, ?_⟩) (by assumption) ?_
        · intro ww hSw
          clear hSw
          go_simp
          all_goals (try assumption)
          all_goals (try rfl)
        try simp only [Act.put, List.setIfInBounds_toArray, List.set_cons_zero, List.set_cons_succ, List.getElem_toArray, List.getElem_cons_succ, List.getElem_cons_zero]
        refine wpAnyH_take (i := 30) (v := .string s8) rfl (by kernel_rfl) (by kernel_rfl) (by kernel_rfl) (fun _ _ _ h => h) (Or.inl ⟨by kernel_rfl, ?_⟩) (by assumption) ?_
        · intro ww hSw
          have hcc : ww.cell? ⟨g3, 1, none⟩ = some (.string s8) := hSw.2.2.2.2
          clear hSw
          go_simp
          all_goals (try assumption)
          all_goals (try rfl)
        try simp only [Act.put, List.setIfInBounds_toArray, List.set_cons_zero, List.set_cons_succ, List.getElem_toArray, List.getElem_cons_succ, List.getElem_cons_zero]
        refine wpAnyH_take (i := 31) (v := .bool false) rfl (by kernel_rfl) (by kernel_rfl) (by kernel_rfl) (fun _ _ _ h => h) (Or.inl ⟨by kernel_rfl, ?_⟩) (by assumption) ?_
        · intro ww hSw
          clear hSw
          go_simp
          all_goals (try assumption)
          all_goals (try rfl)
        try simp only [Act.put, List.setIfInBounds_toArray, List.set_cons_zero, List.set_cons_succ, List.getElem_toArray, List.getElem_cons_succ, List.getElem_cons_zero]
        refine wpAnyH_take (i := 32) (v := .bool false) rfl (by kernel_rfl) (by kernel_rfl) (by kernel_rfl) (fun _ _ _ h => h) (Or.inl ⟨by kernel_rfl, ?_⟩) (by assumption) ?_
        · intro ww hSw
          clear hSw
          go_simp
          all_goals (try assumption)
          all_goals (try rfl)
        try simp only [Act.put, List.setIfInBounds_toArray, List.set_cons_zero, List.set_cons_succ, List.getElem_toArray, List.getElem_cons_succ, List.getElem_cons_zero]
        refine wpAnyH_take (i := 33) (v := .bool false) rfl (by kernel_rfl) (by kernel_rfl) (by kernel_rfl) (fun _ _ _ h => h) (Or.inl ⟨by kernel_rfl, ?_⟩) (by assumption) ?_
        · intro ww hSw
          clear hSw
          go_simp
          all_goals (try assumption)
          all_goals (try rfl)
        try simp only [Act.put, List.setIfInBounds_toArray, List.set_cons_zero, List.set_cons_succ, List.getElem_toArray, List.getElem_cons_succ, List.getElem_cons_zero]
        refine wpAnyH_take (i := 34) (v := .bool false) rfl (by kernel_rfl) (by kernel_rfl) (by kernel_rfl) (fun _ _ _ h => h) (Or.inl ⟨by kernel_rfl, ?_⟩) (by assumption) ?_
        · intro ww hSw
          clear hSw
          go_simp
          all_goals (try assumption)
          all_goals (try rfl)
        try simp only [Act.put, List.setIfInBounds_toArray, List.set_cons_zero, List.set_cons_succ, List.getElem_toArray, List.getElem_cons_succ, List.getElem_cons_zero]
        refine wpAnyH_take (i := 35) (v := .bool false) rfl (by kernel_rfl) (by kernel_rfl) (by kernel_rfl) (fun _ _ _ h => h) (Or.inl ⟨by kernel_rfl, ?_⟩) (by assumption) ?_
        · intro ww hSw
          clear hSw
          go_simp
          all_goals (try assumption)
          all_goals (try rfl)
        try simp only [Act.put, List.setIfInBounds_toArray, List.set_cons_zero, List.set_cons_succ, List.getElem_toArray, List.getElem_cons_succ, List.getElem_cons_zero]
        refine wpAnyH_take (i := 36) (v := .int .i64 0) rfl (by kernel_rfl) (by kernel_rfl) (by kernel_rfl) (fun _ _ _ h => h) (Or.inl ⟨by kernel_rfl, ?_⟩) (by assumption) ?_
        · intro ww hSw
          clear hSw
          go_simp
          all_goals (try assumption)
          all_goals (try rfl)
        try simp only [Act.put, List.setIfInBounds_toArray, List.set_cons_zero, List.set_cons_succ, List.getElem_toArray, List.getElem_cons_succ, List.getElem_cons_zero]
        refine wpAnyH_take (i := 37) (v := .bool false) rfl (by kernel_rfl) (by kernel_rfl) (by kernel_rfl) (fun _ _ _ h => h) (Or.inl ⟨by kernel_rfl, ?_⟩) (by assumption) ?_
        · intro ww hSw
          clear hSw
          go_simp
          all_goals (try assumption)
          all_goals (try rfl)
        try simp only [Act.put, List.setIfInBounds_toArray, List.set_cons_zero, List.set_cons_succ, List.getElem_toArray, List.getElem_cons_succ, List.getElem_cons_zero]
        refine wpAnyH_take (i := 38) (v := .bool false) rfl (by kernel_rfl) (by kernel_rfl) (by kernel_rfl) (fun _ _ _ h => h) (Or.inl ⟨by kernel_rfl, ?_⟩) (by assumption) ?_
        · intro ww hSw
          clear hSw
          go_simp
          all_goals (try assumption)
          all_goals (try rfl)
        try simp only [Act.put, List.setIfInBounds_toArray, List.set_cons_zero, List.set_cons_succ, List.getElem_toArray, List.getElem_cons_succ, List.getElem_cons_zero]
        refine wpAnyH_take (i := 39) (v := undef) rfl (by kernel_rfl) (by kernel_rfl) (by kernel_rfl) (fun _ _ _ h => h) (Or.inr ⟨by kernel_rfl, rfl⟩) (by assumption) ?_
        try simp only [Act.put, List.setIfInBounds_toArray, List.set_cons_zero, List.set_cons_succ, List.getElem_toArray, List.getElem_cons_succ, List.getElem_cons_zero]
        refine wpAnyH_take (i := 40) (v := undef) rfl (by kernel_rfl) (by kernel_rfl) (by kernel_rfl) (fun _ _ _ h => h) (Or.inr ⟨by kernel_rfl, rfl⟩) (by assumption) ?_
        try simp only [Act.put, List.setIfInBounds_toArray, List.set_cons_zero, List.set_cons_succ, List.getElem_toArray, List.getElem_cons_succ, List.getElem_cons_zero]
        refine wpAnyH_take (i := 41) (v := undef) rfl (by kernel_rfl) (by kernel_rfl) (by kernel_rfl) (fun _ _ _ h => h) (Or.inr ⟨by kernel_rfl, rfl⟩) (by assumption) ?_
        try simp only [Act.put, List.setIfInBounds_toArray, List.set_cons_zero, List.set_cons_succ, List.getElem_toArray, List.getElem_cons_succ, List.getElem_cons_zero]
        refine wpAnyH_take (i := 42) (v := .bool false) rfl (by kernel_rfl) (by kernel_rfl) (by kernel_rfl) (fun _ _ _ h => h) (Or.inl ⟨by kernel_rfl, ?_⟩) (by assumption) ?_
        · intro ww hSw
          clear hSw
          go_simp
          all_goals (try assumption)
          all_goals (try rfl)
        try simp only [Act.put, List.setIfInBounds_toArray, List.set_cons_zero, List.set_cons_succ, List.getElem_toArray, List.getElem_cons_succ, List.getElem_cons_zero]
        refine wpAnyH_take (i := 43) (v := .bool false) rfl (by kernel_rfl) (by kernel_rfl) (by kernel_rfl) (fun _ _ _ h => h) (Or.inl ⟨by kernel_rfl, ?_⟩) (by assumption) ?_
        · intro ww hSw
          clear hSw
          go_simp
          all_goals (try assumption)
          all_goals (try rfl)
        try simp only [Act.put, List.setIfInBounds_toArray, List.set_cons_zero, List.set_cons_succ, List.getElem_toArray, List.getElem_cons_succ, List.getElem_cons_zero]
        have HFB := Lib.hid hS11.2.1
        refine wpAnyH_done (by kernel_rfl) ?_ _
        go_wp2_with fail
        go_meet
        exact ⟨rfl, HFB.out⟩
    · as_aux_lemma =>
        obtain ⟨hno, rfl, rfl, rfl, rfl, rfl, rfl, rfl, rfl, rfl, rfl, rfl⟩ := hy
        rcases hpc with ⟨hok, _⟩ | ⟨_, heq⟩
        case inl => exact absurd hok hno
        have he0 : ((erB s 67324752 : Nat) : Int) ≠ 0 := by unfold erB; split <;> decide
        unfold noR at heq
        rw [er_same] at heq
        injection heq with heq
        injection heq with heq
        simp only [Array.mk.injEq, List.cons.injEq, and_true] at heq
        obtain ⟨rfl, rfl, hm1, hf1⟩ := heq
        injection hm1 with _ hm1
        injection hf1 with _ hf1
        obtain rfl : m = 0 := Int.ofNat.inj hm1
        obtain rfl := Int.ofNat.inj hf1
        generalize erB s 67324752 = e at *
        have he1 : (((e : Nat) : Int) == 0) = false := beq_eq_false_iff_ne.2 he0
        have he2 : ¬ e = 0 := by omega
        have HEQ : ∀ w, (Op.equalIn 9999 26 (.agg #[.int .u16 0, .int .u16 0, .int .u16 0, .int .u32 0, .int .u32 0, .int .u32 0, .int .u32 0, .string ⟨#[]⟩, .string ⟨#[]⟩]) (.agg #[.int .u16 0, .int .u16 0, .int .u16 0, .int .u32 0, .int .u32 0, .int .u32 0, .int .u32 0, .string ⟨#[]⟩, .string ⟨#[]⟩])).run Try.prog w = .ok true w := fun w => by kernel_rfl
        clear hno
        have hS0 : (fun ww => ww.heap[gb]? = some (.cells #[.int .u16 0, .int .u16 0, .int .u16 0, .int .u32 0, .int .u32 0, .int .u32 0, .int .u32 0, .string ⟨#[]⟩, .string ⟨#[]⟩] 26 (0, 0)) ∧ Below w.heap.size w ww) w3.drew := ⟨HH4.out, HB4.out.drew⟩
        refine wp_region_held_drew (S := fun ww => ww.heap[gb]? = some (.cells #[.int .u16 0, .int .u16 0, .int .u16 0, .int .u32 0, .int .u32 0, .int .u32 0, .int .u32 0, .string ⟨#[]⟩, .string ⟨#[]⟩] 26 (0, 0)) ∧ Below w.heap.size w ww) (by kernel_rfl) hS0 (fun hSA => ?_)
        clear hS0
        refine wpAnyH_take (i := 0) (v := .int .i64 (e : Nat)) rfl (by kernel_rfl) (by kernel_rfl) (by kernel_rfl) (fun _ _ _ h => h) (Or.inl ⟨by kernel_rfl, ?_⟩) (by assumption) ?_
        · intro ww hSw
          clear hSw
          go_simp
          all_goals (try assumption)
          all_goals (try rfl)
        try simp only [Act.put, List.setIfInBounds_toArray, List.set_cons_zero, List.set_cons_succ, List.getElem_toArray, List.getElem_cons_succ, List.getElem_cons_zero]
        refine wpAnyH_take (i := 1) (v := .int .i64 (e : Nat)) rfl (by kernel_rfl) (by kernel_rfl) (by kernel_rfl) (fun _ _ _ h => h) (Or.inl ⟨by kernel_rfl, ?_⟩) (by assumption) ?_
        · intro ww hSw
          clear hSw
          go_simp
          all_goals (try assumption)
          all_goals (try rfl)
        try simp only [Act.put, List.setIfInBounds_toArray, List.set_cons_zero, List.set_cons_succ, List.getElem_toArray, List.getElem_cons_succ, List.getElem_cons_zero]
        refine wpAnyH_take (i := 2) (v := .bool false) rfl (by kernel_rfl) (by kernel_rfl) (by kernel_rfl) (fun _ _ _ h => h) (Or.inl ⟨by kernel_rfl, ?_⟩) (by assumption) ?_
        · intro ww hSw
          clear hSw
          go_simp
          all_goals (try assumption)
          all_goals (try rfl)
        try simp only [Act.put, List.setIfInBounds_toArray, List.set_cons_zero, List.set_cons_succ, List.getElem_toArray, List.getElem_cons_succ, List.getElem_cons_zero]
        refine wpAnyH_take (i := 3) (v := .bool false) rfl (by kernel_rfl) (by kernel_rfl) (by kernel_rfl) (fun _ _ _ h => h) (Or.inl ⟨by kernel_rfl, ?_⟩) (by assumption) ?_
        · intro ww hSw
          clear hSw
          go_simp
          all_goals (try assumption)
          all_goals (try rfl)
        try simp only [Act.put, List.setIfInBounds_toArray, List.set_cons_zero, List.set_cons_succ, List.getElem_toArray, List.getElem_cons_succ, List.getElem_cons_zero]
        refine wpAnyH_take (i := 4) (v := .int .i64 0) rfl (by kernel_rfl) (by kernel_rfl) (by kernel_rfl) (fun _ _ _ h => h) (Or.inl ⟨by kernel_rfl, ?_⟩) (by assumption) ?_
        · intro ww hSw
          clear hSw
          go_simp
          all_goals (try assumption)
          all_goals (try rfl)
        try simp only [Act.put, List.setIfInBounds_toArray, List.set_cons_zero, List.set_cons_succ, List.getElem_toArray, List.getElem_cons_succ, List.getElem_cons_zero]
        refine wpAnyH_take (i := 5) (v := .int .i64 0) rfl (by kernel_rfl) (by kernel_rfl) (by kernel_rfl) (fun _ _ _ h => h) (Or.inl ⟨by kernel_rfl, ?_⟩) (by assumption) ?_
        · intro ww hSw
          clear hSw
          go_simp
          all_goals (try assumption)
          all_goals (try rfl)
        try simp only [Act.put, List.setIfInBounds_toArray, List.set_cons_zero, List.set_cons_succ, List.getElem_toArray, List.getElem_cons_succ, List.getElem_cons_zero]
        refine wpAnyH_take (i := 6) (v := .bool false) rfl (by kernel_rfl) (by kernel_rfl) (by kernel_rfl) (fun _ _ _ h => h) (Or.inl ⟨by kernel_rfl, ?_⟩) (by assumption) ?_
        · intro ww hSw
          clear hSw
          go_simp
          all_goals (try assumption)
          all_goals (try rfl)
        try simp only [Act.put, List.setIfInBounds_toArray, List.set_cons_zero, List.set_cons_succ, List.getElem_toArray, List.getElem_cons_succ, List.getElem_cons_zero]
        refine wpAnyH_take (i := 7) (v := .bool false) rfl (by kernel_rfl) (by kernel_rfl) (by kernel_rfl) (fun _ _ _ h => h) (Or.inl ⟨by kernel_rfl, ?_⟩) (by assumption) ?_
        · intro ww hSw
          clear hSw
          go_simp
          all_goals (try assumption)
          all_goals (try rfl)
        try simp only [Act.put, List.setIfInBounds_toArray, List.set_cons_zero, List.set_cons_succ, List.getElem_toArray, List.getElem_cons_succ, List.getElem_cons_zero]
        refine wpAnyH_take (i := 8) (v := .bool false) rfl (by kernel_rfl) (by kernel_rfl) (by kernel_rfl) (fun _ _ _ h => h) (Or.inl ⟨by kernel_rfl, ?_⟩) (by assumption) ?_
        · intro ww hSw
          clear hSw
          go_simp
          all_goals (try assumption)
          all_goals (try rfl)
        try simp only [Act.put, List.setIfInBounds_toArray, List.set_cons_zero, List.set_cons_succ, List.getElem_toArray, List.getElem_cons_succ, List.getElem_cons_zero]
        refine wpAnyH_take (i := 9) (v := .int .i64 (e : Nat)) rfl (by kernel_rfl) (by kernel_rfl) (by kernel_rfl) (fun _ _ _ h => h) (Or.inl ⟨by kernel_rfl, ?_⟩) (by assumption) ?_
        · intro ww hSw
          clear hSw
          go_simp
          all_goals (try assumption)
          all_goals (try rfl)
        try simp only [Act.put, List.setIfInBounds_toArray, List.set_cons_zero, List.set_cons_succ, List.getElem_toArray, List.getElem_cons_succ, List.getElem_cons_zero]
        refine wpAnyH_take (i := 10) (v := .bool false) rfl (by kernel_rfl) (by kernel_rfl) (by kernel_rfl) (fun _ _ _ h => h) (Or.inl ⟨by kernel_rfl, ?_⟩) (by assumption) ?_
        · intro ww hSw
          clear hSw
          go_simp
          all_goals (try assumption)
          all_goals (try rfl)
        try simp only [Act.put, List.setIfInBounds_toArray, List.set_cons_zero, List.set_cons_succ, List.getElem_toArray, List.getElem_cons_succ, List.getElem_cons_zero]
        refine wpAnyH_take (i := 11) (v := .bool false) rfl (by kernel_rfl) (by kernel_rfl) (by kernel_rfl) (fun _ _ _ h => h) (Or.inl ⟨by kernel_rfl, ?_⟩) (by assumption) ?_
        · intro ww hSw
          clear hSw
          go_simp
          all_goals (try assumption)
          all_goals (try rfl)
        try simp only [Act.put, List.setIfInBounds_toArray, List.set_cons_zero, List.set_cons_succ, List.getElem_toArray, List.getElem_cons_succ, List.getElem_cons_zero]
        refine wpAnyH_take (i := 12) (v := undef) rfl (by kernel_rfl) (by kernel_rfl) (by kernel_rfl) (fun _ _ _ h => h) (Or.inr ⟨by kernel_rfl, rfl⟩) (by assumption) ?_
        try simp only [Act.put, List.setIfInBounds_toArray, List.set_cons_zero, List.set_cons_succ, List.getElem_toArray, List.getElem_cons_succ, List.getElem_cons_zero]
        refine wpAnyH_take (i := 13) (v := undef) rfl (by kernel_rfl) (by kernel_rfl) (by kernel_rfl) (fun _ _ _ h => h) (Or.inr ⟨by kernel_rfl, rfl⟩) (by assumption) ?_
        try simp only [Act.put, List.setIfInBounds_toArray, List.set_cons_zero, List.set_cons_succ, List.getElem_toArray, List.getElem_cons_succ, List.getElem_cons_zero]
        refine wpAnyH_take (i := 14) (v := undef) rfl (by kernel_rfl) (by kernel_rfl) (by kernel_rfl) (fun _ _ _ h => h) (Or.inr ⟨by kernel_rfl, rfl⟩) (by assumption) ?_
        try simp only [Act.put, List.setIfInBounds_toArray, List.set_cons_zero, List.set_cons_succ, List.getElem_toArray, List.getElem_cons_succ, List.getElem_cons_zero]
        refine wpAnyH_take (i := 15) (v := undef) rfl (by kernel_rfl) (by kernel_rfl) (by kernel_rfl) (fun _ _ _ h => h) (Or.inr ⟨by kernel_rfl, rfl⟩) (by assumption) ?_
        try simp only [Act.put, List.setIfInBounds_toArray, List.set_cons_zero, List.set_cons_succ, List.getElem_toArray, List.getElem_cons_succ, List.getElem_cons_zero]
        refine wpAnyH_take (i := 16) (v := undef) rfl (by kernel_rfl) (by kernel_rfl) (by kernel_rfl) (fun _ _ _ h => h) (Or.inr ⟨by kernel_rfl, rfl⟩) (by assumption) ?_
        try simp only [Act.put, List.setIfInBounds_toArray, List.set_cons_zero, List.set_cons_succ, List.getElem_toArray, List.getElem_cons_succ, List.getElem_cons_zero]
        refine wpAnyH_take (i := 17) (v := undef) rfl (by kernel_rfl) (by kernel_rfl) (by kernel_rfl) (fun _ _ _ h => h) (Or.inr ⟨by kernel_rfl, rfl⟩) (by assumption) ?_
        try simp only [Act.put, List.setIfInBounds_toArray, List.set_cons_zero, List.set_cons_succ, List.getElem_toArray, List.getElem_cons_succ, List.getElem_cons_zero]
        refine wpAnyH_take (i := 18) (v := undef) rfl (by kernel_rfl) (by kernel_rfl) (by kernel_rfl) (fun _ _ _ h => h) (Or.inr ⟨by kernel_rfl, rfl⟩) (by assumption) ?_
        try simp only [Act.put, List.setIfInBounds_toArray, List.set_cons_zero, List.set_cons_succ, List.getElem_toArray, List.getElem_cons_succ, List.getElem_cons_zero]
        refine wpAnyH_take (i := 19) (v := undef) rfl (by kernel_rfl) (by kernel_rfl) (by kernel_rfl) (fun _ _ _ h => h) (Or.inr ⟨by kernel_rfl, rfl⟩) (by assumption) ?_
        try simp only [Act.put, List.setIfInBounds_toArray, List.set_cons_zero, List.set_cons_succ, List.getElem_toArray, List.getElem_cons_succ, List.getElem_cons_zero]
        refine wpAnyH_take (i := 20) (v := undef) rfl (by kernel_rfl) (by kernel_rfl) (by kernel_rfl) (fun _ _ _ h => h) (Or.inr ⟨by kernel_rfl, rfl⟩) (by assumption) ?_
        try simp only [Act.put, List.setIfInBounds_toArray, List.set_cons_zero, List.set_cons_succ, List.getElem_toArray, List.getElem_cons_succ, List.getElem_cons_zero]
        refine wpAnyH_take (i := 21) (v := undef) rfl (by kernel_rfl) (by kernel_rfl) (by kernel_rfl) (fun _ _ _ h => h) (Or.inr ⟨by kernel_rfl, rfl⟩) (by assumption) ?_
        try simp only [Act.put, List.setIfInBounds_toArray, List.set_cons_zero, List.set_cons_succ, List.getElem_toArray, List.getElem_cons_succ, List.getElem_cons_zero]
        refine wpAnyH_take (i := 22) (v := undef) rfl (by kernel_rfl) (by kernel_rfl) (by kernel_rfl) (fun _ _ _ h => h) (Or.inr ⟨by kernel_rfl, rfl⟩) (by assumption) ?_
        try simp only [Act.put, List.setIfInBounds_toArray, List.set_cons_zero, List.set_cons_succ, List.getElem_toArray, List.getElem_cons_succ, List.getElem_cons_zero]
        refine wpAnyH_take (i := 23) (v := undef) rfl (by kernel_rfl) (by kernel_rfl) (by kernel_rfl) (fun _ _ _ h => h) (Or.inr ⟨by kernel_rfl, rfl⟩) (by assumption) ?_
        try simp only [Act.put, List.setIfInBounds_toArray, List.set_cons_zero, List.set_cons_succ, List.getElem_toArray, List.getElem_cons_succ, List.getElem_cons_zero]
        refine wpAnyH_take (i := 24) (v := undef) rfl (by kernel_rfl) (by kernel_rfl) (by kernel_rfl) (fun _ _ _ h => h) (Or.inr ⟨by kernel_rfl, rfl⟩) (by assumption) ?_
        try simp only [Act.put, List.setIfInBounds_toArray, List.set_cons_zero, List.set_cons_succ, List.getElem_toArray, List.getElem_cons_succ, List.getElem_cons_zero]
        refine wpAnyH_take (i := 25) (v := undef) rfl (by kernel_rfl) (by kernel_rfl) (by kernel_rfl) (fun _ _ _ h => h) (Or.inr ⟨by kernel_rfl, rfl⟩) (by assumption) ?_
        try simp only [Act.put, List.setIfInBounds_toArray, List.set_cons_zero, List.set_cons_succ, List.getElem_toArray, List.getElem_cons_succ, List.getElem_cons_zero]
        refine wpAnyH_take (i := 26) (v := undef) rfl (by kernel_rfl) (by kernel_rfl) (by kernel_rfl) (fun _ _ _ h => h) (Or.inr ⟨by kernel_rfl, rfl⟩) (by assumption) ?_
        try simp only [Act.put, List.setIfInBounds_toArray, List.set_cons_zero, List.set_cons_succ, List.getElem_toArray, List.getElem_cons_succ, List.getElem_cons_zero]
        refine wpAnyH_take (i := 27) (v := undef) rfl (by kernel_rfl) (by kernel_rfl) (by kernel_rfl) (fun _ _ _ h => h) (Or.inr ⟨by kernel_rfl, rfl⟩) (by assumption) ?_
        try simp only [Act.put, List.setIfInBounds_toArray, List.set_cons_zero, List.set_cons_succ, List.getElem_toArray, List.getElem_cons_succ, List.getElem_cons_zero]
        refine wpAnyH_take (i := 28) (v := undef) rfl (by kernel_rfl) (by kernel_rfl) (by kernel_rfl) (fun _ _ _ h => h) (Or.inr ⟨by kernel_rfl, rfl⟩) (by assumption) ?_
        try simp only [Act.put, List.setIfInBounds_toArray, List.set_cons_zero, List.set_cons_succ, List.getElem_toArray, List.getElem_cons_succ, List.getElem_cons_zero]
        refine wpAnyH_take (i := 29) (v := undef) rfl (by kernel_rfl) (by kernel_rfl) (by kernel_rfl) (fun _ _ _ h => h) (Or.inr ⟨by kernel_rfl, rfl⟩) (by assumption) ?_
        try simp only [Act.put, List.setIfInBounds_toArray, List.set_cons_zero, List.set_cons_succ, List.getElem_toArray, List.getElem_cons_succ, List.getElem_cons_zero]
        refine wpAnyH_take (i := 30) (v := undef) rfl (by kernel_rfl) (by kernel_rfl) (by kernel_rfl) (fun _ _ _ h => h) (Or.inr ⟨by kernel_rfl, rfl⟩) (by assumption) ?_
        try simp only [Act.put, List.setIfInBounds_toArray, List.set_cons_zero, List.set_cons_succ, List.getElem_toArray, List.getElem_cons_succ, List.getElem_cons_zero]
        refine wpAnyH_take (i := 31) (v := undef) rfl (by kernel_rfl) (by kernel_rfl) (by kernel_rfl) (fun _ _ _ h => h) (Or.inr ⟨by kernel_rfl, rfl⟩) (by assumption) ?_
        try simp only [Act.put, List.setIfInBounds_toArray, List.set_cons_zero, List.set_cons_succ, List.getElem_toArray, List.getElem_cons_succ, List.getElem_cons_zero]
        refine wpAnyH_take (i := 32) (v := undef) rfl (by kernel_rfl) (by kernel_rfl) (by kernel_rfl) (fun _ _ _ h => h) (Or.inr ⟨by kernel_rfl, rfl⟩) (by assumption) ?_
        try simp only [Act.put, List.setIfInBounds_toArray, List.set_cons_zero, List.set_cons_succ, List.getElem_toArray, List.getElem_cons_succ, List.getElem_cons_zero]
        refine wpAnyH_take (i := 33) (v := .bool false) rfl (by kernel_rfl) (by kernel_rfl) (by kernel_rfl) (fun _ _ _ h => h) (Or.inl ⟨by kernel_rfl, ?_⟩) (by assumption) ?_
        · intro ww hSw
          clear hSw
          go_simp
          all_goals (try assumption)
          all_goals (try rfl)
        try simp only [Act.put, List.setIfInBounds_toArray, List.set_cons_zero, List.set_cons_succ, List.getElem_toArray, List.getElem_cons_succ, List.getElem_cons_zero]
        refine wpAnyH_take (i := 34) (v := .bool false) rfl (by kernel_rfl) (by kernel_rfl) (by kernel_rfl) (fun _ _ _ h => h) (Or.inl ⟨by kernel_rfl, ?_⟩) (by assumption) ?_
        · intro ww hSw
          clear hSw
          go_simp
          all_goals (try assumption)
          all_goals (try rfl)
        try simp only [Act.put, List.setIfInBounds_toArray, List.set_cons_zero, List.set_cons_succ, List.getElem_toArray, List.getElem_cons_succ, List.getElem_cons_zero]
        refine wpAnyH_take (i := 35) (v := .bool false) rfl (by kernel_rfl) (by kernel_rfl) (by kernel_rfl) (fun _ _ _ h => h) (Or.inl ⟨by kernel_rfl, ?_⟩) (by assumption) ?_
        · intro ww hSw
          clear hSw
          go_simp
          all_goals (try assumption)
          all_goals (try rfl)
        try simp only [Act.put, List.setIfInBounds_toArray, List.set_cons_zero, List.set_cons_succ, List.getElem_toArray, List.getElem_cons_succ, List.getElem_cons_zero]
        refine wpAnyH_take (i := 36) (v := .int .i64 (e : Nat)) rfl (by kernel_rfl) (by kernel_rfl) (by kernel_rfl) (fun _ _ _ h => h) (Or.inl ⟨by kernel_rfl, ?_⟩) (by assumption) ?_
        · intro ww hSw
          clear hSw
          go_simp
          all_goals (try assumption)
          all_goals (try rfl)
        try simp only [Act.put, List.setIfInBounds_toArray, List.set_cons_zero, List.set_cons_succ, List.getElem_toArray, List.getElem_cons_succ, List.getElem_cons_zero]
        refine wpAnyH_take (i := 37) (v := .bool true) rfl (by kernel_rfl) (by kernel_rfl) (by kernel_rfl) (fun _ _ _ h => h) (Or.inl ⟨by kernel_rfl, ?_⟩) (by assumption) ?_
        · intro ww hSw
          clear hSw
          go_simp
          all_goals (try assumption)
          all_goals (try rfl)
        try simp only [Act.put, List.setIfInBounds_toArray, List.set_cons_zero, List.set_cons_succ, List.getElem_toArray, List.getElem_cons_succ, List.getElem_cons_zero]
        refine wpAnyH_take (i := 38) (v := .bool true) rfl (by kernel_rfl) (by kernel_rfl) (by kernel_rfl) (fun _ _ _ h => h) (Or.inl ⟨by kernel_rfl, ?_⟩) (by assumption) ?_
        · intro ww hSw
          clear hSw
          go_simp
          all_goals (try assumption)
          all_goals (try rfl)
        try simp only [Act.put, List.setIfInBounds_toArray, List.set_cons_zero, List.set_cons_succ, List.getElem_toArray, List.getElem_cons_succ, List.getElem_cons_zero]
        refine wpAnyH_take (i := 39) (v := .agg #[.int .u16 0, .int .u16 0, .int .u16 0, .int .u32 0, .int .u32 0, .int .u32 0, .int .u32 0, .string ⟨#[]⟩, .string ⟨#[]⟩]) rfl (by kernel_rfl) (by kernel_rfl) (by kernel_rfl) (fun _ _ _ h => h) (Or.inl ⟨by kernel_rfl, ?_⟩) (by assumption) ?_
        · intro ww hSw
          have hc0 : ww.cell? ⟨gb, 0, none⟩ = some (.int .u16 0) := by rw [Lib.cell_of_heap hSw.1]; rfl
          have hc1 : ww.cell? ⟨gb, 1, none⟩ = some (.int .u16 0) := by rw [Lib.cell_of_heap hSw.1]; rfl
          have hc2 : ww.cell? ⟨gb, 2, none⟩ = some (.int .u16 0) := by rw [Lib.cell_of_heap hSw.1]; rfl
          have hc3 : ww.cell? ⟨gb, 3, none⟩ = some (.int .u32 0) := by rw [Lib.cell_of_heap hSw.1]; rfl
          have hc4 : ww.cell? ⟨gb, 4, none⟩ = some (.int .u32 0) := by rw [Lib.cell_of_heap hSw.1]; rfl
          have hc5 : ww.cell? ⟨gb, 5, none⟩ = some (.int .u32 0) := by rw [Lib.cell_of_heap hSw.1]; rfl
          have hc6 : ww.cell? ⟨gb, 6, none⟩ = some (.int .u32 0) := by rw [Lib.cell_of_heap hSw.1]; rfl
          have hc7 : ww.cell? ⟨gb, 7, none⟩ = some (.string ⟨#[]⟩) := by rw [Lib.cell_of_heap hSw.1]; rfl
          have hc8 : ww.cell? ⟨gb, 8, none⟩ = some (.string ⟨#[]⟩) := by rw [Lib.cell_of_heap hSw.1]; rfl
          clear hSw
          go_simp
          all_goals (try assumption)
          all_goals (try rfl)
        try simp only [Act.put, List.setIfInBounds_toArray, List.set_cons_zero, List.set_cons_succ, List.getElem_toArray, List.getElem_cons_succ, List.getElem_cons_zero]
        refine wpAnyH_take (i := 40) (v := .agg #[.int .u16 0, .int .u16 0, .int .u16 0, .int .u32 0, .int .u32 0, .int .u32 0, .int .u32 0, .string ⟨#[]⟩, .string ⟨#[]⟩]) rfl (by kernel_rfl) (by kernel_rfl) (by kernel_rfl) (fun _ _ _ h => h) (Or.inl ⟨by kernel_rfl, ?_⟩) (by assumption) ?_
        · intro ww hSw
          clear hSw
          go_simp
          all_goals (try assumption)
          all_goals (try rfl)
        try simp only [Act.put, List.setIfInBounds_toArray, List.set_cons_zero, List.set_cons_succ, List.getElem_toArray, List.getElem_cons_succ, List.getElem_cons_zero]
        refine wpAnyH_take (i := 41) (v := .bool false) rfl (by kernel_rfl) (by kernel_rfl) (by kernel_rfl) (fun _ _ _ h => h) (Or.inl ⟨by kernel_rfl, ?_⟩) (by assumption) ?_
        · intro ww hSw
          clear hSw
          go_simp
          all_goals (try assumption)
          all_goals (try rfl)
        try simp only [Act.put, List.setIfInBounds_toArray, List.set_cons_zero, List.set_cons_succ, List.getElem_toArray, List.getElem_cons_succ, List.getElem_cons_zero]
        refine wpAnyH_take (i := 42) (v := .bool false) rfl (by kernel_rfl) (by kernel_rfl) (by kernel_rfl) (fun _ _ _ h => h) (Or.inl ⟨by kernel_rfl, ?_⟩) (by assumption) ?_
        · intro ww hSw
          clear hSw
          go_simp
          all_goals (try assumption)
          all_goals (try rfl)
        try simp only [Act.put, List.setIfInBounds_toArray, List.set_cons_zero, List.set_cons_succ, List.getElem_toArray, List.getElem_cons_succ, List.getElem_cons_zero]
        refine wpAnyH_take (i := 43) (v := .bool false) rfl (by kernel_rfl) (by kernel_rfl) (by kernel_rfl) (fun _ _ _ h => h) (Or.inl ⟨by kernel_rfl, ?_⟩) (by assumption) ?_
        · intro ww hSw
          clear hSw
          go_simp
          all_goals (try assumption)
          all_goals (try rfl)
        try simp only [Act.put, List.setIfInBounds_toArray, List.set_cons_zero, List.set_cons_succ, List.getElem_toArray, List.getElem_cons_succ, List.getElem_cons_zero]
        have HFB := Lib.hid hSA.2
        refine wpAnyH_done (by kernel_rfl) ?_ _
        go_wp2_with fail
        go_meet
        exact ⟨rfl, HFB.out⟩
  case rest =>
  obtain ⟨rfl, hbc⟩ := hcut
  have HB := Lib.hid hbc
  clear hbc HB4 HH4 HCASE HPC HBD HZS
  obtain ⟨x0, x1, x2, x3, x4, x5, x6, x7, x8, x9, x10, x11, s12, s13, s14, n, e, hps, hbd, hzs, hcase⟩ := formC s HSZ.out
  have HPS := Lib.hid (fun w => parseC_any s HSZ.out w)
  rw [hps] at HPS
  have HCASE := Lib.hid hcase
  have HBD := Lib.hid hbd
  have HZS := Lib.hid hzs
  clear hps hcase hbd hzs
  go_wp2_with fail
  refine (HPS.out _).mono ?_; rintro r w1 ⟨rfl, hb1⟩
  have HB1 := Lib.hid (below_then HB.out hb1)
  have HH : Hid ((w1.alloc (.cells #[.int .u16 (x0 : Nat), .int .u16 (x1 : Nat), .int .u16 (x2 : Nat), .int .u16 (x3 : Nat), .int .u32 (x4 : Nat), .int .u32 (x5 : Nat), .int .u32 (x6 : Nat), .int .u32 (x7 : Nat), .int .u16 (x8 : Nat), .int .u16 (x9 : Nat), .int .u32 (x10 : Nat), .int .u32 (x11 : Nat), .string s12, .string s13, .string s14] 40)).heap[w1.heap.size]? = some (.cells #[.int .u16 (x0 : Nat), .int .u16 (x1 : Nat), .int .u16 (x2 : Nat), .int .u16 (x3 : Nat), .int .u32 (x4 : Nat), .int .u32 (x5 : Nat), .int .u32 (x6 : Nat), .int .u32 (x7 : Nat), .int .u16 (x8 : Nat), .int .u16 (x9 : Nat), .int .u32 (x10 : Nat), .int .u32 (x11 : Nat), .string s12, .string s13, .string s14] 40 (0, 0))) := heap_alloc_new _ _
  have HB2 := Lib.hid (HB1.out.alloc HB1.out.size (.cells #[.int .u16 (x0 : Nat), .int .u16 (x1 : Nat), .int .u16 (x2 : Nat), .int .u16 (x3 : Nat), .int .u32 (x4 : Nat), .int .u32 (x5 : Nat), .int .u32 (x6 : Nat), .int .u32 (x7 : Nat), .int .u16 (x8 : Nat), .int .u16 (x9 : Nat), .int .u32 (x10 : Nat), .int .u32 (x11 : Nat), .string s12, .string s13, .string s14] 40))
  clear hb1 HB1 HB HPS
  go_wp2_with fail
  generalize w1.alloc (.cells #[.int .u16 (x0 : Nat), .int .u16 (x1 : Nat), .int .u16 (x2 : Nat), .int .u16 (x3 : Nat), .int .u32 (x4 : Nat), .int .u32 (x5 : Nat), .int .u32 (x6 : Nat), .int .u32 (x7 : Nat), .int .u16 (x8 : Nat), .int .u16 (x9 : Nat), .int .u32 (x10 : Nat), .int .u32 (x11 : Nat), .string s12, .string s13, .string s14] 40) = wA at *
  generalize w1.heap.size = gb at *
  refine (rCentrals_any _).mono ?_; rintro r w2 ⟨rfl, hrd, hb2⟩
  have HB3 := Lib.hid ((HB2.out.trans (hb2.mono HB2.out.size)).alloc (Nat.le_trans HB2.out.size hb2.size) (.cells #[.int .i64 9, .int .i64 10, .int .i64 11] 3))
  have HH3 : Hid ((w2.alloc (.cells #[.int .i64 9, .int .i64 10, .int .i64 11] 3)).heap[gb]? = some (.cells #[.int .u16 (x0 : Nat), .int .u16 (x1 : Nat), .int .u16 (x2 : Nat), .int .u16 (x3 : Nat), .int .u32 (x4 : Nat), .int .u32 (x5 : Nat), .int .u32 (x6 : Nat), .int .u32 (x7 : Nat), .int .u16 (x8 : Nat), .int .u16 (x9 : Nat), .int .u32 (x10 : Nat), .int .u32 (x11 : Nat), .string s12, .string s13, .string s14] 40 (0, 0))) := (Below.heap_alloc _ _ _ (Nat.lt_of_lt_of_le (lt_of_some HH.out) hb2.size)).trans ((hb2.block _ (lt_of_some HH.out)).trans HH.out)
  have hrd2 : RdI (w2.alloc (.cells #[.int .i64 9, .int .i64 10, .int .i64 11] 3)) .i64 (some ⟨wA.heap.size, 0, none⟩) wsCentrals := hrd.below ((Below.refl _ _).alloc (Nat.le_refl _) _)
  have hrt : RdI (w2.alloc (.cells #[.int .i64 9, .int .i64 10, .int .i64 11] 3)) .i64 (some ⟨w2.heap.size, 0, none⟩) [9, 10, 11] := RdI.of_heap (heap_alloc_new _ _) rfl
  have HRP := Lib.hid (rparse_any s HSZ.out (some ⟨wA.heap.size, 0, none⟩) 16 wsCentrals (by decide) (by decide) (by decide) 33639248 (by omega) (some ⟨w2.heap.size, 0, none⟩) 3 [9, 10, 11] (by decide) (tsC s) _ hrd2 hrt)
  clear hrd hb2 hrd2 hrt HB2 HH
  go_wp2_with fail
  generalize w2.alloc (.cells #[.int .i64 9, .int .i64 10, .int .i64 11] 3) = wB at *
  refine (HRP.out).mono ?_; rintro r w3 hpr
  obtain ⟨hpc, hb3⟩ := hpr
  have HB4 := Lib.hid (HB3.out.trans (hb3.mono HB3.out.size))
  have HH4 : Hid (w3.heap[gb]? = some (.cells #[.int .u16 (x0 : Nat), .int .u16 (x1 : Nat), .int .u16 (x2 : Nat), .int .u16 (x3 : Nat), .int .u32 (x4 : Nat), .int .u32 (x5 : Nat), .int .u32 (x6 : Nat), .int .u32 (x7 : Nat), .int .u16 (x8 : Nat), .int .u16 (x9 : Nat), .int .u32 (x10 : Nat), .int .u32 (x11 : Nat), .string s12, .string s13, .string s14] 40 (0, 0))) := (hb3.block _ (lt_of_some HH3.out)).trans HH3.out
  clear hb3 HB3 HH3 HRP
  have hgo : ∃ (X Y : Value) (m f : Nat), r = .returned (.tuple #[X, Y, .int .i64 (m : Nat), .int .i64 (f : Nat)]) := by
    rcases hpc with ⟨_, A2, c2, A3, c3, h, _⟩ | ⟨_, h⟩
    · exact ⟨_, _, _, 0, h⟩
    · exact ⟨_, _, 0, _, h⟩
  obtain ⟨X, Y, m, f, rfl⟩ := hgo
  have HPC := Lib.hid hpc
  clear hpc
  go_upto_region 11 with fail
  go_cut [144] from 93 to 144 (fun b wx => b = .bool false ∧ Below w.heap.size w wx)
  case first =>
    have hpc := HPC.out
    clear HPC
    rcases HCASE.out with hy | hy
    · as_aux_lemma =>
        obtain ⟨hok, rfl, rfl, hrow, htx⟩ := hy
        rcases hpc with ⟨_, A2, c2, A3, c3, heq, hr2, hr3⟩ | ⟨hno, _⟩
        case inr => exact absurd hok hno
        injection heq with heq
        injection heq with heq
        simp only [Array.mk.injEq, List.cons.injEq, and_true] at heq
        obtain ⟨rfl, rfl, hm1, hf1⟩ := heq
        injection hm1 with _ hm1
        injection hf1 with _ hf1
        obtain rfl := Int.ofNat.inj hm1
        obtain rfl : f = 0 := Int.ofNat.inj hf1
        rw [hrow.symm] at hr2
        rw [htx] at hr3
        generalize hnn : txE (rowN s 0 wsCentrals) wsCentrals.sum [9, 10, 11] = n at *
        obtain ⟨b0, b1, b2, b3, b4, b5, b6, b7, b8, b9, b10, b11⟩ := HBD.out
        obtain ⟨z12, z13, z14⟩ := HZS.out
        have HLW := Lib.hid (fun w => centrals_any x0 x1 x2 x3 x4 x5 x6 x7 x8 x9 x10 x11 b0 b1 b2 b3 b4 b5 b6 b7 b8 b9 b10 b11 s12 s13 s14 z12 z13 z14 w)
        obtain ⟨g3, rfl⟩ := hr3.slice (by simp)
        have HT0 : Hid (w3.cell? ⟨g3, 0, none⟩ = some (.string s12)) := hr3.at rfl
        have HT1 : Hid (w3.cell? ⟨g3, 1, none⟩ = some (.string s13)) := hr3.at rfl
        have HT2 : Hid (w3.cell? ⟨g3, 2, none⟩ = some (.string s14)) := hr3.at rfl
        have HR2 := Lib.hid hr2
        clear hnn hrow htx hr2 hr3 hok b0 b1 b2 b3 b4 b5 b6 b7 b8 b9 b10 b11 z12 z13 z14
        have hS0 : (fun ww => ww.heap[gb]? = some (.cells #[.int .u16 (x0 : Nat), .int .u16 (x1 : Nat), .int .u16 (x2 : Nat), .int .u16 (x3 : Nat), .int .u32 (x4 : Nat), .int .u32 (x5 : Nat), .int .u32 (x6 : Nat), .int .u32 (x7 : Nat), .int .u16 (x8 : Nat), .int .u16 (x9 : Nat), .int .u32 (x10 : Nat), .int .u32 (x11 : Nat), .string s12, .string s13, .string s14] 40 (0, 0)) ∧ Below w.heap.size w ww ∧ RdI ww .u64 A2 (rowCentral x0 x1 x2 x3 x4 x5 x6 x7 x8 x9 x10 x11 s12 s13 s14) ∧ ww.cell? ⟨g3, 0, none⟩ = some (.string s12) ∧ ww.cell? ⟨g3, 1, none⟩ = some (.string s13) ∧ ww.cell? ⟨g3, 2, none⟩ = some (.string s14)) w3.drew := ⟨HH4.out, HB4.out.drew, HR2.out.drewN 1, HT0.out, HT1.out, HT2.out⟩
        refine wp_region_held_drew (S := fun ww => ww.heap[gb]? = some (.cells #[.int .u16 (x0 : Nat), .int .u16 (x1 : Nat), .int .u16 (x2 : Nat), .int .u16 (x3 : Nat), .int .u32 (x4 : Nat), .int .u32 (x5 : Nat), .int .u32 (x6 : Nat), .int .u32 (x7 : Nat), .int .u16 (x8 : Nat), .int .u16 (x9 : Nat), .int .u32 (x10 : Nat), .int .u32 (x11 : Nat), .string s12, .string s13, .string s14] 40 (0, 0)) ∧ Below w.heap.size w ww ∧ RdI ww .u64 A2 (rowCentral x0 x1 x2 x3 x4 x5 x6 x7 x8 x9 x10 x11 s12 s13 s14) ∧ ww.cell? ⟨g3, 0, none⟩ = some (.string s12) ∧ ww.cell? ⟨g3, 1, none⟩ = some (.string s13) ∧ ww.cell? ⟨g3, 2, none⟩ = some (.string s14)) (by kernel_rfl) hS0 (fun hSA => ?_)
        clear hS0
        refine wpAnyH_take (i := 0) (v := .int .i64 0) rfl (by kernel_rfl) (by kernel_rfl) (by kernel_rfl) (fun _ _ _ h => h) (Or.inl ⟨by kernel_rfl, ?_⟩) (by assumption) ?_
        · intro ww hSw
          clear hSw
          go_simp
          all_goals (try assumption)
          all_goals (try rfl)
        try simp only [Act.put, List.setIfInBounds_toArray, List.set_cons_zero, List.set_cons_succ, List.getElem_toArray, List.getElem_cons_succ, List.getElem_cons_zero]
        refine wpAnyH_take (i := 1) (v := .int .i64 0) rfl (by kernel_rfl) (by kernel_rfl) (by kernel_rfl) (fun _ _ _ h => h) (Or.inl ⟨by kernel_rfl, ?_⟩) (by assumption) ?_
        · intro ww hSw
          clear hSw
          go_simp
          all_goals (try assumption)
          all_goals (try rfl)
        try simp only [Act.put, List.setIfInBounds_toArray, List.set_cons_zero, List.set_cons_succ, List.getElem_toArray, List.getElem_cons_succ, List.getElem_cons_zero]
        refine wpAnyH_take (i := 2) (v := .bool false) rfl (by kernel_rfl) (by kernel_rfl) (by kernel_rfl) (fun _ _ _ h => h) (Or.inl ⟨by kernel_rfl, ?_⟩) (by assumption) ?_
        · intro ww hSw
          clear hSw
          go_simp
          all_goals (try assumption)
          all_goals (try rfl)
        try simp only [Act.put, List.setIfInBounds_toArray, List.set_cons_zero, List.set_cons_succ, List.getElem_toArray, List.getElem_cons_succ, List.getElem_cons_zero]
        refine wpAnyH_take (i := 3) (v := .bool false) rfl (by kernel_rfl) (by kernel_rfl) (by kernel_rfl) (fun _ _ _ h => h) (Or.inl ⟨by kernel_rfl, ?_⟩) (by assumption) ?_
        · intro ww hSw
          clear hSw
          go_simp
          all_goals (try assumption)
          all_goals (try rfl)
        try simp only [Act.put, List.setIfInBounds_toArray, List.set_cons_zero, List.set_cons_succ, List.getElem_toArray, List.getElem_cons_succ, List.getElem_cons_zero]
        refine wpAnyH_take (i := 4) (v := .int .i64 (n : Nat)) rfl (by kernel_rfl) (by kernel_rfl) (by kernel_rfl) (fun _ _ _ h => h) (Or.inl ⟨by kernel_rfl, ?_⟩) (by assumption) ?_
        · intro ww hSw
          clear hSw
          go_simp
          all_goals (try assumption)
          all_goals (try rfl)
        try simp only [Act.put, List.setIfInBounds_toArray, List.set_cons_zero, List.set_cons_succ, List.getElem_toArray, List.getElem_cons_succ, List.getElem_cons_zero]
        refine wpAnyH_take (i := 5) (v := .int .i64 (n : Nat)) rfl (by kernel_rfl) (by kernel_rfl) (by kernel_rfl) (fun _ _ _ h => h) (Or.inl ⟨by kernel_rfl, ?_⟩) (by assumption) ?_
        · intro ww hSw
          clear hSw
          go_simp
          all_goals (try assumption)
          all_goals (try rfl)
        try simp only [Act.put, List.setIfInBounds_toArray, List.set_cons_zero, List.set_cons_succ, List.getElem_toArray, List.getElem_cons_succ, List.getElem_cons_zero]
        refine wpAnyH_take (i := 6) (v := .bool false) rfl (by kernel_rfl) (by kernel_rfl) (by kernel_rfl) (fun _ _ _ h => h) (Or.inl ⟨by kernel_rfl, ?_⟩) (by assumption) ?_
        · intro ww hSw
          clear hSw
          go_simp
          all_goals (try assumption)
          all_goals (try rfl)
        try simp only [Act.put, List.setIfInBounds_toArray, List.set_cons_zero, List.set_cons_succ, List.getElem_toArray, List.getElem_cons_succ, List.getElem_cons_zero]
        refine wpAnyH_take (i := 7) (v := .bool false) rfl (by kernel_rfl) (by kernel_rfl) (by kernel_rfl) (fun _ _ _ h => h) (Or.inl ⟨by kernel_rfl, ?_⟩) (by assumption) ?_
        · intro ww hSw
          clear hSw
          go_simp
          all_goals (try assumption)
          all_goals (try rfl)
        try simp only [Act.put, List.setIfInBounds_toArray, List.set_cons_zero, List.set_cons_succ, List.getElem_toArray, List.getElem_cons_succ, List.getElem_cons_zero]
        refine wpAnyH_take (i := 8) (v := .bool false) rfl (by kernel_rfl) (by kernel_rfl) (by kernel_rfl) (fun _ _ _ h => h) (Or.inl ⟨by kernel_rfl, ?_⟩) (by assumption) ?_
        · intro ww hSw
          clear hSw
          go_simp
          all_goals (try assumption)
          all_goals (try rfl)
        try simp only [Act.put, List.setIfInBounds_toArray, List.set_cons_zero, List.set_cons_succ, List.getElem_toArray, List.getElem_cons_succ, List.getElem_cons_zero]
        refine wpAnyH_take (i := 9) (v := .int .i64 0) rfl (by kernel_rfl) (by kernel_rfl) (by kernel_rfl) (fun _ _ _ h => h) (Or.inl ⟨by kernel_rfl, ?_⟩) (by assumption) ?_
        · intro ww hSw
          clear hSw
          go_simp
          all_goals (try assumption)
          all_goals (try rfl)
        try simp only [Act.put, List.setIfInBounds_toArray, List.set_cons_zero, List.set_cons_succ, List.getElem_toArray, List.getElem_cons_succ, List.getElem_cons_zero]
        refine wpAnyH_take (i := 10) (v := .bool true) rfl (by kernel_rfl) (by kernel_rfl) (by kernel_rfl) (fun _ _ _ h => h) (Or.inl ⟨by kernel_rfl, ?_⟩) (by assumption) ?_
        · intro ww hSw
          clear hSw
          go_simp
          all_goals (try assumption)
          all_goals (try rfl)
        try simp only [Act.put, List.setIfInBounds_toArray, List.set_cons_zero, List.set_cons_succ, List.getElem_toArray, List.getElem_cons_succ, List.getElem_cons_zero]
        refine wpAnyH_take (i := 11) (v := .bool true) rfl (by kernel_rfl) (by kernel_rfl) (by kernel_rfl) (fun _ _ _ h => h) (Or.inl ⟨by kernel_rfl, ?_⟩) (by assumption) ?_
        · intro ww hSw
          clear hSw
          go_simp
          all_goals (try assumption)
          all_goals (try rfl)
        try simp only [Act.put, List.setIfInBounds_toArray, List.set_cons_zero, List.set_cons_succ, List.getElem_toArray, List.getElem_cons_succ, List.getElem_cons_zero]
        refine wpAnyH_take (i := 12) (v := .agg #[.int .u16 (x0 : Nat), .int .u16 (x1 : Nat), .int .u16 (x2 : Nat), .int .u16 (x3 : Nat), .int .u32 (x4 : Nat), .int .u32 (x5 : Nat), .int .u32 (x6 : Nat), .int .u32 (x7 : Nat), .int .u16 (x8 : Nat), .int .u16 (x9 : Nat), .int .u32 (x10 : Nat), .int .u32 (x11 : Nat), .string s12, .string s13, .string s14]) rfl (by kernel_rfl) (by kernel_rfl) (by kernel_rfl) (fun _ _ _ h => h) (Or.inl ⟨by kernel_rfl, ?_⟩) (by assumption) ?_
        · intro ww hSw
          have hc0 : ww.cell? ⟨gb, 0, none⟩ = some (.int .u16 (x0 : Nat)) := by rw [Lib.cell_of_heap hSw.1]; rfl
          have hc1 : ww.cell? ⟨gb, 1, none⟩ = some (.int .u16 (x1 : Nat)) := by rw [Lib.cell_of_heap hSw.1]; rfl
          have hc2 : ww.cell? ⟨gb, 2, none⟩ = some (.int .u16 (x2 : Nat)) := by rw [Lib.cell_of_heap hSw.1]; rfl
          have hc3 : ww.cell? ⟨gb, 3, none⟩ = some (.int .u16 (x3 : Nat)) := by rw [Lib.cell_of_heap hSw.1]; rfl
          have hc4 : ww.cell? ⟨gb, 4, none⟩ = some (.int .u32 (x4 : Nat)) := by rw [Lib.cell_of_heap hSw.1]; rfl
          have hc5 : ww.cell? ⟨gb, 5, none⟩ = some (.int .u32 (x5 : Nat)) := by rw [Lib.cell_of_heap hSw.1]; rfl
          have hc6 : ww.cell? ⟨gb, 6, none⟩ = some (.int .u32 (x6 : Nat)) := by rw [Lib.cell_of_heap hSw.1]; rfl
          have hc7 : ww.cell? ⟨gb, 7, none⟩ = some (.int .u32 (x7 : Nat)) := by rw [Lib.cell_of_heap hSw.1]; rfl
          have hc8 : ww.cell? ⟨gb, 8, none⟩ = some (.int .u16 (x8 : Nat)) := by rw [Lib.cell_of_heap hSw.1]; rfl
          have hc9 : ww.cell? ⟨gb, 9, none⟩ = some (.int .u16 (x9 : Nat)) := by rw [Lib.cell_of_heap hSw.1]; rfl
          have hc10 : ww.cell? ⟨gb, 10, none⟩ = some (.int .u32 (x10 : Nat)) := by rw [Lib.cell_of_heap hSw.1]; rfl
          have hc11 : ww.cell? ⟨gb, 11, none⟩ = some (.int .u32 (x11 : Nat)) := by rw [Lib.cell_of_heap hSw.1]; rfl
          have hc12 : ww.cell? ⟨gb, 12, none⟩ = some (.string s12) := by rw [Lib.cell_of_heap hSw.1]; rfl
          have hc13 : ww.cell? ⟨gb, 13, none⟩ = some (.string s13) := by rw [Lib.cell_of_heap hSw.1]; rfl
          have hc14 : ww.cell? ⟨gb, 14, none⟩ = some (.string s14) := by rw [Lib.cell_of_heap hSw.1]; rfl
          clear hSw
          go_simp
          all_goals (try assumption)
          all_goals (try rfl)
        try simp only [Act.put, List.setIfInBounds_toArray, List.set_cons_zero, List.set_cons_succ, List.getElem_toArray, List.getElem_cons_succ, List.getElem_cons_zero]
        refine wpAnyH_take (i := 14) (v := .slice A2 16 c2) rfl (by kernel_rfl) (by kernel_rfl) (by kernel_rfl) (fun _ _ _ h => h) (Or.inl ⟨by kernel_rfl, ?_⟩) (by assumption) ?_
        · intro ww hSw
          clear hSw
          go_simp
          all_goals (try assumption)
          all_goals (try rfl)
        try simp only [Act.put, List.setIfInBounds_toArray, List.set_cons_zero, List.set_cons_succ, List.getElem_toArray, List.getElem_cons_succ, List.getElem_cons_zero]
        refine wpAnyH_ready (rs := [13]) (by kernel_rfl) (by simp) ?_
        refine AllReadyH.cons rfl (fun K hK => ?_) AllReadyH.nil
        go_simp
        refine (HLW.out _).mono ?_
        rintro e w8 ⟨rfl, hrow, hb8⟩
        have hS8 : (fun ww => ww.heap[gb]? = some (.cells #[.int .u16 (x0 : Nat), .int .u16 (x1 : Nat), .int .u16 (x2 : Nat), .int .u16 (x3 : Nat), .int .u32 (x4 : Nat), .int .u32 (x5 : Nat), .int .u32 (x6 : Nat), .int .u32 (x7 : Nat), .int .u16 (x8 : Nat), .int .u16 (x9 : Nat), .int .u32 (x10 : Nat), .int .u32 (x11 : Nat), .string s12, .string s13, .string s14] 40 (0, 0)) ∧ Below w.heap.size w ww ∧ RdI ww .u64 A2 (rowCentral x0 x1 x2 x3 x4 x5 x6 x7 x8 x9 x10 x11 s12 s13 s14) ∧ ww.cell? ⟨g3, 0, none⟩ = some (.string s12) ∧ ww.cell? ⟨g3, 1, none⟩ = some (.string s13) ∧ ww.cell? ⟨g3, 2, none⟩ = some (.string s14)) w8 := ⟨(hb8.block _ (lt_of_some hSA.1)).trans hSA.1, hSA.2.1.trans (hb8.mono hSA.2.1.size), hSA.2.2.1.below hb8, (hb8.cell (p := ⟨g3, 0, none⟩) (World.block_lt_of_cell? _ _ hSA.2.2.2.1)).trans hSA.2.2.2.1, (hb8.cell (p := ⟨g3, 1, none⟩) (World.block_lt_of_cell? _ _ hSA.2.2.2.2.1)).trans hSA.2.2.2.2.1, (hb8.cell (p := ⟨g3, 2, none⟩) (World.block_lt_of_cell? _ _ hSA.2.2.2.2.2)).trans hSA.2.2.2.2.2⟩
        have HROW8 := Lib.hid hrow
        refine hK.out _ _ hS8 (fun hS9 => ?_)
        clear hK K
        try simp only [Act.put, List.setIfInBounds_toArray, List.set_cons_zero, List.set_cons_succ, List.getElem_toArray, List.getElem_cons_succ, List.getElem_cons_zero]
        refine wpAnyH_ready (rs := [15]) (by kernel_rfl) (by simp) ?_
        refine AllReadyH.cons rfl (fun K hK => ?_) AllReadyH.nil
        go_simp
        refine (equal_same _ _ 16 c2 _ (by simp [rowCentral]) _ HROW8.out hS9.2.2.1).mono ?_
        rintro e w10 ⟨rfl, d10, rfl⟩
        have hS10 : (fun ww => ww.heap[gb]? = some (.cells #[.int .u16 (x0 : Nat), .int .u16 (x1 : Nat), .int .u16 (x2 : Nat), .int .u16 (x3 : Nat), .int .u32 (x4 : Nat), .int .u32 (x5 : Nat), .int .u32 (x6 : Nat), .int .u32 (x7 : Nat), .int .u16 (x8 : Nat), .int .u16 (x9 : Nat), .int .u32 (x10 : Nat), .int .u32 (x11 : Nat), .string s12, .string s13, .string s14] 40 (0, 0)) ∧ Below w.heap.size w ww ∧ RdI ww .u64 A2 (rowCentral x0 x1 x2 x3 x4 x5 x6 x7 x8 x9 x10 x11 s12 s13 s14) ∧ ww.cell? ⟨g3, 0, none⟩ = some (.string s12) ∧ ww.cell? ⟨g3, 1, none⟩ = some (.string s13) ∧ ww.cell? ⟨g3, 2, none⟩ = some (.string s14)) (w8.drewN d10) := ⟨hS9.1, below_drewN hS9.2.1 d10, hS9.2.2.1.drewN d10, hS9.2.2.2⟩
        refine hK.out _ _ hS10 (fun hS11 => ?_)
        clear hK K
        try simp only [Act.put, List.setIfInBounds_toArray, List.set_cons_zero, List.set_cons_succ, List.getElem_toArray, List.getElem_cons_succ, List.getElem_cons_zero]
        refine wpAnyH_take (i := 16) (v := .bool false) rfl (by kernel_rfl) (by kernel_rfl) (by kernel_rfl) (fun _ _ _ h => h) (Or.inl ⟨by kernel_rfl, ?_⟩) (by assumption) ?_
        · intro ww hSw
          clear hSw
          go_simp
          all_goals (try assumption)
          all_goals (try rfl)
        try simp only [Act.put, List.setIfInBounds_toArray, List.set_cons_zero, List.set_cons_succ, List.getElem_toArray, List.getElem_cons_succ, List.getElem_cons_zero]
        refine wpAnyH_take (i := 17) (v := .bool false) rfl (by kernel_rfl) (by kernel_rfl) (by kernel_rfl) (fun _ _ _ h => h) (Or.inl ⟨by kernel_rfl, ?_⟩) (by assumption) ?_
        · intro ww hSw
          clear hSw
          go_simp
          all_goals (try assumption)
          all_goals (try rfl)
        try simp only [Act.put, List.setIfInBounds_toArray, List.set_cons_zero, List.set_cons_succ, List.getElem_toArray, List.getElem_cons_succ, List.getElem_cons_zero]
        refine wpAnyH_take (i := 18) (v := .pointer (some ⟨gb, 12, none⟩)) rfl (by kernel_rfl) (by kernel_rfl) (by kernel_rfl) (fun _ _ _ h => h) (Or.inl ⟨by kernel_rfl, ?_⟩) (by assumption) ?_
        · intro ww hSw
          clear hSw
          go_simp
          all_goals (try assumption)
          all_goals (try rfl)
        try simp only [Act.put, List.setIfInBounds_toArray, List.set_cons_zero, List.set_cons_succ, List.getElem_toArray, List.getElem_cons_succ, List.getElem_cons_zero]
        refine wpAnyH_take (i := 19) (v := .string s12) rfl (by kernel_rfl) (by kernel_rfl) (by kernel_rfl) (fun _ _ _ h => h) (Or.inl ⟨by kernel_rfl, ?_⟩) (by assumption) ?_
        · intro ww hSw
          have hcc : ww.cell? ⟨gb, 12, none⟩ = some (.string s12) := by rw [Lib.cell_of_heap hSw.1]; rfl
          clear hSw
          go_simp
          all_goals (try assumption)
          all_goals (try rfl)
        try simp only [Act.put, List.setIfInBounds_toArray, List.set_cons_zero, List.set_cons_succ, List.getElem_toArray, List.getElem_cons_succ, List.getElem_cons_zero]
        refine wpAnyH_take (i := 20) (v := .slice (some ⟨g3, 0, none⟩) 3 c3) rfl (by kernel_rfl) (by kernel_rfl) (by kernel_rfl) (fun _ _ _ h => h) (Or.inl ⟨by kernel_rfl, ?_⟩) (by assumption) ?_
        · intro ww hSw
          clear hSw
          go_simp
          all_goals (try assumption)
          all_goals (try rfl)
        try simp only [Act.put, List.setIfInBounds_toArray, List.set_cons_zero, List.set_cons_succ, List.getElem_toArray, List.getElem_cons_succ, List.getElem_cons_zero]
        refine wpAnyH_take (i := 21) (v := .pointer (some ⟨g3, 0, none⟩)) rfl (by kernel_rfl) (by kernel_rfl) (by kernel_rfl) (fun _ _ _ h => h) (Or.inl ⟨by kernel_rfl, ?_⟩) (by assumption) ?_
        · intro ww hSw
          clear hSw
          go_simp
          all_goals (try assumption)
          all_goals (try rfl)
        try simp only [Act.put, List.setIfInBounds_toArray, List.set_cons_zero, List.set_cons_succ, List.getElem_toArray, List.getElem_cons_succ, List.getElem_cons_zero]
        refine wpAnyH_take (i := 22) (v := .string s12) rfl (by kernel_rfl) (by kernel_rfl) (by kernel_rfl) (fun _ _ _ h => h) (Or.inl ⟨by kernel_rfl, ?_⟩) (by assumption) ?_
        · intro ww hSw
          have hcc : ww.cell? ⟨g3, 0, none⟩ = some (.string s12) := hSw.2.2.2.1
          clear hSw
          go_simp
          all_goals (try assumption)
          all_goals (try rfl)
        try simp only [Act.put, List.setIfInBounds_toArray, List.set_cons_zero, List.set_cons_succ, List.getElem_toArray, List.getElem_cons_succ, List.getElem_cons_zero]
        refine wpAnyH_take (i := 23) (v := .bool false) rfl (by kernel_rfl) (by kernel_rfl) (by kernel_rfl) (fun _ _ _ h => h) (Or.inl ⟨by kernel_rfl, ?_⟩) (by assumption) ?_
        · intro ww hSw
          clear hSw
          go_simp
          all_goals (try assumption)
          all_goals (try rfl)
        try simp only [Act.put, List.setIfInBounds_toArray, List.set_cons_zero, List.set_cons_succ, List.getElem_toArray, List.getElem_cons_succ, List.getElem_cons_zero]
        refine wpAnyH_take (i := 24) (v := .bool false) rfl (by kernel_rfl) (by kernel_rfl) (by kernel_rfl) (fun _ _ _ h => h) (Or.inl ⟨by kernel_rfl, ?_⟩) (by assumption) ?_
        · intro ww hSw
          clear hSw
          go_simp
          all_goals (try assumption)
          all_goals (try rfl)
        try simp only [Act.put, List.setIfInBounds_toArray, List.set_cons_zero, List.set_cons_succ, List.getElem_toArray, List.getElem_cons_succ, List.getElem_cons_zero]
        refine wpAnyH_take (i := 25) (v := .bool false) rfl (by kernel_rfl) (by kernel_rfl) (by kernel_rfl) (fun _ _ _ h => h) (Or.inl ⟨by kernel_rfl, ?_⟩) (by assumption) ?_
        · intro ww hSw
          clear hSw
          go_simp
          all_goals (try assumption)
          all_goals (try rfl)
        try simp only [Act.put, List.setIfInBounds_toArray, List.set_cons_zero, List.set_cons_succ, List.getElem_toArray, List.getElem_cons_succ, List.getElem_cons_zero]
        refine wpAnyH_take (i := 26) (v := .pointer (some ⟨gb, 13, none⟩)) rfl (by kernel_rfl) (by kernel_rfl) (by kernel_rfl) (fun _ _ _ h => h) (Or.inl ⟨by kernel_rfl, ?_⟩) (by assumption) ?_
        · intro ww hSw
          clear hSw
          go_simp
          all_goals (try assumption)
          all_goals (try rfl)
        try simp only [Act.put, List.setIfInBounds_toArray, List.set_cons_zero, List.set_cons_succ, List.getElem_toArray, List.getElem_cons_succ, List.getElem_cons_zero]
        refine wpAnyH_take (i := 27) (v := .string s13) rfl (by kernel_rfl) (by kernel_rfl) (by kernel_rfl) (fun _ _ _ h => h) (Or.inl ⟨by kernel_rfl, ?_⟩) (by assumption) ?_
        · intro ww hSw
          have hcc : ww.cell? ⟨gb, 13, none⟩ = some (.string s13) := by rw [Lib.cell_of_heap hSw.1]; rfl
          clear hSw
          go_simp
          all_goals (try assumption)
          all_goals (try rfl)
        try simp only [Act.put, List.setIfInBounds_toArray, List.set_cons_zero, List.set_cons_succ, List.getElem_toArray, List.getElem_cons_succ, List.getElem_cons_zero]
        refine wpAnyH_take (i := 28) (v := .slice (some ⟨g3, 0, none⟩) 3 c3) rfl (by kernel_rfl) (by kernel_rfl) (by kernel_rfl) (fun _ _ _ h => h) (Or.inl ⟨by kernel_rfl, ?_⟩) (by assumption) ?_
        · intro ww hSw
          clear hSw
          go_simp
          all_goals (try assumption)
          all_goals (try rfl)
        try simp only [Act.put, List.setIfInBounds_toArray, List.set_cons_zero, List.set_cons_succ, List.getElem_toArray, List.getElem_cons_succ, List.getElem_cons_zero]
        refine wpAnyH_take (i := 29) (v := .pointer (some ⟨g3, 1, none⟩)) rfl (by kernel_rfl) (by kernel_rfl) (by kernel_rfl) (fun _ _ _ h => h) (Or.inl ⟨by kernel_rfl, ?_⟩) (by assumption) ?_
        · intro ww hSw
          clear hSw
          go_simp
          all_goals (try assumption)
          all_goals (try rfl)
        try simp only [Act.put, List.setIfInBounds_toArray, List.set_cons_zero, List.set_cons_succ, List.getElem_toArray, List.getElem_cons_succ, List.getElem_cons_zero]
        refine wpAnyH_take (i := 30) (v := .string s13) rfl (by kernel_rfl) (by kernel_rfl) (by kernel_rfl) (fun _ _ _ h => h) (Or.inl ⟨by kernel_rfl, ?_⟩) (by assumption) ?_
        · intro ww hSw
          have hcc : ww.cell? ⟨g3, 1, none⟩ = some (.string s13) := hSw.2.2.2.2.1
          clear hSw
          go_simp
          all_goals (try assumption)
          all_goals (try rfl)
        try simp only [Act.put, List.setIfInBounds_toArray, List.set_cons_zero, List.set_cons_succ, List.getElem_toArray, List.getElem_cons_succ, List.getElem_cons_zero]
        refine wpAnyH_take (i := 31) (v := .bool false) rfl (by kernel_rfl) (by kernel_rfl) (by kernel_rfl) (fun _ _ _ h => h) (Or.inl ⟨by kernel_rfl, ?_⟩) (by assumption) ?_
        · intro ww hSw
          clear hSw
          go_simp
          all_goals (try assumption)
          all_goals (try rfl)
        try simp only [Act.put, List.setIfInBounds_toArray, List.set_cons_zero, List.set_cons_succ, List.getElem_toArray, List.getElem_cons_succ, List.getElem_cons_zero]
        refine wpAnyH_take (i := 32) (v := .bool false) rfl (by kernel_rfl) (by kernel_rfl) (by kernel_rfl) (fun _ _ _ h => h) (Or.inl ⟨by kernel_rfl, ?_⟩) (by assumption) ?_
        · intro ww hSw
          clear hSw
          go_simp
          all_goals (try assumption)
          all_goals (try rfl)
        try simp only [Act.put, List.setIfInBounds_toArray, List.set_cons_zero, List.set_cons_succ, List.getElem_toArray, List.getElem_cons_succ, List.getElem_cons_zero]
        refine wpAnyH_take (i := 33) (v := .bool false) rfl (by kernel_rfl) (by kernel_rfl) (by kernel_rfl) (fun _ _ _ h => h) (Or.inl ⟨by kernel_rfl, ?_⟩) (by assumption) ?_
        · intro ww hSw
          clear hSw
          go_simp
          all_goals (try assumption)
          all_goals (try rfl)
        try simp only [Act.put, List.setIfInBounds_toArray, List.set_cons_zero, List.set_cons_succ, List.getElem_toArray, List.getElem_cons_succ, List.getElem_cons_zero]
        refine wpAnyH_take (i := 34) (v := .pointer (some ⟨gb, 14, none⟩)) rfl (by kernel_rfl) (by kernel_rfl) (by kernel_rfl) (fun _ _ _ h => h) (Or.inl ⟨by kernel_rfl, ?_⟩) (by assumption) ?_
        · intro ww hSw
          clear hSw
          go_simp
          all_goals (try assumption)
          all_goals (try rfl)
        try simp only [Act.put, List.setIfInBounds_toArray, List.set_cons_zero, List.set_cons_succ, List.getElem_toArray, List.getElem_cons_succ, List.getElem_cons_zero]
        refine wpAnyH_take (i := 35) (v := .string s14) rfl (by kernel_rfl) (by kernel_rfl) (by kernel_rfl) (fun _ _ _ h => h) (Or.inl ⟨by kernel_rfl, ?_⟩) (by assumption) ?_
        · intro ww hSw
          have hcc : ww.cell? ⟨gb, 14, none⟩ = some (.string s14) := by rw [Lib.cell_of_heap hSw.1]; rfl
          clear hSw
          go_simp
          all_goals (try assumption)
          all_goals (try rfl)
        try simp only [Act.put, List.setIfInBounds_toArray, List.set_cons_zero, List.set_cons_succ, List.getElem_toArray, List.getElem_cons_succ, List.getElem_cons_zero]
        refine wpAnyH_take (i := 36) (v := .slice (some ⟨g3, 0, none⟩) 3 c3) rfl (by kernel_rfl) (by kernel_rfl) (by kernel_rfl) (fun _ _ _ h => h) (Or.inl ⟨by kernel_rfl, ?_⟩) (by assumption) ?_
        · intro ww hSw
          clear hSw
          go_simp
          all_goals (try assumption)
          all_goals (try rfl)
        try simp only [Act.put, List.setIfInBounds_toArray, List.set_cons_zero, List.set_cons_succ, List.getElem_toArray, List.getElem_cons_succ, List.getElem_cons_zero]
        refine wpAnyH_take (i := 37) (v := .pointer (some ⟨g3, 2, none⟩)) rfl (by kernel_rfl) (by kernel_rfl) (by kernel_rfl) (fun _ _ _ h => h) (Or.inl ⟨by kernel_rfl, ?_⟩) (by assumption) ?_
        · intro ww hSw
          clear hSw
          go_simp
          all_goals (try assumption)
          all_goals (try rfl)
        try simp only [Act.put, List.setIfInBounds_toArray, List.set_cons_zero, List.set_cons_succ, List.getElem_toArray, List.getElem_cons_succ, List.getElem_cons_zero]
        refine wpAnyH_take (i := 38) (v := .string s14) rfl (by kernel_rfl) (by kernel_rfl) (by kernel_rfl) (fun _ _ _ h => h) (Or.inl ⟨by kernel_rfl, ?_⟩) (by assumption) ?_
        · intro ww hSw
          have hcc : ww.cell? ⟨g3, 2, none⟩ = some (.string s14) := hSw.2.2.2.2.2
          clear hSw
          go_simp
          all_goals (try assumption)
          all_goals (try rfl)
        try simp only [Act.put, List.setIfInBounds_toArray, List.set_cons_zero, List.set_cons_succ, List.getElem_toArray, List.getElem_cons_succ, List.getElem_cons_zero]
        refine wpAnyH_take (i := 39) (v := .bool false) rfl (by kernel_rfl) (by kernel_rfl) (by kernel_rfl) (fun _ _ _ h => h) (Or.inl ⟨by kernel_rfl, ?_⟩) (by assumption) ?_
        · intro ww hSw
          clear hSw
          go_simp
          all_goals (try assumption)
          all_goals (try rfl)
        try simp only [Act.put, List.setIfInBounds_toArray, List.set_cons_zero, List.set_cons_succ, List.getElem_toArray, List.getElem_cons_succ, List.getElem_cons_zero]
        refine wpAnyH_take (i := 40) (v := .bool false) rfl (by kernel_rfl) (by kernel_rfl) (by kernel_rfl) (fun _ _ _ h => h) (Or.inl ⟨by kernel_rfl, ?_⟩) (by assumption) ?_
        · intro ww hSw
          clear hSw
          go_simp
          all_goals (try assumption)
          all_goals (try rfl)
        try simp only [Act.put, List.setIfInBounds_toArray, List.set_cons_zero, List.set_cons_succ, List.getElem_toArray, List.getElem_cons_succ, List.getElem_cons_zero]
        refine wpAnyH_take (i := 41) (v := .bool false) rfl (by kernel_rfl) (by kernel_rfl) (by kernel_rfl) (fun _ _ _ h => h) (Or.inl ⟨by kernel_rfl, ?_⟩) (by assumption) ?_
        · intro ww hSw
          clear hSw
          go_simp
          all_goals (try assumption)
          all_goals (try rfl)
        try simp only [Act.put, List.setIfInBounds_toArray, List.set_cons_zero, List.set_cons_succ, List.getElem_toArray, List.getElem_cons_succ, List.getElem_cons_zero]
        refine wpAnyH_take (i := 42) (v := .bool false) rfl (by kernel_rfl) (by kernel_rfl) (by kernel_rfl) (fun _ _ _ h => h) (Or.inl ⟨by kernel_rfl, ?_⟩) (by assumption) ?_
        · intro ww hSw
          clear hSw
          go_simp
          all_goals (try assumption)
          all_goals (try rfl)
        try simp only [Act.put, List.setIfInBounds_toArray, List.set_cons_zero, List.set_cons_succ, List.getElem_toArray, List.getElem_cons_succ, List.getElem_cons_zero]
        refine wpAnyH_take (i := 43) (v := .bool false) rfl (by kernel_rfl) (by kernel_rfl) (by kernel_rfl) (fun _ _ _ h => h) (Or.inl ⟨by kernel_rfl, ?_⟩) (by assumption) ?_
        · intro ww hSw
          clear hSw
          go_simp
          all_goals (try assumption)
          all_goals (try rfl)
        try simp only [Act.put, List.setIfInBounds_toArray, List.set_cons_zero, List.set_cons_succ, List.getElem_toArray, List.getElem_cons_succ, List.getElem_cons_zero]
        refine wpAnyH_take (i := 44) (v := .int .i64 0) rfl (by kernel_rfl) (by kernel_rfl) (by kernel_rfl) (fun _ _ _ h => h) (Or.inl ⟨by kernel_rfl, ?_⟩) (by assumption) ?_
        · intro ww hSw
          clear hSw
          go_simp
          all_goals (try assumption)
          all_goals (try rfl)
        try simp only [Act.put, List.setIfInBounds_toArray, List.set_cons_zero, List.set_cons_succ, List.getElem_toArray, List.getElem_cons_succ, List.getElem_cons_zero]
        refine wpAnyH_take (i := 45) (v := .bool false) rfl (by kernel_rfl) (by kernel_rfl) (by kernel_rfl) (fun _ _ _ h => h) (Or.inl ⟨by kernel_rfl, ?_⟩) (by assumption) ?_
        · intro ww hSw
          clear hSw
          go_simp
          all_goals (try assumption)
          all_goals (try rfl)
        try simp only [Act.put, List.setIfInBounds_toArray, List.set_cons_zero, List.set_cons_succ, List.getElem_toArray, List.getElem_cons_succ, List.getElem_cons_zero]
        refine wpAnyH_take (i := 46) (v := .bool false) rfl (by kernel_rfl) (by kernel_rfl) (by kernel_rfl) (fun _ _ _ h => h) (Or.inl ⟨by kernel_rfl, ?_⟩) (by assumption) ?_
        · intro ww hSw
          clear hSw
          go_simp
          all_goals (try assumption)
          all_goals (try rfl)
        try simp only [Act.put, List.setIfInBounds_toArray, List.set_cons_zero, List.set_cons_succ, List.getElem_toArray, List.getElem_cons_succ, List.getElem_cons_zero]
        refine wpAnyH_take (i := 47) (v := undef) rfl (by kernel_rfl) (by kernel_rfl) (by kernel_rfl) (fun _ _ _ h => h) (Or.inr ⟨by kernel_rfl, rfl⟩) (by assumption) ?_
        try simp only [Act.put, List.setIfInBounds_toArray, List.set_cons_zero, List.set_cons_succ, List.getElem_toArray, List.getElem_cons_succ, List.getElem_cons_zero]
        refine wpAnyH_take (i := 48) (v := undef) rfl (by kernel_rfl) (by kernel_rfl) (by kernel_rfl) (fun _ _ _ h => h) (Or.inr ⟨by kernel_rfl, rfl⟩) (by assumption) ?_
        try simp only [Act.put, List.setIfInBounds_toArray, List.set_cons_zero, List.set_cons_succ, List.getElem_toArray, List.getElem_cons_succ, List.getElem_cons_zero]
        refine wpAnyH_take (i := 49) (v := undef) rfl (by kernel_rfl) (by kernel_rfl) (by kernel_rfl) (fun _ _ _ h => h) (Or.inr ⟨by kernel_rfl, rfl⟩) (by assumption) ?_
        try simp only [Act.put, List.setIfInBounds_toArray, List.set_cons_zero, List.set_cons_succ, List.getElem_toArray, List.getElem_cons_succ, List.getElem_cons_zero]
        refine wpAnyH_take (i := 50) (v := .bool false) rfl (by kernel_rfl) (by kernel_rfl) (by kernel_rfl) (fun _ _ _ h => h) (Or.inl ⟨by kernel_rfl, ?_⟩) (by assumption) ?_
        · intro ww hSw
          clear hSw
          go_simp
          all_goals (try assumption)
          all_goals (try rfl)
        try simp only [Act.put, List.setIfInBounds_toArray, List.set_cons_zero, List.set_cons_succ, List.getElem_toArray, List.getElem_cons_succ, List.getElem_cons_zero]
        refine wpAnyH_take (i := 51) (v := .bool false) rfl (by kernel_rfl) (by kernel_rfl) (by kernel_rfl) (fun _ _ _ h => h) (Or.inl ⟨by kernel_rfl, ?_⟩) (by assumption) ?_
        · intro ww hSw
          clear hSw
          go_simp
          all_goals (try assumption)
          all_goals (try rfl)
        try simp only [Act.put, List.setIfInBounds_toArray, List.set_cons_zero, List.set_cons_succ, List.getElem_toArray, List.getElem_cons_succ, List.getElem_cons_zero]
        have HFB := Lib.hid hS11.2.1
        refine wpAnyH_done (by kernel_rfl) ?_ _
        go_wp2_with fail
        go_meet
        exact ⟨rfl, HFB.out⟩
    · as_aux_lemma =>
        obtain ⟨hno, rfl, rfl, rfl, rfl, rfl, rfl, rfl, rfl, rfl, rfl, rfl, rfl, rfl, rfl, rfl, rfl, rfl⟩ := hy
        rcases hpc with ⟨hok, _⟩ | ⟨_, heq⟩
        case inl => exact absurd hok hno
        have he0 : ((erB s 33639248 : Nat) : Int) ≠ 0 := by unfold erB; split <;> decide
        unfold noR at heq
        rw [er_same] at heq
        injection heq with heq
        injection heq with heq
        simp only [Array.mk.injEq, List.cons.injEq, and_true] at heq
        obtain ⟨rfl, rfl, hm1, hf1⟩ := heq
        injection hm1 with _ hm1
        injection hf1 with _ hf1
        obtain rfl : m = 0 := Int.ofNat.inj hm1
        obtain rfl := Int.ofNat.inj hf1
        generalize erB s 33639248 = e at *
        have he1 : (((e : Nat) : Int) == 0) = false := beq_eq_false_iff_ne.2 he0
        have he2 : ¬ e = 0 := by omega
        have HEQ : ∀ w, (Op.equalIn 9999 40 (.agg #[.int .u16 0, .int .u16 0, .int .u16 0, .int .u16 0, .int .u32 0, .int .u32 0, .int .u32 0, .int .u32 0, .int .u16 0, .int .u16 0, .int .u32 0, .int .u32 0, .string ⟨#[]⟩, .string ⟨#[]⟩, .string ⟨#[]⟩]) (.agg #[.int .u16 0, .int .u16 0, .int .u16 0, .int .u16 0, .int .u32 0, .int .u32 0, .int .u32 0, .int .u32 0, .int .u16 0, .int .u16 0, .int .u32 0, .int .u32 0, .string ⟨#[]⟩, .string ⟨#[]⟩, .string ⟨#[]⟩])).run Try.prog w = .ok true w := fun w => by kernel_rfl
        clear hno
        have hS0 : (fun ww => ww.heap[gb]? = some (.cells #[.int .u16 0, .int .u16 0, .int .u16 0, .int .u16 0, .int .u32 0, .int .u32 0, .int .u32 0, .int .u32 0, .int .u16 0, .int .u16 0, .int .u32 0, .int .u32 0, .string ⟨#[]⟩, .string ⟨#[]⟩, .string ⟨#[]⟩] 40 (0, 0)) ∧ Below w.heap.size w ww) w3.drew := ⟨HH4.out, HB4.out.drew⟩
        refine wp_region_held_drew (S := fun ww => ww.heap[gb]? = some (.cells #[.int .u16 0, .int .u16 0, .int .u16 0, .int .u16 0, .int .u32 0, .int .u32 0, .int .u32 0, .int .u32 0, .int .u16 0, .int .u16 0, .int .u32 0, .int .u32 0, .string ⟨#[]⟩, .string ⟨#[]⟩, .string ⟨#[]⟩] 40 (0, 0)) ∧ Below w.heap.size w ww) (by kernel_rfl) hS0 (fun hSA => ?_)
        clear hS0
        refine wpAnyH_take (i := 0) (v := .int .i64 (e : Nat)) rfl (by kernel_rfl) (by kernel_rfl) (by kernel_rfl) (fun _ _ _ h => h) (Or.inl ⟨by kernel_rfl, ?_⟩) (by assumption) ?_
        · intro ww hSw
          clear hSw
          go_simp
          all_goals (try assumption)
          all_goals (try rfl)
        try simp only [Act.put, List.setIfInBounds_toArray, List.set_cons_zero, List.set_cons_succ, List.getElem_toArray, List.getElem_cons_succ, List.getElem_cons_zero]
        refine wpAnyH_take (i := 1) (v := .int .i64 (e : Nat)) rfl (by kernel_rfl) (by kernel_rfl) (by kernel_rfl) (fun _ _ _ h => h) (Or.inl ⟨by kernel_rfl, ?_⟩) (by assumption) ?_
        · intro ww hSw
          clear hSw
          go_simp
          all_goals (try assumption)
          all_goals (try rfl)
        try simp only [Act.put, List.setIfInBounds_toArray, List.set_cons_zero, List.set_cons_succ, List.getElem_toArray, List.getElem_cons_succ, List.getElem_cons_zero]
        refine wpAnyH_take (i := 2) (v := .bool false) rfl (by kernel_rfl) (by kernel_rfl) (by kernel_rfl) (fun _ _ _ h => h) (Or.inl ⟨by kernel_rfl, ?_⟩) (by assumption) ?_
        · intro ww hSw
          clear hSw
          go_simp
          all_goals (try assumption)
          all_goals (try rfl)
        try simp only [Act.put, List.setIfInBounds_toArray, List.set_cons_zero, List.set_cons_succ, List.getElem_toArray, List.getElem_cons_succ, List.getElem_cons_zero]
        refine wpAnyH_take (i := 3) (v := .bool false) rfl (by kernel_rfl) (by kernel_rfl) (by kernel_rfl) (fun _ _ _ h => h) (Or.inl ⟨by kernel_rfl, ?_⟩) (by assumption) ?_
        · intro ww hSw
          clear hSw
          go_simp
          all_goals (try assumption)
          all_goals (try rfl)
        try simp only [Act.put, List.setIfInBounds_toArray, List.set_cons_zero, List.set_cons_succ, List.getElem_toArray, List.getElem_cons_succ, List.getElem_cons_zero]
        refine wpAnyH_take (i := 4) (v := .int .i64 0) rfl (by kernel_rfl) (by kernel_rfl) (by kernel_rfl) (fun _ _ _ h => h) (Or.inl ⟨by kernel_rfl, ?_⟩) (by assumption) ?_
        · intro ww hSw
          clear hSw
          go_simp
          all_goals (try assumption)
          all_goals (try rfl)
        try simp only [Act.put, List.setIfInBounds_toArray, List.set_cons_zero, List.set_cons_succ, List.getElem_toArray, List.getElem_cons_succ, List.getElem_cons_zero]
        refine wpAnyH_take (i := 5) (v := .int .i64 0) rfl (by kernel_rfl) (by kernel_rfl) (by kernel_rfl) (fun _ _ _ h => h) (Or.inl ⟨by kernel_rfl, ?_⟩) (by assumption) ?_
        · intro ww hSw
          clear hSw
          go_simp
          all_goals (try assumption)
          all_goals (try rfl)
        try simp only [Act.put, List.setIfInBounds_toArray, List.set_cons_zero, List.set_cons_succ, List.getElem_toArray, List.getElem_cons_succ, List.getElem_cons_zero]
        refine wpAnyH_take (i := 6) (v := .bool false) rfl (by kernel_rfl) (by kernel_rfl) (by kernel_rfl) (fun _ _ _ h => h) (Or.inl ⟨by kernel_rfl, ?_⟩) (by assumption) ?_
        · intro ww hSw
          clear hSw
          go_simp
          all_goals (try assumption)
          all_goals (try rfl)
        try simp only [Act.put, List.setIfInBounds_toArray, List.set_cons_zero, List.set_cons_succ, List.getElem_toArray, List.getElem_cons_succ, List.getElem_cons_zero]
        refine wpAnyH_take (i := 7) (v := .bool false) rfl (by kernel_rfl) (by kernel_rfl) (by kernel_rfl) (fun _ _ _ h => h) (Or.inl ⟨by kernel_rfl, ?_⟩) (by assumption) ?_
        · intro ww hSw
          clear hSw
          go_simp
          all_goals (try assumption)
          all_goals (try rfl)
        try simp only [Act.put, List.setIfInBounds_toArray, List.set_cons_zero, List.set_cons_succ, List.getElem_toArray, List.getElem_cons_succ, List.getElem_cons_zero]
        refine wpAnyH_take (i := 8) (v := .bool false) rfl (by kernel_rfl) (by kernel_rfl) (by kernel_rfl) (fun _ _ _ h => h) (Or.inl ⟨by kernel_rfl, ?_⟩) (by assumption) ?_
        · intro ww hSw
          clear hSw
          go_simp
          all_goals (try assumption)
          all_goals (try rfl)
        try simp only [Act.put, List.setIfInBounds_toArray, List.set_cons_zero, List.set_cons_succ, List.getElem_toArray, List.getElem_cons_succ, List.getElem_cons_zero]
        refine wpAnyH_take (i := 9) (v := .int .i64 (e : Nat)) rfl (by kernel_rfl) (by kernel_rfl) (by kernel_rfl) (fun _ _ _ h => h) (Or.inl ⟨by kernel_rfl, ?_⟩) (by assumption) ?_
        · intro ww hSw
          clear hSw
          go_simp
          all_goals (try assumption)
          all_goals (try rfl)
        try simp only [Act.put, List.setIfInBounds_toArray, List.set_cons_zero, List.set_cons_succ, List.getElem_toArray, List.getElem_cons_succ, List.getElem_cons_zero]
        refine wpAnyH_take (i := 10) (v := .bool false) rfl (by kernel_rfl) (by kernel_rfl) (by kernel_rfl) (fun _ _ _ h => h) (Or.inl ⟨by kernel_rfl, ?_⟩) (by assumption) ?_
        · intro ww hSw
          clear hSw
          go_simp
          all_goals (try assumption)
          all_goals (try rfl)
        try simp only [Act.put, List.setIfInBounds_toArray, List.set_cons_zero, List.set_cons_succ, List.getElem_toArray, List.getElem_cons_succ, List.getElem_cons_zero]
        refine wpAnyH_take (i := 11) (v := .bool false) rfl (by kernel_rfl) (by kernel_rfl) (by kernel_rfl) (fun _ _ _ h => h) (Or.inl ⟨by kernel_rfl, ?_⟩) (by assumption) ?_
        · intro ww hSw
          clear hSw
          go_simp
          all_goals (try assumption)
          all_goals (try rfl)
        try simp only [Act.put, List.setIfInBounds_toArray, List.set_cons_zero, List.set_cons_succ, List.getElem_toArray, List.getElem_cons_succ, List.getElem_cons_zero]
        refine wpAnyH_take (i := 12) (v := undef) rfl (by kernel_rfl) (by kernel_rfl) (by kernel_rfl) (fun _ _ _ h => h) (Or.inr ⟨by kernel_rfl, rfl⟩) (by assumption) ?_
        try simp only [Act.put, List.setIfInBounds_toArray, List.set_cons_zero, List.set_cons_succ, List.getElem_toArray, List.getElem_cons_succ, List.getElem_cons_zero]
        refine wpAnyH_take (i := 13) (v := undef) rfl (by kernel_rfl) (by kernel_rfl) (by kernel_rfl) (fun _ _ _ h => h) (Or.inr ⟨by kernel_rfl, rfl⟩) (by assumption) ?_
        try simp only [Act.put, List.setIfInBounds_toArray, List.set_cons_zero, List.set_cons_succ, List.getElem_toArray, List.getElem_cons_succ, List.getElem_cons_zero]
        refine wpAnyH_take (i := 14) (v := undef) rfl (by kernel_rfl) (by kernel_rfl) (by kernel_rfl) (fun _ _ _ h => h) (Or.inr ⟨by kernel_rfl, rfl⟩) (by assumption) ?_
        try simp only [Act.put, List.setIfInBounds_toArray, List.set_cons_zero, List.set_cons_succ, List.getElem_toArray, List.getElem_cons_succ, List.getElem_cons_zero]
        refine wpAnyH_take (i := 15) (v := undef) rfl (by kernel_rfl) (by kernel_rfl) (by kernel_rfl) (fun _ _ _ h => h) (Or.inr ⟨by kernel_rfl, rfl⟩) (by assumption) ?_
        try simp only [Act.put, List.setIfInBounds_toArray, List.set_cons_zero, List.set_cons_succ, List.getElem_toArray, List.getElem_cons_succ, List.getElem_cons_zero]
        refine wpAnyH_take (i := 16) (v := undef) rfl (by kernel_rfl) (by kernel_rfl) (by kernel_rfl) (fun _ _ _ h => h) (Or.inr ⟨by kernel_rfl, rfl⟩) (by assumption) ?_
        try simp only [Act.put, List.setIfInBounds_toArray, List.set_cons_zero, List.set_cons_succ, List.getElem_toArray, List.getElem_cons_succ, List.getElem_cons_zero]
        refine wpAnyH_take (i := 17) (v := undef) rfl (by kernel_rfl) (by kernel_rfl) (by kernel_rfl) (fun _ _ _ h => h) (Or.inr ⟨by kernel_rfl, rfl⟩) (by assumption) ?_
        try simp only [Act.put, List.setIfInBounds_toArray, List.set_cons_zero, List.set_cons_succ, List.getElem_toArray, List.getElem_cons_succ, List.getElem_cons_zero]
        refine wpAnyH_take (i := 18) (v := undef) rfl (by kernel_rfl) (by kernel_rfl) (by kernel_rfl) (fun _ _ _ h => h) (Or.inr ⟨by kernel_rfl, rfl⟩) (by assumption) ?_
        try simp only [Act.put, List.setIfInBounds_toArray, List.set_cons_zero, List.set_cons_succ, List.getElem_toArray, List.getElem_cons_succ, List.getElem_cons_zero]
        refine wpAnyH_take (i := 19) (v := undef) rfl (by kernel_rfl) (by kernel_rfl) (by kernel_rfl) (fun _ _ _ h => h) (Or.inr ⟨by kernel_rfl, rfl⟩) (by assumption) ?_
        try simp only [Act.put, List.setIfInBounds_toArray, List.set_cons_zero, List.set_cons_succ, List.getElem_toArray, List.getElem_cons_succ, List.getElem_cons_zero]
        refine wpAnyH_take (i := 20) (v := undef) rfl (by kernel_rfl) (by kernel_rfl) (by kernel_rfl) (fun _ _ _ h => h) (Or.inr ⟨by kernel_rfl, rfl⟩) (by assumption) ?_
        try simp only [Act.put, List.setIfInBounds_toArray, List.set_cons_zero, List.set_cons_succ, List.getElem_toArray, List.getElem_cons_succ, List.getElem_cons_zero]
        refine wpAnyH_take (i := 21) (v := undef) rfl (by kernel_rfl) (by kernel_rfl) (by kernel_rfl) (fun _ _ _ h => h) (Or.inr ⟨by kernel_rfl, rfl⟩) (by assumption) ?_
        try simp only [Act.put, List.setIfInBounds_toArray, List.set_cons_zero, List.set_cons_succ, List.getElem_toArray, List.getElem_cons_succ, List.getElem_cons_zero]
        refine wpAnyH_take (i := 22) (v := undef) rfl (by kernel_rfl) (by kernel_rfl) (by kernel_rfl) (fun _ _ _ h => h) (Or.inr ⟨by kernel_rfl, rfl⟩) (by assumption) ?_
        try simp only [Act.put, List.setIfInBounds_toArray, List.set_cons_zero, List.set_cons_succ, List.getElem_toArray, List.getElem_cons_succ, List.getElem_cons_zero]
        refine wpAnyH_take (i := 23) (v := undef) rfl (by kernel_rfl) (by kernel_rfl) (by kernel_rfl) (fun _ _ _ h => h) (Or.inr ⟨by kernel_rfl, rfl⟩) (by assumption) ?_
        try simp only [Act.put, List.setIfInBounds_toArray, List.set_cons_zero, List.set_cons_succ, List.getElem_toArray, List.getElem_cons_succ, List.getElem_cons_zero]
        refine wpAnyH_take (i := 24) (v := undef) rfl (by kernel_rfl) (by kernel_rfl) (by kernel_rfl) (fun _ _ _ h => h) (Or.inr ⟨by kernel_rfl, rfl⟩) (by assumption) ?_
        try simp only [Act.put, List.setIfInBounds_toArray, List.set_cons_zero, List.set_cons_succ, List.getElem_toArray, List.getElem_cons_succ, List.getElem_cons_zero]
        refine wpAnyH_take (i := 25) (v := undef) rfl (by kernel_rfl) (by kernel_rfl) (by kernel_rfl) (fun _ _ _ h => h) (Or.inr ⟨by kernel_rfl, rfl⟩) (by assumption) ?_
        try simp only [Act.put, List.setIfInBounds_toArray, List.set_cons_zero, List.set_cons_succ, List.getElem_toArray, List.getElem_cons_succ, List.getElem_cons_zero]
        refine wpAnyH_take (i := 26) (v := undef) rfl (by kernel_rfl) (by kernel_rfl) (by kernel_rfl) (fun _ _ _ h => h) (Or.inr ⟨by kernel_rfl, rfl⟩) (by assumption) ?_
        try simp only [Act.put, List.setIfInBounds_toArray, List.set_cons_zero, List.set_cons_succ, List.getElem_toArray, List.getElem_cons_succ, List.getElem_cons_zero]
        refine wpAnyH_take (i := 27) (v := undef) rfl (by kernel_rfl) (by kernel_rfl) (by kernel_rfl) (fun _ _ _ h => h) (Or.inr ⟨by kernel_rfl, rfl⟩) (by assumption) ?_
        try simp only [Act.put, List.setIfInBounds_toArray, List.set_cons_zero, List.set_cons_succ, List.getElem_toArray, List.getElem_cons_succ, List.getElem_cons_zero]
        refine wpAnyH_take (i := 28) (v := undef) rfl (by kernel_rfl) (by kernel_rfl) (by kernel_rfl) (fun _ _ _ h => h) (Or.inr ⟨by kernel_rfl, rfl⟩) (by assumption) ?_
        try simp only [Act.put, List.setIfInBounds_toArray, List.set_cons_zero, List.set_cons_succ, List.getElem_toArray, List.getElem_cons_succ, List.getElem_cons_zero]
        refine wpAnyH_take (i := 29) (v := undef) rfl (by kernel_rfl) (by kernel_rfl) (by kernel_rfl) (fun _ _ _ h => h) (Or.inr ⟨by kernel_rfl, rfl⟩) (by assumption) ?_
        try simp only [Act.put, List.setIfInBounds_toArray, List.set_cons_zero, List.set_cons_succ, List.getElem_toArray, List.getElem_cons_succ, List.getElem_cons_zero]
        refine wpAnyH_take (i := 30) (v := undef) rfl (by kernel_rfl) (by kernel_rfl) (by kernel_rfl) (fun _ _ _ h => h) (Or.inr ⟨by kernel_rfl, rfl⟩) (by assumption) ?_
        try simp only [Act.put, List.setIfInBounds_toArray, List.set_cons_zero, List.set_cons_succ, List.getElem_toArray, List.getElem_cons_succ, List.getElem_cons_zero]
        refine wpAnyH_take (i := 31) (v := undef) rfl (by kernel_rfl) (by kernel_rfl) (by kernel_rfl) (fun _ _ _ h => h) (Or.inr ⟨by kernel_rfl, rfl⟩) (by assumption) ?_
        try simp only [Act.put, List.setIfInBounds_toArray, List.set_cons_zero, List.set_cons_succ, List.getElem_toArray, List.getElem_cons_succ, List.getElem_cons_zero]
        refine wpAnyH_take (i := 32) (v := undef) rfl (by kernel_rfl) (by kernel_rfl) (by kernel_rfl) (fun _ _ _ h => h) (Or.inr ⟨by kernel_rfl, rfl⟩) (by assumption) ?_
        try simp only [Act.put, List.setIfInBounds_toArray, List.set_cons_zero, List.set_cons_succ, List.getElem_toArray, List.getElem_cons_succ, List.getElem_cons_zero]
        refine wpAnyH_take (i := 33) (v := undef) rfl (by kernel_rfl) (by kernel_rfl) (by kernel_rfl) (fun _ _ _ h => h) (Or.inr ⟨by kernel_rfl, rfl⟩) (by assumption) ?_
        try simp only [Act.put, List.setIfInBounds_toArray, List.set_cons_zero, List.set_cons_succ, List.getElem_toArray, List.getElem_cons_succ, List.getElem_cons_zero]
        refine wpAnyH_take (i := 34) (v := undef) rfl (by kernel_rfl) (by kernel_rfl) (by kernel_rfl) (fun _ _ _ h => h) (Or.inr ⟨by kernel_rfl, rfl⟩) (by assumption) ?_
        try simp only [Act.put, List.setIfInBounds_toArray, List.set_cons_zero, List.set_cons_succ, List.getElem_toArray, List.getElem_cons_succ, List.getElem_cons_zero]
        refine wpAnyH_take (i := 35) (v := undef) rfl (by kernel_rfl) (by kernel_rfl) (by kernel_rfl) (fun _ _ _ h => h) (Or.inr ⟨by kernel_rfl, rfl⟩) (by assumption) ?_
        try simp only [Act.put, List.setIfInBounds_toArray, List.set_cons_zero, List.set_cons_succ, List.getElem_toArray, List.getElem_cons_succ, List.getElem_cons_zero]
        refine wpAnyH_take (i := 36) (v := undef) rfl (by kernel_rfl) (by kernel_rfl) (by kernel_rfl) (fun _ _ _ h => h) (Or.inr ⟨by kernel_rfl, rfl⟩) (by assumption) ?_
        try simp only [Act.put, List.setIfInBounds_toArray, List.set_cons_zero, List.set_cons_succ, List.getElem_toArray, List.getElem_cons_succ, List.getElem_cons_zero]
        refine wpAnyH_take (i := 37) (v := undef) rfl (by kernel_rfl) (by kernel_rfl) (by kernel_rfl) (fun _ _ _ h => h) (Or.inr ⟨by kernel_rfl, rfl⟩) (by assumption) ?_
        try simp only [Act.put, List.setIfInBounds_toArray, List.set_cons_zero, List.set_cons_succ, List.getElem_toArray, List.getElem_cons_succ, List.getElem_cons_zero]
        refine wpAnyH_take (i := 38) (v := undef) rfl (by kernel_rfl) (by kernel_rfl) (by kernel_rfl) (fun _ _ _ h => h) (Or.inr ⟨by kernel_rfl, rfl⟩) (by assumption) ?_
        try simp only [Act.put, List.setIfInBounds_toArray, List.set_cons_zero, List.set_cons_succ, List.getElem_toArray, List.getElem_cons_succ, List.getElem_cons_zero]
        refine wpAnyH_take (i := 39) (v := undef) rfl (by kernel_rfl) (by kernel_rfl) (by kernel_rfl) (fun _ _ _ h => h) (Or.inr ⟨by kernel_rfl, rfl⟩) (by assumption) ?_
        try simp only [Act.put, List.setIfInBounds_toArray, List.set_cons_zero, List.set_cons_succ, List.getElem_toArray, List.getElem_cons_succ, List.getElem_cons_zero]
        refine wpAnyH_take (i := 40) (v := undef) rfl (by kernel_rfl) (by kernel_rfl) (by kernel_rfl) (fun _ _ _ h => h) (Or.inr ⟨by kernel_rfl, rfl⟩) (by assumption) ?_
        try simp only [Act.put, List.setIfInBounds_toArray, List.set_cons_zero, List.set_cons_succ, List.getElem_toArray, List.getElem_cons_succ, List.getElem_cons_zero]
        refine wpAnyH_take (i := 41) (v := .bool false) rfl (by kernel_rfl) (by kernel_rfl) (by kernel_rfl) (fun _ _ _ h => h) (Or.inl ⟨by kernel_rfl, ?_⟩) (by assumption) ?_
        · intro ww hSw
          clear hSw
          go_simp
          all_goals (try assumption)
          all_goals (try rfl)
        try simp only [Act.put, List.setIfInBounds_toArray, List.set_cons_zero, List.set_cons_succ, List.getElem_toArray, List.getElem_cons_succ, List.getElem_cons_zero]
        refine wpAnyH_take (i := 42) (v := .bool false) rfl (by kernel_rfl) (by kernel_rfl) (by kernel_rfl) (fun _ _ _ h => h) (Or.inl ⟨by kernel_rfl, ?_⟩) (by assumption) ?_
        · intro ww hSw
          clear hSw
          go_simp
          all_goals (try assumption)
          all_goals (try rfl)
        try simp only [Act.put, List.setIfInBounds_toArray, List.set_cons_zero, List.set_cons_succ, List.getElem_toArray, List.getElem_cons_succ, List.getElem_cons_zero]
        refine wpAnyH_take (i := 43) (v := .bool false) rfl (by kernel_rfl) (by kernel_rfl) (by kernel_rfl) (fun _ _ _ h => h) (Or.inl ⟨by kernel_rfl, ?_⟩) (by assumption) ?_
        · intro ww hSw
          clear hSw
          go_simp
          all_goals (try assumption)
          all_goals (try rfl)
        try simp only [Act.put, List.setIfInBounds_toArray, List.set_cons_zero, List.set_cons_succ, List.getElem_toArray, List.getElem_cons_succ, List.getElem_cons_zero]
        refine wpAnyH_take (i := 44) (v := .int .i64 (e : Nat)) rfl (by kernel_rfl) (by kernel_rfl) (by kernel_rfl) (fun _ _ _ h => h) (Or.inl ⟨by kernel_rfl, ?_⟩) (by assumption) ?_
        · intro ww hSw
          clear hSw
          go_simp
          all_goals (try assumption)
          all_goals (try rfl)
        try simp only [Act.put, List.setIfInBounds_toArray, List.set_cons_zero, List.set_cons_succ, List.getElem_toArray, List.getElem_cons_succ, List.getElem_cons_zero]
        refine wpAnyH_take (i := 45) (v := .bool true) rfl (by kernel_rfl) (by kernel_rfl) (by kernel_rfl) (fun _ _ _ h => h) (Or.inl ⟨by kernel_rfl, ?_⟩) (by assumption) ?_
        · intro ww hSw
          clear hSw
          go_simp
          all_goals (try assumption)
          all_goals (try rfl)
        try simp only [Act.put, List.setIfInBounds_toArray, List.set_cons_zero, List.set_cons_succ, List.getElem_toArray, List.getElem_cons_succ, List.getElem_cons_zero]
        refine wpAnyH_take (i := 46) (v := .bool true) rfl (by kernel_rfl) (by kernel_rfl) (by kernel_rfl) (fun _ _ _ h => h) (Or.inl ⟨by kernel_rfl, ?_⟩) (by assumption) ?_
        · intro ww hSw
          clear hSw
          go_simp
          all_goals (try assumption)
          all_goals (try rfl)
        try simp only [Act.put, List.setIfInBounds_toArray, List.set_cons_zero, List.set_cons_succ, List.getElem_toArray, List.getElem_cons_succ, List.getElem_cons_zero]
        refine wpAnyH_take (i := 47) (v := .agg #[.int .u16 0, .int .u16 0, .int .u16 0, .int .u16 0, .int .u32 0, .int .u32 0, .int .u32 0, .int .u32 0, .int .u16 0, .int .u16 0, .int .u32 0, .int .u32 0, .string ⟨#[]⟩, .string ⟨#[]⟩, .string ⟨#[]⟩]) rfl (by kernel_rfl) (by kernel_rfl) (by kernel_rfl) (fun _ _ _ h => h) (Or.inl ⟨by kernel_rfl, ?_⟩) (by assumption) ?_
        · intro ww hSw
          have hc0 : ww.cell? ⟨gb, 0, none⟩ = some (.int .u16 0) := by rw [Lib.cell_of_heap hSw.1]; rfl
          have hc1 : ww.cell? ⟨gb, 1, none⟩ = some (.int .u16 0) := by rw [Lib.cell_of_heap hSw.1]; rfl
          have hc2 : ww.cell? ⟨gb, 2, none⟩ = some (.int .u16 0) := by rw [Lib.cell_of_heap hSw.1]; rfl
          have hc3 : ww.cell? ⟨gb, 3, none⟩ = some (.int .u16 0) := by rw [Lib.cell_of_heap hSw.1]; rfl
          have hc4 : ww.cell? ⟨gb, 4, none⟩ = some (.int .u32 0) := by rw [Lib.cell_of_heap hSw.1]; rfl
          have hc5 : ww.cell? ⟨gb, 5, none⟩ = some (.int .u32 0) := by rw [Lib.cell_of_heap hSw.1]; rfl
          have hc6 : ww.cell? ⟨gb, 6, none⟩ = some (.int .u32 0) := by rw [Lib.cell_of_heap hSw.1]; rfl
          have hc7 : ww.cell? ⟨gb, 7, none⟩ = some (.int .u32 0) := by rw [Lib.cell_of_heap hSw.1]; rfl
          have hc8 : ww.cell? ⟨gb, 8, none⟩ = some (.int .u16 0) := by rw [Lib.cell_of_heap hSw.1]; rfl
          have hc9 : ww.cell? ⟨gb, 9, none⟩ = some (.int .u16 0) := by rw [Lib.cell_of_heap hSw.1]; rfl
          have hc10 : ww.cell? ⟨gb, 10, none⟩ = some (.int .u32 0) := by rw [Lib.cell_of_heap hSw.1]; rfl
          have hc11 : ww.cell? ⟨gb, 11, none⟩ = some (.int .u32 0) := by rw [Lib.cell_of_heap hSw.1]; rfl
          have hc12 : ww.cell? ⟨gb, 12, none⟩ = some (.string ⟨#[]⟩) := by rw [Lib.cell_of_heap hSw.1]; rfl
          have hc13 : ww.cell? ⟨gb, 13, none⟩ = some (.string ⟨#[]⟩) := by rw [Lib.cell_of_heap hSw.1]; rfl
          have hc14 : ww.cell? ⟨gb, 14, none⟩ = some (.string ⟨#[]⟩) := by rw [Lib.cell_of_heap hSw.1]; rfl
          clear hSw
          go_simp
          all_goals (try assumption)
          all_goals (try rfl)
        try simp only [Act.put, List.setIfInBounds_toArray, List.set_cons_zero, List.set_cons_succ, List.getElem_toArray, List.getElem_cons_succ, List.getElem_cons_zero]
        refine wpAnyH_take (i := 48) (v := .agg #[.int .u16 0, .int .u16 0, .int .u16 0, .int .u16 0, .int .u32 0, .int .u32 0, .int .u32 0, .int .u32 0, .int .u16 0, .int .u16 0, .int .u32 0, .int .u32 0, .string ⟨#[]⟩, .string ⟨#[]⟩, .string ⟨#[]⟩]) rfl (by kernel_rfl) (by kernel_rfl) (by kernel_rfl) (fun _ _ _ h => h) (Or.inl ⟨by kernel_rfl, ?_⟩) (by assumption) ?_
        · intro ww hSw
          clear hSw
          go_simp
          all_goals (try assumption)
          all_goals (try rfl)
        try simp only [Act.put, List.setIfInBounds_toArray, List.set_cons_zero, List.set_cons_succ, List.getElem_toArray, List.getElem_cons_succ, List.getElem_cons_zero]
        refine wpAnyH_take (i := 49) (v := .bool false) rfl (by kernel_rfl) (by kernel_rfl) (by kernel_rfl) (fun _ _ _ h => h) (Or.inl ⟨by kernel_rfl, ?_⟩) (by assumption) ?_
        · intro ww hSw
          clear hSw
          go_simp
          all_goals (try assumption)
          all_goals (try rfl)
        try simp only [Act.put, List.setIfInBounds_toArray, List.set_cons_zero, List.set_cons_succ, List.getElem_toArray, List.getElem_cons_succ, List.getElem_cons_zero]
        refine wpAnyH_take (i := 50) (v := .bool false) rfl (by kernel_rfl) (by kernel_rfl) (by kernel_rfl) (fun _ _ _ h => h) (Or.inl ⟨by kernel_rfl, ?_⟩) (by assumption) ?_
        · intro ww hSw
          clear hSw
          go_simp
          all_goals (try assumption)
          all_goals (try rfl)
        try simp only [Act.put, List.setIfInBounds_toArray, List.set_cons_zero, List.set_cons_succ, List.getElem_toArray, List.getElem_cons_succ, List.getElem_cons_zero]
        refine wpAnyH_take (i := 51) (v := .bool false) rfl (by kernel_rfl) (by kernel_rfl) (by kernel_rfl) (fun _ _ _ h => h) (Or.inl ⟨by kernel_rfl, ?_⟩) (by assumption) ?_
        · intro ww hSw
          clear hSw
          go_simp
          all_goals (try assumption)
          all_goals (try rfl)
        try simp only [Act.put, List.setIfInBounds_toArray, List.set_cons_zero, List.set_cons_succ, List.getElem_toArray, List.getElem_cons_succ, List.getElem_cons_zero]
        have HFB := Lib.hid hSA.2
        refine wpAnyH_done (by kernel_rfl) ?_ _
        go_wp2_with fail
        go_meet
        exact ⟨rfl, HFB.out⟩
  case rest =>
  obtain ⟨rfl, hbc⟩ := hcut
  have HB := Lib.hid hbc
  clear hbc HB4 HH4 HCASE HPC HBD HZS
  obtain ⟨x0, x1, x2, n, e, hps, hbd, hzs, hcase⟩ := formD s wide HSZ.out
  have HPS := Lib.hid (fun w => parseD_any s wide HSZ.out w)
  rw [hps] at HPS
  have HCASE := Lib.hid hcase
  have HBD := Lib.hid hbd
  have HZS := Lib.hid hzs
  clear hps hcase hbd hzs
  go_wp2_with fail
  refine (HPS.out _).mono ?_; rintro r w1 ⟨rfl, hb1⟩
  have HB1 := Lib.hid (below_then HB.out hb1)
  have HH : Hid ((w1.alloc (.cells #[.int .u32 (x0 : Nat), .int .u64 (x1 : Nat), .int .u64 (x2 : Nat)] 45)).heap[w1.heap.size]? = some (.cells #[.int .u32 (x0 : Nat), .int .u64 (x1 : Nat), .int .u64 (x2 : Nat)] 45 (0, 0))) := heap_alloc_new _ _
  have HB2 := Lib.hid (HB1.out.alloc HB1.out.size (.cells #[.int .u32 (x0 : Nat), .int .u64 (x1 : Nat), .int .u64 (x2 : Nat)] 45))
  clear hb1 HB1 HB HPS
  go_wp2_with fail
  generalize w1.alloc (.cells #[.int .u32 (x0 : Nat), .int .u64 (x1 : Nat), .int .u64 (x2 : Nat)] 45) = wA at *
  generalize w1.heap.size = gb at *
  refine (rDescs_any wide _).mono ?_; rintro r w2 ⟨rfl, hrd, hb2⟩
  have HB3 := Lib.hid (HB2.out.trans (hb2.mono HB2.out.size))
  have HH3 : Hid (w2.heap[gb]? = some (.cells #[.int .u32 (x0 : Nat), .int .u64 (x1 : Nat), .int .u64 (x2 : Nat)] 45 (0, 0))) := (hb2.block _ (lt_of_some HH.out)).trans HH.out
  have HRP := Lib.hid (rparseD_any s HSZ.out wide (some ⟨wA.heap.size, 0, none⟩) 4 w2 hrd)
  clear hrd hb2 HB2 HH
  go_wp2_with fail
  generalize w2 = wB at *
  refine (HRP.out).mono ?_; rintro r w3 hpr
  obtain ⟨hpc, hb3⟩ := hpr
  have HB4 := Lib.hid (HB3.out.trans (hb3.mono HB3.out.size))
  have HH4 : Hid (w3.heap[gb]? = some (.cells #[.int .u32 (x0 : Nat), .int .u64 (x1 : Nat), .int .u64 (x2 : Nat)] 45 (0, 0))) := (hb3.block _ (lt_of_some HH3.out)).trans HH3.out
  clear hb3 HB3 HH3 HRP
  rcases HCASE.out with hy | hy
  · as_aux_lemma =>
      obtain ⟨hok, rfl, rfl, hrow, htx⟩ := hy
      rcases hpc with ⟨_, A2, c2, A3, c3, rfl, hr2, hr3⟩ | ⟨hno, _⟩
      case inr => exact absurd hok hno
      rw [hrow.symm] at hr2
      rw [htx] at hr3
      generalize hnn : txE (rowN s 0 (wsD wide)) (wsD wide).sum [] = n at *
      obtain ⟨b0, b1, b2⟩ := HBD.out
      skip
      have HLW := Lib.hid (fun w => descriptors_any x0 x1 x2 b0 b1 b2   w)
      have HR2 := Lib.hid hr2
      clear hnn hrow htx hr2 hr3 hok b0 b1 b2 
      have k0 : w3.cell? ⟨gb, 0, none⟩ = some (.int .u32 (x0 : Nat)) := by rw [Lib.cell_of_heap HH4.out]; rfl
      have k1 : w3.cell? ⟨gb, 1, none⟩ = some (.int .u64 (x1 : Nat)) := by rw [Lib.cell_of_heap HH4.out]; rfl
      have k2 : w3.cell? ⟨gb, 2, none⟩ = some (.int .u64 (x2 : Nat)) := by rw [Lib.cell_of_heap HH4.out]; rfl
      go_wp2_with fail
      refine (HLW.out _).mono ?_; rintro e w8 ⟨rfl, hrow, hb8⟩
      have HROW8 := Lib.hid hrow
      have HR8 := Lib.hid (HR2.out.below hb8)
      have HB8 := Lib.hid (HB4.out.trans (hb8.mono HB4.out.size))
      clear hrow hb8
      go_wp2_with fail
      refine (equal_same _ _ 4 c2 _ (by simp [rowDescriptor]) _ HROW8.out HR8.out).mono ?_; rintro e w10 ⟨rfl, d10, rfl⟩
      have HFB := Lib.hid (below_drewN HB8.out d10)
      go_wp2_with fail
      go_ret
      exact ⟨rfl, HFB.out⟩
  · as_aux_lemma =>
      obtain ⟨hno, rfl, rfl, rfl, rfl, rfl⟩ := hy
      rcases hpc with ⟨hok, _⟩ | ⟨_, rfl⟩
      case inl => exact absurd hok hno
      have he0 : ((erB s 134695760 : Nat) : Int) ≠ 0 := by unfold erB; split <;> decide
      unfold noR
      rw [er_same]
      generalize erB s 134695760 = e at *
      have he1 : (((e : Nat) : Int) == 0) = false := beq_eq_false_iff_ne.2 he0
      have he2 : ¬ e = 0 := by omega
      have HEQ : ∀ w, (Op.equalIn 9999 45 (.agg #[.int .u32 0, .int .u64 0, .int .u64 0]) (.agg #[.int .u32 0, .int .u64 0, .int .u64 0])).run Try.prog w = .ok true w := fun w => by kernel_rfl
      clear hno
      have k0 : w3.cell? ⟨gb, 0, none⟩ = some (.int .u32 0) := by rw [Lib.cell_of_heap HH4.out]; rfl
      have k1 : w3.cell? ⟨gb, 1, none⟩ = some (.int .u64 0) := by rw [Lib.cell_of_heap HH4.out]; rfl
      have k2 : w3.cell? ⟨gb, 2, none⟩ = some (.int .u64 0) := by rw [Lib.cell_of_heap HH4.out]; rfl
      go_wp2_with fail
      go_ret
      exact ⟨rfl, HB4.out⟩
end Go.Proofs.Ytklmfncljebgnaa
