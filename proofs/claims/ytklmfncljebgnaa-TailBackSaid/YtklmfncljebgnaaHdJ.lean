/-
  Contracts of package header: PrintLocal.
-/
import Derived.Test.YtklmfncljebgnaaHdI
namespace Go.Proofs.Ytklmfncljebgnaa
set_option maxRecDepth 100000
set_option linter.unusedSimpArgs false
open Go.RowKit Go.Joins Go.Deep Go.Op
def txL (x0 x1 x2 x3 x4 x5 x6 : Nat) (s7 s8 : ByteArray) : ByteArray := (⟨#[80, 75, 3, 4]⟩ : ByteArray) ++ text (lesL 2 [x0, x1, x2]) ++ text (lesL 4 [x3, x4, x5, x6]) ++ text (lesL 2 [s7.size, s8.size]) ++ s7 ++ s8
def prL (x0 x1 x2 x3 x4 x5 x6 : Nat) (s7 s8 : ByteArray) : Value := if fitsT [s7, s8] = true then .tuple #[.string (txL x0 x1 x2 x3 x4 x5 x6 s7 s8), .int .i64 0] else .tuple #[.string ⟨#[]⟩, .int .i64 5]
theorem lensL (g : Nat) (s7 s8 : ByteArray) (z7 : s7.size ≤ 1000000) (z8 : s8.size ≤ 1000000) (w : World) (hr : RdS w (some ⟨g, 0, none⟩) [s7, s8]) :
    Calls Try.prog 45 #[.slice (some ⟨g, 0, none⟩) 2 2] w fun e w' => e = .returned (lenV [s7, s8]) ∧ Below w.heap.size w w' :=
  lengths_any _ 2 [s7, s8] (by simp) (by intro s hs; simp at hs; rcases hs with rfl | rfl <;> assumption) w hr
set_option maxHeartbeats 40000000 in
theorem printL_any (x0 x1 x2 x3 x4 x5 x6 : Nat) (b0 : x0 < 65536) (b1 : x1 < 65536) (b2 : x2 < 65536) (b3 : x3 < 4294967296) (b4 : x4 < 4294967296) (b5 : x5 < 4294967296) (b6 : x6 < 4294967296) (s7 s8 : ByteArray) (z7 : s7.size ≤ 1000000) (z8 : s8.size ≤ 1000000) (w : World) :
    Calls Try.prog 22 #[.agg #[.int .u16 (x0 : Nat), .int .u16 (x1 : Nat), .int .u16 (x2 : Nat), .int .u32 (x3 : Nat), .int .u32 (x4 : Nat), .int .u32 (x5 : Nat), .int .u32 (x6 : Nat), .string s7, .string s8]] w fun r w' => r = .returned (prL x0 x1 x2 x3 x4 x5 x6 s7 s8) ∧ Below w.heap.size w w' := by
  have hh0 : (w.alloc (.cells #[.int .u16 (x0 : Nat), .int .u16 (x1 : Nat), .int .u16 (x2 : Nat), .int .u32 (x3 : Nat), .int .u32 (x4 : Nat), .int .u32 (x5 : Nat), .int .u32 (x6 : Nat), .string s7, .string s8] 26)).heap[w.heap.size]? = some (.cells #[.int .u16 (x0 : Nat), .int .u16 (x1 : Nat), .int .u16 (x2 : Nat), .int .u32 (x3 : Nat), .int .u32 (x4 : Nat), .int .u32 (x5 : Nat), .int .u32 (x6 : Nat), .string s7, .string s8] 26 (0, 0)) := heap_alloc_new _ _
  have HSZ : Hid ((w.alloc (.cells #[.int .u16 (x0 : Nat), .int .u16 (x1 : Nat), .int .u16 (x2 : Nat), .int .u32 (x3 : Nat), .int .u32 (x4 : Nat), .int .u32 (x5 : Nat), .int .u32 (x6 : Nat), .string s7, .string s8] 26)).heap.size = w.heap.size + 1) := alloc_size _ _
  have HL0 : Hid (RdS ((w.alloc (.cells #[.int .u16 (x0 : Nat), .int .u16 (x1 : Nat), .int .u16 (x2 : Nat), .int .u32 (x3 : Nat), .int .u32 (x4 : Nat), .int .u32 (x5 : Nat), .int .u32 (x6 : Nat), .string s7, .string s8] 26)).alloc (.cells #[.string s7, .string s8] 9)) (some ⟨w.heap.size + 1, 0, none⟩) [s7, s8]) := RdS.of_heap (heap_alloc_at (alloc_size _ _).symm) rfl
  have HH0 : Hid (((w.alloc (.cells #[.int .u16 (x0 : Nat), .int .u16 (x1 : Nat), .int .u16 (x2 : Nat), .int .u32 (x3 : Nat), .int .u32 (x4 : Nat), .int .u32 (x5 : Nat), .int .u32 (x6 : Nat), .string s7, .string s8] 26)).alloc (.cells #[.string s7, .string s8] 9)).heap[w.heap.size]? = some (.cells #[.int .u16 (x0 : Nat), .int .u16 (x1 : Nat), .int .u16 (x2 : Nat), .int .u32 (x3 : Nat), .int .u32 (x4 : Nat), .int .u32 (x5 : Nat), .int .u32 (x6 : Nat), .string s7, .string s8] 26 (0, 0))) := (Below.heap_alloc _ _ _ (by simp)).trans hh0
  have HB0 : Hid (Below w.heap.size w ((w.alloc (.cells #[.int .u16 (x0 : Nat), .int .u16 (x1 : Nat), .int .u16 (x2 : Nat), .int .u32 (x3 : Nat), .int .u32 (x4 : Nat), .int .u32 (x5 : Nat), .int .u32 (x6 : Nat), .string s7, .string s8] 26)).alloc (.cells #[.string s7, .string s8] 9))) := ((Below.refl _ _).alloc (Nat.le_refl _) _).alloc (by simp) _
  have HLC := Lib.hid (lensL (w.heap.size + 1) s7 s8 z7 z8 _ HL0.out)
  obtain ⟨T1, hT1⟩ : ∃ T, T = text (lesL 2 [x0, x1, x2]) := ⟨_, rfl⟩
  have HC1 : Hid (∀ (g : Nat) (w : World), RdI w .u16 (some ⟨g, 0, none⟩) [x0, x1, x2] → Calls Try.prog 46 #[.func (.func 47) #[] #[], .slice (some ⟨g, 0, none⟩) 3 3] w fun e w' => e = .returned (.string T1) ∧ Below w.heap.size w w') := fun g w hr => by rw [hT1]; exact row2_any _ 3 [x0, x1, x2] (by simp) (by intro x hx; simp at hx; rcases hx with rfl | rfl | rfl <;> assumption) w hr
  have zT1 : T1.size ≤ 1000 := by rw [hT1, text_size, lesL_len]; simp
  have HT1 := Lib.hid hT1
  clear hT1
  obtain ⟨T2, hT2⟩ : ∃ T, T = text (lesL 4 [x3, x4, x5, x6]) := ⟨_, rfl⟩
  have HC2 : Hid (∀ (g : Nat) (w : World), RdI w .u32 (some ⟨g, 0, none⟩) [x3, x4, x5, x6] → Calls Try.prog 48 #[.func (.func 49) #[] #[], .slice (some ⟨g, 0, none⟩) 4 4] w fun e w' => e = .returned (.string T2) ∧ Below w.heap.size w w') := fun g w hr => by rw [hT2]; exact row4_any _ 4 [x3, x4, x5, x6] (by simp) (by intro x hx; simp at hx; rcases hx with rfl | rfl | rfl | rfl <;> assumption) w hr
  have zT2 : T2.size ≤ 1000 := by rw [hT2, text_size, lesL_len]; simp
  have HT2 := Lib.hid hT2
  clear hT2
  obtain ⟨C, hC⟩ : ∃ T, T = text (lesL 2 [s7.size, s8.size]) := ⟨_, rfl⟩
  have zC : C.size ≤ 1000 := by rw [hC, text_size, lesL_len]; simp
  have HC := Lib.hid hC
  clear hC
  clear hh0 HL0 b0 b1 b2 b3 b4 b5 b6
  go_enter Try.func22, Try.ntmps22
  go_wp2_with fail
  generalize (w.alloc (.cells #[.int .u16 (x0 : Nat), .int .u16 (x1 : Nat), .int .u16 (x2 : Nat), .int .u32 (x3 : Nat), .int .u32 (x4 : Nat), .int .u32 (x5 : Nat), .int .u32 (x6 : Nat), .string s7, .string s8] 26)).alloc (.cells #[.string s7, .string s8] 9) = wl at *
  generalize hgl : w.heap.size + 1 = gl at *
  have HGL := Lib.hid hgl
  clear hgl
  refine (HLC.out).mono ?_; rintro e wm ⟨rfl, hbm⟩
  have HH : Hid (wm.heap[w.heap.size]? = some (.cells #[.int .u16 (x0 : Nat), .int .u16 (x1 : Nat), .int .u16 (x2 : Nat), .int .u32 (x3 : Nat), .int .u32 (x4 : Nat), .int .u32 (x5 : Nat), .int .u32 (x6 : Nat), .string s7, .string s8] 26 (0, 0))) := (hbm.block _ (lt_of_some HH0.out)).trans HH0.out
  have HB := Lib.hid (HB0.out.trans (hbm.mono HB0.out.size))
  clear hbm HH0 HB0 HLC
  by_cases hfit : fitsT [s7, s8] = true
  · have HANS : Hid (prL x0 x1 x2 x3 x4 x5 x6 s7 s8 = .tuple #[.string ((⟨#[80, 75, 3, 4]⟩ : ByteArray) ++ T1 ++ T2 ++ C ++ s7 ++ s8), .int .i64 0]) := by
      show _ = _
      unfold prL txL
      rw [if_pos hfit, HT1.out, HT2.out, HC.out]
    rw [show lenV [s7, s8] = .tuple #[.string C, .bool true] by unfold lenV; rw [if_pos hfit, HC.out]; rfl]
    clear hfit
    have hx := HB.out
    go_upto_region 4 with fail
    clear hx
    generalize hghg : w.heap.size = gh at *
    have HGH := Lib.hid hghg
    clear hghg
    replace HH : Hid (wm.drew.heap[gh]? = some (.cells #[.int .u16 (x0 : Nat), .int .u16 (x1 : Nat), .int .u16 (x2 : Nat), .int .u32 (x3 : Nat), .int .u32 (x4 : Nat), .int .u32 (x5 : Nat), .int .u32 (x6 : Nat), .string s7, .string s8] 26 (0, 0))) := HH
    replace HB : Hid (Below gh w wm.drew) := HB.out.drew
    refine wp_region_held_drew (S := fun ww => ww.heap[gh]? = some (.cells #[.int .u16 (x0 : Nat), .int .u16 (x1 : Nat), .int .u16 (x2 : Nat), .int .u32 (x3 : Nat), .int .u32 (x4 : Nat), .int .u32 (x5 : Nat), .int .u32 (x6 : Nat), .string s7, .string s8] 26 (0, 0)) ∧ Below gh w ww) (by kernel_rfl) ⟨HH.out, HB.out⟩ (fun hS0 => ?_)
    refine wpAnyH_take (i := 0) (v := .pointer (some ⟨gh, 0, none⟩)) rfl (by kernel_rfl) (by kernel_rfl) (by kernel_rfl) (fun _ _ _ h => h) (Or.inl ⟨by kernel_rfl, ?_⟩) (by assumption) ?_
    · intro ww hSw
      clear hSw
      go_simp
      all_goals (try omega)
      all_goals (try rfl)
    try simp only [Act.put, List.setIfInBounds_toArray, List.set_cons_zero, List.set_cons_succ, List.getElem_toArray, List.getElem_cons_succ, List.getElem_cons_zero]
    refine wpAnyH_take (i := 1) (v := .int .u16 (x0 : Nat)) rfl (by kernel_rfl) (by kernel_rfl) (by kernel_rfl) (fun _ _ _ h => h) (Or.inl ⟨by kernel_rfl, ?_⟩) (by assumption) ?_
    · intro ww hSw
      have hcc : ww.cell? ⟨gh, 0, none⟩ = some (.int .u16 (x0 : Nat)) := by rw [Lib.cell_of_heap hSw.1]; rfl
      clear hSw
      go_simp
      try rfl
    try simp only [Act.put, List.setIfInBounds_toArray, List.set_cons_zero, List.set_cons_succ, List.getElem_toArray, List.getElem_cons_succ, List.getElem_cons_zero]
    refine wpAnyH_take (i := 2) (v := .pointer (some ⟨gh, 1, none⟩)) rfl (by kernel_rfl) (by kernel_rfl) (by kernel_rfl) (fun _ _ _ h => h) (Or.inl ⟨by kernel_rfl, ?_⟩) (by assumption) ?_
    · intro ww hSw
      clear hSw
      go_simp
      all_goals (try omega)
      all_goals (try rfl)
    try simp only [Act.put, List.setIfInBounds_toArray, List.set_cons_zero, List.set_cons_succ, List.getElem_toArray, List.getElem_cons_succ, List.getElem_cons_zero]
    refine wpAnyH_take (i := 3) (v := .int .u16 (x1 : Nat)) rfl (by kernel_rfl) (by kernel_rfl) (by kernel_rfl) (fun _ _ _ h => h) (Or.inl ⟨by kernel_rfl, ?_⟩) (by assumption) ?_
    · intro ww hSw
      have hcc : ww.cell? ⟨gh, 1, none⟩ = some (.int .u16 (x1 : Nat)) := by rw [Lib.cell_of_heap hSw.1]; rfl
      clear hSw
      go_simp
      try rfl
    try simp only [Act.put, List.setIfInBounds_toArray, List.set_cons_zero, List.set_cons_succ, List.getElem_toArray, List.getElem_cons_succ, List.getElem_cons_zero]
    refine wpAnyH_take (i := 4) (v := .pointer (some ⟨gh, 2, none⟩)) rfl (by kernel_rfl) (by kernel_rfl) (by kernel_rfl) (fun _ _ _ h => h) (Or.inl ⟨by kernel_rfl, ?_⟩) (by assumption) ?_
    · intro ww hSw
      clear hSw
      go_simp
      all_goals (try omega)
      all_goals (try rfl)
    try simp only [Act.put, List.setIfInBounds_toArray, List.set_cons_zero, List.set_cons_succ, List.getElem_toArray, List.getElem_cons_succ, List.getElem_cons_zero]
    refine wpAnyH_take (i := 5) (v := .int .u16 (x2 : Nat)) rfl (by kernel_rfl) (by kernel_rfl) (by kernel_rfl) (fun _ _ _ h => h) (Or.inl ⟨by kernel_rfl, ?_⟩) (by assumption) ?_
    · intro ww hSw
      have hcc : ww.cell? ⟨gh, 2, none⟩ = some (.int .u16 (x2 : Nat)) := by rw [Lib.cell_of_heap hSw.1]; rfl
      clear hSw
      go_simp
      try rfl
    try simp only [Act.put, List.setIfInBounds_toArray, List.set_cons_zero, List.set_cons_succ, List.getElem_toArray, List.getElem_cons_succ, List.getElem_cons_zero]
    refine wpAnyH_take (i := 9) (v := .pointer (some ⟨gh, 3, none⟩)) rfl (by kernel_rfl) (by kernel_rfl) (by kernel_rfl) (fun _ _ _ h => h) (Or.inl ⟨by kernel_rfl, ?_⟩) (by assumption) ?_
    · intro ww hSw
      clear hSw
      go_simp
      all_goals (try omega)
      all_goals (try rfl)
    try simp only [Act.put, List.setIfInBounds_toArray, List.set_cons_zero, List.set_cons_succ, List.getElem_toArray, List.getElem_cons_succ, List.getElem_cons_zero]
    refine wpAnyH_take (i := 10) (v := .int .u32 (x3 : Nat)) rfl (by kernel_rfl) (by kernel_rfl) (by kernel_rfl) (fun _ _ _ h => h) (Or.inl ⟨by kernel_rfl, ?_⟩) (by assumption) ?_
    · intro ww hSw
      have hcc : ww.cell? ⟨gh, 3, none⟩ = some (.int .u32 (x3 : Nat)) := by rw [Lib.cell_of_heap hSw.1]; rfl
      clear hSw
      go_simp
      try rfl
    try simp only [Act.put, List.setIfInBounds_toArray, List.set_cons_zero, List.set_cons_succ, List.getElem_toArray, List.getElem_cons_succ, List.getElem_cons_zero]
    refine wpAnyH_take (i := 11) (v := .pointer (some ⟨gh, 4, none⟩)) rfl (by kernel_rfl) (by kernel_rfl) (by kernel_rfl) (fun _ _ _ h => h) (Or.inl ⟨by kernel_rfl, ?_⟩) (by assumption) ?_
    · intro ww hSw
      clear hSw
      go_simp
      all_goals (try omega)
      all_goals (try rfl)
    try simp only [Act.put, List.setIfInBounds_toArray, List.set_cons_zero, List.set_cons_succ, List.getElem_toArray, List.getElem_cons_succ, List.getElem_cons_zero]
    refine wpAnyH_take (i := 12) (v := .int .u32 (x4 : Nat)) rfl (by kernel_rfl) (by kernel_rfl) (by kernel_rfl) (fun _ _ _ h => h) (Or.inl ⟨by kernel_rfl, ?_⟩) (by assumption) ?_
    · intro ww hSw
      have hcc : ww.cell? ⟨gh, 4, none⟩ = some (.int .u32 (x4 : Nat)) := by rw [Lib.cell_of_heap hSw.1]; rfl
      clear hSw
      go_simp
      try rfl
    try simp only [Act.put, List.setIfInBounds_toArray, List.set_cons_zero, List.set_cons_succ, List.getElem_toArray, List.getElem_cons_succ, List.getElem_cons_zero]
    refine wpAnyH_take (i := 13) (v := .pointer (some ⟨gh, 5, none⟩)) rfl (by kernel_rfl) (by kernel_rfl) (by kernel_rfl) (fun _ _ _ h => h) (Or.inl ⟨by kernel_rfl, ?_⟩) (by assumption) ?_
    · intro ww hSw
      clear hSw
      go_simp
      all_goals (try omega)
      all_goals (try rfl)
    try simp only [Act.put, List.setIfInBounds_toArray, List.set_cons_zero, List.set_cons_succ, List.getElem_toArray, List.getElem_cons_succ, List.getElem_cons_zero]
    refine wpAnyH_take (i := 14) (v := .int .u32 (x5 : Nat)) rfl (by kernel_rfl) (by kernel_rfl) (by kernel_rfl) (fun _ _ _ h => h) (Or.inl ⟨by kernel_rfl, ?_⟩) (by assumption) ?_
    · intro ww hSw
      have hcc : ww.cell? ⟨gh, 5, none⟩ = some (.int .u32 (x5 : Nat)) := by rw [Lib.cell_of_heap hSw.1]; rfl
      clear hSw
      go_simp
      try rfl
    try simp only [Act.put, List.setIfInBounds_toArray, List.set_cons_zero, List.set_cons_succ, List.getElem_toArray, List.getElem_cons_succ, List.getElem_cons_zero]
    refine wpAnyH_take (i := 15) (v := .pointer (some ⟨gh, 6, none⟩)) rfl (by kernel_rfl) (by kernel_rfl) (by kernel_rfl) (fun _ _ _ h => h) (Or.inl ⟨by kernel_rfl, ?_⟩) (by assumption) ?_
    · intro ww hSw
      clear hSw
      go_simp
      all_goals (try omega)
      all_goals (try rfl)
    try simp only [Act.put, List.setIfInBounds_toArray, List.set_cons_zero, List.set_cons_succ, List.getElem_toArray, List.getElem_cons_succ, List.getElem_cons_zero]
    refine wpAnyH_take (i := 16) (v := .int .u32 (x6 : Nat)) rfl (by kernel_rfl) (by kernel_rfl) (by kernel_rfl) (fun _ _ _ h => h) (Or.inl ⟨by kernel_rfl, ?_⟩) (by assumption) ?_
    · intro ww hSw
      have hcc : ww.cell? ⟨gh, 6, none⟩ = some (.int .u32 (x6 : Nat)) := by rw [Lib.cell_of_heap hSw.1]; rfl
      clear hSw
      go_simp
      try rfl
    try simp only [Act.put, List.setIfInBounds_toArray, List.set_cons_zero, List.set_cons_succ, List.getElem_toArray, List.getElem_cons_succ, List.getElem_cons_zero]
    refine wpAnyH_take (i := 20) (v := .string C) rfl (by kernel_rfl) (by kernel_rfl) (by kernel_rfl) (fun _ _ _ h => h) (Or.inl ⟨by kernel_rfl, ?_⟩) (by assumption) ?_
    · intro ww hSw
      clear hSw
      go_simp
      all_goals (try omega)
      all_goals (try rfl)
    try simp only [Act.put, List.setIfInBounds_toArray, List.set_cons_zero, List.set_cons_succ, List.getElem_toArray, List.getElem_cons_succ, List.getElem_cons_zero]
    refine wpAnyH_take (i := 22) (v := .pointer (some ⟨gh, 7, none⟩)) rfl (by kernel_rfl) (by kernel_rfl) (by kernel_rfl) (fun _ _ _ h => h) (Or.inl ⟨by kernel_rfl, ?_⟩) (by assumption) ?_
    · intro ww hSw
      clear hSw
      go_simp
      all_goals (try omega)
      all_goals (try rfl)
    try simp only [Act.put, List.setIfInBounds_toArray, List.set_cons_zero, List.set_cons_succ, List.getElem_toArray, List.getElem_cons_succ, List.getElem_cons_zero]
    refine wpAnyH_take (i := 23) (v := .string s7) rfl (by kernel_rfl) (by kernel_rfl) (by kernel_rfl) (fun _ _ _ h => h) (Or.inl ⟨by kernel_rfl, ?_⟩) (by assumption) ?_
    · intro ww hSw
      have hcc : ww.cell? ⟨gh, 7, none⟩ = some (.string s7) := by rw [Lib.cell_of_heap hSw.1]; rfl
      clear hSw
      go_simp
      try rfl
    try simp only [Act.put, List.setIfInBounds_toArray, List.set_cons_zero, List.set_cons_succ, List.getElem_toArray, List.getElem_cons_succ, List.getElem_cons_zero]
    refine wpAnyH_take (i := 25) (v := .pointer (some ⟨gh, 8, none⟩)) rfl (by kernel_rfl) (by kernel_rfl) (by kernel_rfl) (fun _ _ _ h => h) (Or.inl ⟨by kernel_rfl, ?_⟩) (by assumption) ?_
    · intro ww hSw
      clear hSw
      go_simp
      all_goals (try omega)
      all_goals (try rfl)
    try simp only [Act.put, List.setIfInBounds_toArray, List.set_cons_zero, List.set_cons_succ, List.getElem_toArray, List.getElem_cons_succ, List.getElem_cons_zero]
    refine wpAnyH_take (i := 26) (v := .string s8) rfl (by kernel_rfl) (by kernel_rfl) (by kernel_rfl) (fun _ _ _ h => h) (Or.inl ⟨by kernel_rfl, ?_⟩) (by assumption) ?_
    · intro ww hSw
      have hcc : ww.cell? ⟨gh, 8, none⟩ = some (.string s8) := by rw [Lib.cell_of_heap hSw.1]; rfl
      clear hSw
      go_simp
      try rfl
    try simp only [Act.put, List.setIfInBounds_toArray, List.set_cons_zero, List.set_cons_succ, List.getElem_toArray, List.getElem_cons_succ, List.getElem_cons_zero]
    refine dag_ind (St := Stt) (fun σ => ([4, 3, 3, 2, 2, 1, 0] : List Nat).getD σ.k 0) (fun σ => ([11, 10, 10, 9, 8, 7, 2] : List Nat).getD σ.k 0) (fun σ => ([#[true, true, true, true, true, true, false, false, false, true, true, true, true, true, true, true, true, false, false, false, true, false, true, true, false, true, true, false, false, false], #[true, true, true, true, true, true, true, false, false, true, true, true, true, true, true, true, true, false, false, false, true, false, true, true, false, true, true, false, false, false], #[true, true, true, true, true, true, false, false, false, true, true, true, true, true, true, true, true, true, false, false, true, false, true, true, false, true, true, false, false, false], #[true, true, true, true, true, true, true, false, false, true, true, true, true, true, true, true, true, true, false, false, true, false, true, true, false, true, true, false, false, false], #[true, true, true, true, true, true, true, true, true, true, true, true, true, true, true, true, true, false, false, false, true, false, true, true, false, true, true, false, false, false], #[true, true, true, true, true, true, true, true, true, true, true, true, true, true, true, true, true, true, false, false, true, false, true, true, false, true, true, false, false, false], #[true, true, true, true, true, true, true, true, true, true, true, true, true, true, true, true, true, true, true, true, true, true, true, true, true, true, true, true, false, false]] : List (Array Bool)).getD σ.k #[]) (fun σ => { tmps := ([#[.agg #[.int .u16 (x0 : Nat), .int .u16 (x1 : Nat), .int .u16 (x2 : Nat), .int .u32 (x3 : Nat), .int .u32 (x4 : Nat), .int .u32 (x5 : Nat), .int .u32 (x6 : Nat), .string s7, .string s8], .pointer (some ⟨gh, 0, none⟩), .string ⟨#[]⟩, .int .i64 0, .string C, .bool true, .tuple #[.string C, .bool true], .pointer (some ⟨gh, 7, none⟩), .string s7, .pointer (some ⟨gh, 8, none⟩), .string s8, .slice (some ⟨gl, 0, none⟩) 2 2, .tuple #[.string C, .bool true], .string C, .bool true, .bool true, .bool false, .pointer (some ⟨gh, 0, none⟩), .int .u16 (x0 : Nat), .pointer (some ⟨gh, 1, none⟩), .int .u16 (x1 : Nat), .pointer (some ⟨gh, 2, none⟩), .int .u16 (x2 : Nat), undef, undef, undef, .pointer (some ⟨gh, 3, none⟩), .int .u32 (x3 : Nat), .pointer (some ⟨gh, 4, none⟩), .int .u32 (x4 : Nat), .pointer (some ⟨gh, 5, none⟩), .int .u32 (x5 : Nat), .pointer (some ⟨gh, 6, none⟩), .int .u32 (x6 : Nat), undef, undef, undef, .string C, undef, .pointer (some ⟨gh, 7, none⟩), .string s7, undef, .pointer (some ⟨gh, 8, none⟩), .string s8, undef], #[.agg #[.int .u16 (x0 : Nat), .int .u16 (x1 : Nat), .int .u16 (x2 : Nat), .int .u32 (x3 : Nat), .int .u32 (x4 : Nat), .int .u32 (x5 : Nat), .int .u32 (x6 : Nat), .string s7, .string s8], .pointer (some ⟨gh, 0, none⟩), .string ⟨#[]⟩, .int .i64 0, .string C, .bool true, .tuple #[.string C, .bool true], .pointer (some ⟨gh, 7, none⟩), .string s7, .pointer (some ⟨gh, 8, none⟩), .string s8, .slice (some ⟨gl, 0, none⟩) 2 2, .tuple #[.string C, .bool true], .string C, .bool true, .bool true, .bool false, .pointer (some ⟨gh, 0, none⟩), .int .u16 (x0 : Nat), .pointer (some ⟨gh, 1, none⟩), .int .u16 (x1 : Nat), .pointer (some ⟨gh, 2, none⟩), .int .u16 (x2 : Nat), .slice (some ⟨σ.g1, 0, none⟩) 3 3, undef, undef, .pointer (some ⟨gh, 3, none⟩), .int .u32 (x3 : Nat), .pointer (some ⟨gh, 4, none⟩), .int .u32 (x4 : Nat), .pointer (some ⟨gh, 5, none⟩), .int .u32 (x5 : Nat), .pointer (some ⟨gh, 6, none⟩), .int .u32 (x6 : Nat), undef, undef, undef, .string C, undef, .pointer (some ⟨gh, 7, none⟩), .string s7, undef, .pointer (some ⟨gh, 8, none⟩), .string s8, undef], #[.agg #[.int .u16 (x0 : Nat), .int .u16 (x1 : Nat), .int .u16 (x2 : Nat), .int .u32 (x3 : Nat), .int .u32 (x4 : Nat), .int .u32 (x5 : Nat), .int .u32 (x6 : Nat), .string s7, .string s8], .pointer (some ⟨gh, 0, none⟩), .string ⟨#[]⟩, .int .i64 0, .string C, .bool true, .tuple #[.string C, .bool true], .pointer (some ⟨gh, 7, none⟩), .string s7, .pointer (some ⟨gh, 8, none⟩), .string s8, .slice (some ⟨gl, 0, none⟩) 2 2, .tuple #[.string C, .bool true], .string C, .bool true, .bool true, .bool false, .pointer (some ⟨gh, 0, none⟩), .int .u16 (x0 : Nat), .pointer (some ⟨gh, 1, none⟩), .int .u16 (x1 : Nat), .pointer (some ⟨gh, 2, none⟩), .int .u16 (x2 : Nat), undef, undef, undef, .pointer (some ⟨gh, 3, none⟩), .int .u32 (x3 : Nat), .pointer (some ⟨gh, 4, none⟩), .int .u32 (x4 : Nat), .pointer (some ⟨gh, 5, none⟩), .int .u32 (x5 : Nat), .pointer (some ⟨gh, 6, none⟩), .int .u32 (x6 : Nat), .slice (some ⟨σ.g2, 0, none⟩) 4 4, undef, undef, .string C, undef, .pointer (some ⟨gh, 7, none⟩), .string s7, undef, .pointer (some ⟨gh, 8, none⟩), .string s8, undef], #[.agg #[.int .u16 (x0 : Nat), .int .u16 (x1 : Nat), .int .u16 (x2 : Nat), .int .u32 (x3 : Nat), .int .u32 (x4 : Nat), .int .u32 (x5 : Nat), .int .u32 (x6 : Nat), .string s7, .string s8], .pointer (some ⟨gh, 0, none⟩), .string ⟨#[]⟩, .int .i64 0, .string C, .bool true, .tuple #[.string C, .bool true], .pointer (some ⟨gh, 7, none⟩), .string s7, .pointer (some ⟨gh, 8, none⟩), .string s8, .slice (some ⟨gl, 0, none⟩) 2 2, .tuple #[.string C, .bool true], .string C, .bool true, .bool true, .bool false, .pointer (some ⟨gh, 0, none⟩), .int .u16 (x0 : Nat), .pointer (some ⟨gh, 1, none⟩), .int .u16 (x1 : Nat), .pointer (some ⟨gh, 2, none⟩), .int .u16 (x2 : Nat), .slice (some ⟨σ.g1, 0, none⟩) 3 3, undef, undef, .pointer (some ⟨gh, 3, none⟩), .int .u32 (x3 : Nat), .pointer (some ⟨gh, 4, none⟩), .int .u32 (x4 : Nat), .pointer (some ⟨gh, 5, none⟩), .int .u32 (x5 : Nat), .pointer (some ⟨gh, 6, none⟩), .int .u32 (x6 : Nat), .slice (some ⟨σ.g2, 0, none⟩) 4 4, undef, undef, .string C, undef, .pointer (some ⟨gh, 7, none⟩), .string s7, undef, .pointer (some ⟨gh, 8, none⟩), .string s8, undef], #[.agg #[.int .u16 (x0 : Nat), .int .u16 (x1 : Nat), .int .u16 (x2 : Nat), .int .u32 (x3 : Nat), .int .u32 (x4 : Nat), .int .u32 (x5 : Nat), .int .u32 (x6 : Nat), .string s7, .string s8], .pointer (some ⟨gh, 0, none⟩), .string ⟨#[]⟩, .int .i64 0, .string C, .bool true, .tuple #[.string C, .bool true], .pointer (some ⟨gh, 7, none⟩), .string s7, .pointer (some ⟨gh, 8, none⟩), .string s8, .slice (some ⟨gl, 0, none⟩) 2 2, .tuple #[.string C, .bool true], .string C, .bool true, .bool true, .bool false, .pointer (some ⟨gh, 0, none⟩), .int .u16 (x0 : Nat), .pointer (some ⟨gh, 1, none⟩), .int .u16 (x1 : Nat), .pointer (some ⟨gh, 2, none⟩), .int .u16 (x2 : Nat), .slice (some ⟨σ.g1, 0, none⟩) 3 3, .string T1, .string ((⟨#[80, 75, 3, 4]⟩ : ByteArray) ++ T1), .pointer (some ⟨gh, 3, none⟩), .int .u32 (x3 : Nat), .pointer (some ⟨gh, 4, none⟩), .int .u32 (x4 : Nat), .pointer (some ⟨gh, 5, none⟩), .int .u32 (x5 : Nat), .pointer (some ⟨gh, 6, none⟩), .int .u32 (x6 : Nat), undef, undef, undef, .string C, undef, .pointer (some ⟨gh, 7, none⟩), .string s7, undef, .pointer (some ⟨gh, 8, none⟩), .string s8, undef], #[.agg #[.int .u16 (x0 : Nat), .int .u16 (x1 : Nat), .int .u16 (x2 : Nat), .int .u32 (x3 : Nat), .int .u32 (x4 : Nat), .int .u32 (x5 : Nat), .int .u32 (x6 : Nat), .string s7, .string s8], .pointer (some ⟨gh, 0, none⟩), .string ⟨#[]⟩, .int .i64 0, .string C, .bool true, .tuple #[.string C, .bool true], .pointer (some ⟨gh, 7, none⟩), .string s7, .pointer (some ⟨gh, 8, none⟩), .string s8, .slice (some ⟨gl, 0, none⟩) 2 2, .tuple #[.string C, .bool true], .string C, .bool true, .bool true, .bool false, .pointer (some ⟨gh, 0, none⟩), .int .u16 (x0 : Nat), .pointer (some ⟨gh, 1, none⟩), .int .u16 (x1 : Nat), .pointer (some ⟨gh, 2, none⟩), .int .u16 (x2 : Nat), .slice (some ⟨σ.g1, 0, none⟩) 3 3, .string T1, .string ((⟨#[80, 75, 3, 4]⟩ : ByteArray) ++ T1), .pointer (some ⟨gh, 3, none⟩), .int .u32 (x3 : Nat), .pointer (some ⟨gh, 4, none⟩), .int .u32 (x4 : Nat), .pointer (some ⟨gh, 5, none⟩), .int .u32 (x5 : Nat), .pointer (some ⟨gh, 6, none⟩), .int .u32 (x6 : Nat), .slice (some ⟨σ.g2, 0, none⟩) 4 4, undef, undef, .string C, undef, .pointer (some ⟨gh, 7, none⟩), .string s7, undef, .pointer (some ⟨gh, 8, none⟩), .string s8, undef], #[.agg #[.int .u16 (x0 : Nat), .int .u16 (x1 : Nat), .int .u16 (x2 : Nat), .int .u32 (x3 : Nat), .int .u32 (x4 : Nat), .int .u32 (x5 : Nat), .int .u32 (x6 : Nat), .string s7, .string s8], .pointer (some ⟨gh, 0, none⟩), .string ⟨#[]⟩, .int .i64 0, .string C, .bool true, .tuple #[.string C, .bool true], .pointer (some ⟨gh, 7, none⟩), .string s7, .pointer (some ⟨gh, 8, none⟩), .string s8, .slice (some ⟨gl, 0, none⟩) 2 2, .tuple #[.string C, .bool true], .string C, .bool true, .bool true, .bool false, .pointer (some ⟨gh, 0, none⟩), .int .u16 (x0 : Nat), .pointer (some ⟨gh, 1, none⟩), .int .u16 (x1 : Nat), .pointer (some ⟨gh, 2, none⟩), .int .u16 (x2 : Nat), .slice (some ⟨σ.g1, 0, none⟩) 3 3, .string T1, .string ((⟨#[80, 75, 3, 4]⟩ : ByteArray) ++ T1), .pointer (some ⟨gh, 3, none⟩), .int .u32 (x3 : Nat), .pointer (some ⟨gh, 4, none⟩), .int .u32 (x4 : Nat), .pointer (some ⟨gh, 5, none⟩), .int .u32 (x5 : Nat), .pointer (some ⟨gh, 6, none⟩), .int .u32 (x6 : Nat), .slice (some ⟨σ.g2, 0, none⟩) 4 4, .string T2, .string (((⟨#[80, 75, 3, 4]⟩ : ByteArray) ++ T1) ++ T2), .string C, .string ((((⟨#[80, 75, 3, 4]⟩ : ByteArray) ++ T1) ++ T2) ++ C), .pointer (some ⟨gh, 7, none⟩), .string s7, .string (((((⟨#[80, 75, 3, 4]⟩ : ByteArray) ++ T1) ++ T2) ++ C) ++ s7), .pointer (some ⟨gh, 8, none⟩), .string s8, .string ((((((⟨#[80, 75, 3, 4]⟩ : ByteArray) ++ T1) ++ T2) ++ C) ++ s7) ++ s8)]] : List (Array Value)).getD σ.k #[], defers := [] }) (fun σ wv => (fun ww => ww.heap[gh]? = some (.cells #[.int .u16 (x0 : Nat), .int .u16 (x1 : Nat), .int .u16 (x2 : Nat), .int .u32 (x3 : Nat), .int .u32 (x4 : Nat), .int .u32 (x5 : Nat), .int .u32 (x6 : Nat), .string s7, .string s8] 26 (0, 0)) ∧ Below gh w ww) wv ∧ σ.k < 7 ∧ (([1, 3] : List Nat).contains σ.k = true → RdI wv .u16 (some ⟨σ.g1, 0, none⟩) [x0, x1, x2]) ∧ (([2, 3, 5] : List Nat).contains σ.k = true → RdI wv .u32 (some ⟨σ.g2, 0, none⟩) [x3, x4, x5, x6])) ?_ ⟨0, 0, 0, 0, 0⟩ _ ⟨hS0, (show (0 : Nat) < 7 by decide), fun h => absurd (show false = true from h) (by decide), fun h => absurd (show false = true from h) (by decide)⟩
    clear hS0
    rintro ⟨k, g1, g2, g3, g4⟩ w1 ⟨hS1, hk, hr1, hr2⟩ IH
    have hkk : k = 0 ∨ k = 1 ∨ k = 2 ∨ k = 3 ∨ k = 4 ∨ k = 5 ∨ k = 6 := by have hk' : k < 7 := hk; omega
    rcases hkk with rfl | rfl | rfl | rfl | rfl | rfl | rfl
    · show wpAnyH _ _ _ _ _ 11 #[true, true, true, true, true, true, false, false, false, true, true, true, true, true, true, true, true, false, false, false, true, false, true, true, false, true, true, false, false, false] { tmps := #[.agg #[.int .u16 (x0 : Nat), .int .u16 (x1 : Nat), .int .u16 (x2 : Nat), .int .u32 (x3 : Nat), .int .u32 (x4 : Nat), .int .u32 (x5 : Nat), .int .u32 (x6 : Nat), .string s7, .string s8], .pointer (some ⟨gh, 0, none⟩), .string ⟨#[]⟩, .int .i64 0, .string C, .bool true, .tuple #[.string C, .bool true], .pointer (some ⟨gh, 7, none⟩), .string s7, .pointer (some ⟨gh, 8, none⟩), .string s8, .slice (some ⟨gl, 0, none⟩) 2 2, .tuple #[.string C, .bool true], .string C, .bool true, .bool true, .bool false, .pointer (some ⟨gh, 0, none⟩), .int .u16 (x0 : Nat), .pointer (some ⟨gh, 1, none⟩), .int .u16 (x1 : Nat), .pointer (some ⟨gh, 2, none⟩), .int .u16 (x2 : Nat), undef, undef, undef, .pointer (some ⟨gh, 3, none⟩), .int .u32 (x3 : Nat), .pointer (some ⟨gh, 4, none⟩), .int .u32 (x4 : Nat), .pointer (some ⟨gh, 5, none⟩), .int .u32 (x5 : Nat), .pointer (some ⟨gh, 6, none⟩), .int .u32 (x6 : Nat), undef, undef, undef, .string C, undef, .pointer (some ⟨gh, 7, none⟩), .string s7, undef, .pointer (some ⟨gh, 8, none⟩), .string s8, undef], defers := [] } w1
      refine wpAnyH_ready (rs := [6, 17]) (by kernel_rfl) (by simp) ?_
      refine AllReadyH.cons rfl (fun K hK => ?_) (AllReadyH.cons rfl (fun K hK => ?_) (AllReadyH.nil))
      · go_simp
        have HBX : Below w1.heap.size w1 (w1.alloc (.cells #[.int .u16 (x0 : Nat), .int .u16 (x1 : Nat), .int .u16 (x2 : Nat)] 23)) := (Below.refl _ _).alloc (Nat.le_refl _) _
        refine hK.out _ _ ⟨(HBX.block _ (lt_of_some hS1.1)).trans hS1.1, hS1.2.trans (HBX.mono (Nat.le_of_lt (lt_of_some hS1.1)))⟩ (fun hS2 => ?_)
        try simp only [Act.put, List.setIfInBounds_toArray, List.set_cons_zero, List.set_cons_succ, List.getElem_toArray, List.getElem_cons_succ, List.getElem_cons_zero]
        exact IH ⟨1, w1.heap.size, g2, 0, 0⟩ _ (show (3 : Nat) < 4 by decide) ⟨hS2, (show (1 : Nat) < 7 by decide), fun _ => RdI.of_heap (heap_alloc_new w1 (.cells #[.int .u16 (x0 : Nat), .int .u16 (x1 : Nat), .int .u16 (x2 : Nat)] 23)) rfl, fun h => absurd (show false = true from h) (by decide)⟩
      · go_simp
        have HBX : Below w1.heap.size w1 (w1.alloc (.cells #[.int .u32 (x3 : Nat), .int .u32 (x4 : Nat), .int .u32 (x5 : Nat), .int .u32 (x6 : Nat)] 24)) := (Below.refl _ _).alloc (Nat.le_refl _) _
        refine hK.out _ _ ⟨(HBX.block _ (lt_of_some hS1.1)).trans hS1.1, hS1.2.trans (HBX.mono (Nat.le_of_lt (lt_of_some hS1.1)))⟩ (fun hS2 => ?_)
        try simp only [Act.put, List.setIfInBounds_toArray, List.set_cons_zero, List.set_cons_succ, List.getElem_toArray, List.getElem_cons_succ, List.getElem_cons_zero]
        exact IH ⟨2, g1, w1.heap.size, 0, 0⟩ _ (show (3 : Nat) < 4 by decide) ⟨hS2, (show (2 : Nat) < 7 by decide), fun h => absurd (show false = true from h) (by decide), fun _ => RdI.of_heap (heap_alloc_new w1 (.cells #[.int .u32 (x3 : Nat), .int .u32 (x4 : Nat), .int .u32 (x5 : Nat), .int .u32 (x6 : Nat)] 24)) rfl⟩
    · show wpAnyH _ _ _ _ _ 10 #[true, true, true, true, true, true, true, false, false, true, true, true, true, true, true, true, true, false, false, false, true, false, true, true, false, true, true, false, false, false] { tmps := #[.agg #[.int .u16 (x0 : Nat), .int .u16 (x1 : Nat), .int .u16 (x2 : Nat), .int .u32 (x3 : Nat), .int .u32 (x4 : Nat), .int .u32 (x5 : Nat), .int .u32 (x6 : Nat), .string s7, .string s8], .pointer (some ⟨gh, 0, none⟩), .string ⟨#[]⟩, .int .i64 0, .string C, .bool true, .tuple #[.string C, .bool true], .pointer (some ⟨gh, 7, none⟩), .string s7, .pointer (some ⟨gh, 8, none⟩), .string s8, .slice (some ⟨gl, 0, none⟩) 2 2, .tuple #[.string C, .bool true], .string C, .bool true, .bool true, .bool false, .pointer (some ⟨gh, 0, none⟩), .int .u16 (x0 : Nat), .pointer (some ⟨gh, 1, none⟩), .int .u16 (x1 : Nat), .pointer (some ⟨gh, 2, none⟩), .int .u16 (x2 : Nat), .slice (some ⟨g1, 0, none⟩) 3 3, undef, undef, .pointer (some ⟨gh, 3, none⟩), .int .u32 (x3 : Nat), .pointer (some ⟨gh, 4, none⟩), .int .u32 (x4 : Nat), .pointer (some ⟨gh, 5, none⟩), .int .u32 (x5 : Nat), .pointer (some ⟨gh, 6, none⟩), .int .u32 (x6 : Nat), undef, undef, undef, .string C, undef, .pointer (some ⟨gh, 7, none⟩), .string s7, undef, .pointer (some ⟨gh, 8, none⟩), .string s8, undef], defers := [] } w1
      refine wpAnyH_ready (rs := [7, 17]) (by kernel_rfl) (by simp) ?_
      refine AllReadyH.cons rfl (fun K hK => ?_) (AllReadyH.cons rfl (fun K hK => ?_) (AllReadyH.nil))
      · go_simp
        refine (HC1.out g1 w1 (hr1 rfl)).mono ?_
        rintro e w2 ⟨rfl, HBX⟩
        refine hK.out _ _ ⟨(HBX.block _ (lt_of_some hS1.1)).trans hS1.1, hS1.2.trans (HBX.mono (Nat.le_of_lt (lt_of_some hS1.1)))⟩ (fun hS2 => ?_)
        clear hK K
        try simp only [Act.put, List.setIfInBounds_toArray, List.set_cons_zero, List.set_cons_succ, List.getElem_toArray, List.getElem_cons_succ, List.getElem_cons_zero]
        refine wpAnyH_take (i := 8) (v := .string ((⟨#[80, 75, 3, 4]⟩ : ByteArray) ++ T1)) rfl (by kernel_rfl) (by kernel_rfl) (by kernel_rfl) (fun _ _ _ h => h) (Or.inl ⟨by kernel_rfl, ?_⟩) (by assumption) ?_
        · intro ww hSw
          clear hSw
          go_simp
          all_goals (try omega)
          all_goals (try rfl)
        try simp only [Act.put, List.setIfInBounds_toArray, List.set_cons_zero, List.set_cons_succ, List.getElem_toArray, List.getElem_cons_succ, List.getElem_cons_zero]
        exact IH ⟨4, g1, g2, 0, 0⟩ _ (show (2 : Nat) < 3 by decide) ⟨hS2, (show (4 : Nat) < 7 by decide), fun h => absurd (show false = true from h) (by decide), fun h => absurd (show false = true from h) (by decide)⟩
      · go_simp
        have HBX : Below w1.heap.size w1 (w1.alloc (.cells #[.int .u32 (x3 : Nat), .int .u32 (x4 : Nat), .int .u32 (x5 : Nat), .int .u32 (x6 : Nat)] 24)) := (Below.refl _ _).alloc (Nat.le_refl _) _
        refine hK.out _ _ ⟨(HBX.block _ (lt_of_some hS1.1)).trans hS1.1, hS1.2.trans (HBX.mono (Nat.le_of_lt (lt_of_some hS1.1)))⟩ (fun hS2 => ?_)
        try simp only [Act.put, List.setIfInBounds_toArray, List.set_cons_zero, List.set_cons_succ, List.getElem_toArray, List.getElem_cons_succ, List.getElem_cons_zero]
        exact IH ⟨3, g1, w1.heap.size, 0, 0⟩ _ (show (2 : Nat) < 3 by decide) ⟨hS2, (show (3 : Nat) < 7 by decide), fun _ => (hr1 rfl).below HBX, fun _ => RdI.of_heap (heap_alloc_new w1 (.cells #[.int .u32 (x3 : Nat), .int .u32 (x4 : Nat), .int .u32 (x5 : Nat), .int .u32 (x6 : Nat)] 24)) rfl⟩
    · show wpAnyH _ _ _ _ _ 10 #[true, true, true, true, true, true, false, false, false, true, true, true, true, true, true, true, true, true, false, false, true, false, true, true, false, true, true, false, false, false] { tmps := #[.agg #[.int .u16 (x0 : Nat), .int .u16 (x1 : Nat), .int .u16 (x2 : Nat), .int .u32 (x3 : Nat), .int .u32 (x4 : Nat), .int .u32 (x5 : Nat), .int .u32 (x6 : Nat), .string s7, .string s8], .pointer (some ⟨gh, 0, none⟩), .string ⟨#[]⟩, .int .i64 0, .string C, .bool true, .tuple #[.string C, .bool true], .pointer (some ⟨gh, 7, none⟩), .string s7, .pointer (some ⟨gh, 8, none⟩), .string s8, .slice (some ⟨gl, 0, none⟩) 2 2, .tuple #[.string C, .bool true], .string C, .bool true, .bool true, .bool false, .pointer (some ⟨gh, 0, none⟩), .int .u16 (x0 : Nat), .pointer (some ⟨gh, 1, none⟩), .int .u16 (x1 : Nat), .pointer (some ⟨gh, 2, none⟩), .int .u16 (x2 : Nat), undef, undef, undef, .pointer (some ⟨gh, 3, none⟩), .int .u32 (x3 : Nat), .pointer (some ⟨gh, 4, none⟩), .int .u32 (x4 : Nat), .pointer (some ⟨gh, 5, none⟩), .int .u32 (x5 : Nat), .pointer (some ⟨gh, 6, none⟩), .int .u32 (x6 : Nat), .slice (some ⟨g2, 0, none⟩) 4 4, undef, undef, .string C, undef, .pointer (some ⟨gh, 7, none⟩), .string s7, undef, .pointer (some ⟨gh, 8, none⟩), .string s8, undef], defers := [] } w1
      refine wpAnyH_ready (rs := [6]) (by kernel_rfl) (by simp) ?_
      refine AllReadyH.cons rfl (fun K hK => ?_) (AllReadyH.nil)
      · go_simp
        have HBX : Below w1.heap.size w1 (w1.alloc (.cells #[.int .u16 (x0 : Nat), .int .u16 (x1 : Nat), .int .u16 (x2 : Nat)] 23)) := (Below.refl _ _).alloc (Nat.le_refl _) _
        refine hK.out _ _ ⟨(HBX.block _ (lt_of_some hS1.1)).trans hS1.1, hS1.2.trans (HBX.mono (Nat.le_of_lt (lt_of_some hS1.1)))⟩ (fun hS2 => ?_)
        try simp only [Act.put, List.setIfInBounds_toArray, List.set_cons_zero, List.set_cons_succ, List.getElem_toArray, List.getElem_cons_succ, List.getElem_cons_zero]
        exact IH ⟨3, w1.heap.size, g2, 0, 0⟩ _ (show (2 : Nat) < 3 by decide) ⟨hS2, (show (3 : Nat) < 7 by decide), fun _ => RdI.of_heap (heap_alloc_new w1 (.cells #[.int .u16 (x0 : Nat), .int .u16 (x1 : Nat), .int .u16 (x2 : Nat)] 23)) rfl, fun _ => (hr2 rfl).below HBX⟩
    · show wpAnyH _ _ _ _ _ 9 #[true, true, true, true, true, true, true, false, false, true, true, true, true, true, true, true, true, true, false, false, true, false, true, true, false, true, true, false, false, false] { tmps := #[.agg #[.int .u16 (x0 : Nat), .int .u16 (x1 : Nat), .int .u16 (x2 : Nat), .int .u32 (x3 : Nat), .int .u32 (x4 : Nat), .int .u32 (x5 : Nat), .int .u32 (x6 : Nat), .string s7, .string s8], .pointer (some ⟨gh, 0, none⟩), .string ⟨#[]⟩, .int .i64 0, .string C, .bool true, .tuple #[.string C, .bool true], .pointer (some ⟨gh, 7, none⟩), .string s7, .pointer (some ⟨gh, 8, none⟩), .string s8, .slice (some ⟨gl, 0, none⟩) 2 2, .tuple #[.string C, .bool true], .string C, .bool true, .bool true, .bool false, .pointer (some ⟨gh, 0, none⟩), .int .u16 (x0 : Nat), .pointer (some ⟨gh, 1, none⟩), .int .u16 (x1 : Nat), .pointer (some ⟨gh, 2, none⟩), .int .u16 (x2 : Nat), .slice (some ⟨g1, 0, none⟩) 3 3, undef, undef, .pointer (some ⟨gh, 3, none⟩), .int .u32 (x3 : Nat), .pointer (some ⟨gh, 4, none⟩), .int .u32 (x4 : Nat), .pointer (some ⟨gh, 5, none⟩), .int .u32 (x5 : Nat), .pointer (some ⟨gh, 6, none⟩), .int .u32 (x6 : Nat), .slice (some ⟨g2, 0, none⟩) 4 4, undef, undef, .string C, undef, .pointer (some ⟨gh, 7, none⟩), .string s7, undef, .pointer (some ⟨gh, 8, none⟩), .string s8, undef], defers := [] } w1
      refine wpAnyH_ready (rs := [7]) (by kernel_rfl) (by simp) ?_
      refine AllReadyH.cons rfl (fun K hK => ?_) (AllReadyH.nil)
      · go_simp
        refine (HC1.out g1 w1 (hr1 rfl)).mono ?_
        rintro e w2 ⟨rfl, HBX⟩
        refine hK.out _ _ ⟨(HBX.block _ (lt_of_some hS1.1)).trans hS1.1, hS1.2.trans (HBX.mono (Nat.le_of_lt (lt_of_some hS1.1)))⟩ (fun hS2 => ?_)
        clear hK K
        try simp only [Act.put, List.setIfInBounds_toArray, List.set_cons_zero, List.set_cons_succ, List.getElem_toArray, List.getElem_cons_succ, List.getElem_cons_zero]
        refine wpAnyH_take (i := 8) (v := .string ((⟨#[80, 75, 3, 4]⟩ : ByteArray) ++ T1)) rfl (by kernel_rfl) (by kernel_rfl) (by kernel_rfl) (fun _ _ _ h => h) (Or.inl ⟨by kernel_rfl, ?_⟩) (by assumption) ?_
        · intro ww hSw
          clear hSw
          go_simp
          all_goals (try omega)
          all_goals (try rfl)
        try simp only [Act.put, List.setIfInBounds_toArray, List.set_cons_zero, List.set_cons_succ, List.getElem_toArray, List.getElem_cons_succ, List.getElem_cons_zero]
        exact IH ⟨5, g1, g2, 0, 0⟩ _ (show (1 : Nat) < 2 by decide) ⟨hS2, (show (5 : Nat) < 7 by decide), fun h => absurd (show false = true from h) (by decide), fun _ => (hr2 rfl).below HBX⟩
    · show wpAnyH _ _ _ _ _ 8 #[true, true, true, true, true, true, true, true, true, true, true, true, true, true, true, true, true, false, false, false, true, false, true, true, false, true, true, false, false, false] { tmps := #[.agg #[.int .u16 (x0 : Nat), .int .u16 (x1 : Nat), .int .u16 (x2 : Nat), .int .u32 (x3 : Nat), .int .u32 (x4 : Nat), .int .u32 (x5 : Nat), .int .u32 (x6 : Nat), .string s7, .string s8], .pointer (some ⟨gh, 0, none⟩), .string ⟨#[]⟩, .int .i64 0, .string C, .bool true, .tuple #[.string C, .bool true], .pointer (some ⟨gh, 7, none⟩), .string s7, .pointer (some ⟨gh, 8, none⟩), .string s8, .slice (some ⟨gl, 0, none⟩) 2 2, .tuple #[.string C, .bool true], .string C, .bool true, .bool true, .bool false, .pointer (some ⟨gh, 0, none⟩), .int .u16 (x0 : Nat), .pointer (some ⟨gh, 1, none⟩), .int .u16 (x1 : Nat), .pointer (some ⟨gh, 2, none⟩), .int .u16 (x2 : Nat), .slice (some ⟨g1, 0, none⟩) 3 3, .string T1, .string ((⟨#[80, 75, 3, 4]⟩ : ByteArray) ++ T1), .pointer (some ⟨gh, 3, none⟩), .int .u32 (x3 : Nat), .pointer (some ⟨gh, 4, none⟩), .int .u32 (x4 : Nat), .pointer (some ⟨gh, 5, none⟩), .int .u32 (x5 : Nat), .pointer (some ⟨gh, 6, none⟩), .int .u32 (x6 : Nat), undef, undef, undef, .string C, undef, .pointer (some ⟨gh, 7, none⟩), .string s7, undef, .pointer (some ⟨gh, 8, none⟩), .string s8, undef], defers := [] } w1
      refine wpAnyH_ready (rs := [17]) (by kernel_rfl) (by simp) ?_
      refine AllReadyH.cons rfl (fun K hK => ?_) (AllReadyH.nil)
      · go_simp
        have HBX : Below w1.heap.size w1 (w1.alloc (.cells #[.int .u32 (x3 : Nat), .int .u32 (x4 : Nat), .int .u32 (x5 : Nat), .int .u32 (x6 : Nat)] 24)) := (Below.refl _ _).alloc (Nat.le_refl _) _
        refine hK.out _ _ ⟨(HBX.block _ (lt_of_some hS1.1)).trans hS1.1, hS1.2.trans (HBX.mono (Nat.le_of_lt (lt_of_some hS1.1)))⟩ (fun hS2 => ?_)
        try simp only [Act.put, List.setIfInBounds_toArray, List.set_cons_zero, List.set_cons_succ, List.getElem_toArray, List.getElem_cons_succ, List.getElem_cons_zero]
        exact IH ⟨5, g1, w1.heap.size, 0, 0⟩ _ (show (1 : Nat) < 2 by decide) ⟨hS2, (show (5 : Nat) < 7 by decide), fun h => absurd (show false = true from h) (by decide), fun _ => RdI.of_heap (heap_alloc_new w1 (.cells #[.int .u32 (x3 : Nat), .int .u32 (x4 : Nat), .int .u32 (x5 : Nat), .int .u32 (x6 : Nat)] 24)) rfl⟩
    · show wpAnyH _ _ _ _ _ 7 #[true, true, true, true, true, true, true, true, true, true, true, true, true, true, true, true, true, true, false, false, true, false, true, true, false, true, true, false, false, false] { tmps := #[.agg #[.int .u16 (x0 : Nat), .int .u16 (x1 : Nat), .int .u16 (x2 : Nat), .int .u32 (x3 : Nat), .int .u32 (x4 : Nat), .int .u32 (x5 : Nat), .int .u32 (x6 : Nat), .string s7, .string s8], .pointer (some ⟨gh, 0, none⟩), .string ⟨#[]⟩, .int .i64 0, .string C, .bool true, .tuple #[.string C, .bool true], .pointer (some ⟨gh, 7, none⟩), .string s7, .pointer (some ⟨gh, 8, none⟩), .string s8, .slice (some ⟨gl, 0, none⟩) 2 2, .tuple #[.string C, .bool true], .string C, .bool true, .bool true, .bool false, .pointer (some ⟨gh, 0, none⟩), .int .u16 (x0 : Nat), .pointer (some ⟨gh, 1, none⟩), .int .u16 (x1 : Nat), .pointer (some ⟨gh, 2, none⟩), .int .u16 (x2 : Nat), .slice (some ⟨g1, 0, none⟩) 3 3, .string T1, .string ((⟨#[80, 75, 3, 4]⟩ : ByteArray) ++ T1), .pointer (some ⟨gh, 3, none⟩), .int .u32 (x3 : Nat), .pointer (some ⟨gh, 4, none⟩), .int .u32 (x4 : Nat), .pointer (some ⟨gh, 5, none⟩), .int .u32 (x5 : Nat), .pointer (some ⟨gh, 6, none⟩), .int .u32 (x6 : Nat), .slice (some ⟨g2, 0, none⟩) 4 4, undef, undef, .string C, undef, .pointer (some ⟨gh, 7, none⟩), .string s7, undef, .pointer (some ⟨gh, 8, none⟩), .string s8, undef], defers := [] } w1
      refine wpAnyH_ready (rs := [18]) (by kernel_rfl) (by simp) ?_
      refine AllReadyH.cons rfl (fun K hK => ?_) (AllReadyH.nil)
      · go_simp
        refine (HC2.out g2 w1 (hr2 rfl)).mono ?_
        rintro e w2 ⟨rfl, HBX⟩
        refine hK.out _ _ ⟨(HBX.block _ (lt_of_some hS1.1)).trans hS1.1, hS1.2.trans (HBX.mono (Nat.le_of_lt (lt_of_some hS1.1)))⟩ (fun hS2 => ?_)
        clear hK K
        try simp only [Act.put, List.setIfInBounds_toArray, List.set_cons_zero, List.set_cons_succ, List.getElem_toArray, List.getElem_cons_succ, List.getElem_cons_zero]
        refine wpAnyH_take (i := 19) (v := .string (((⟨#[80, 75, 3, 4]⟩ : ByteArray) ++ T1) ++ T2)) rfl (by kernel_rfl) (by kernel_rfl) (by kernel_rfl) (fun _ _ _ h => h) (Or.inl ⟨by kernel_rfl, ?_⟩) (by assumption) ?_
        · intro ww hSw
          clear hSw
          go_simp
          all_goals (try omega)
          all_goals (try rfl)
        try simp only [Act.put, List.setIfInBounds_toArray, List.set_cons_zero, List.set_cons_succ, List.getElem_toArray, List.getElem_cons_succ, List.getElem_cons_zero]
        refine wpAnyH_take (i := 21) (v := .string ((((⟨#[80, 75, 3, 4]⟩ : ByteArray) ++ T1) ++ T2) ++ C)) rfl (by kernel_rfl) (by kernel_rfl) (by kernel_rfl) (fun _ _ _ h => h) (Or.inl ⟨by kernel_rfl, ?_⟩) (by assumption) ?_
        · intro ww hSw
          clear hSw
          go_simp
          all_goals (try omega)
          all_goals (try rfl)
        try simp only [Act.put, List.setIfInBounds_toArray, List.set_cons_zero, List.set_cons_succ, List.getElem_toArray, List.getElem_cons_succ, List.getElem_cons_zero]
        refine wpAnyH_take (i := 24) (v := .string (((((⟨#[80, 75, 3, 4]⟩ : ByteArray) ++ T1) ++ T2) ++ C) ++ s7)) rfl (by kernel_rfl) (by kernel_rfl) (by kernel_rfl) (fun _ _ _ h => h) (Or.inl ⟨by kernel_rfl, ?_⟩) (by assumption) ?_
        · intro ww hSw
          clear hSw
          go_simp
          all_goals (try omega)
          all_goals (try rfl)
        try simp only [Act.put, List.setIfInBounds_toArray, List.set_cons_zero, List.set_cons_succ, List.getElem_toArray, List.getElem_cons_succ, List.getElem_cons_zero]
        refine wpAnyH_take (i := 27) (v := .string ((((((⟨#[80, 75, 3, 4]⟩ : ByteArray) ++ T1) ++ T2) ++ C) ++ s7) ++ s8)) rfl (by kernel_rfl) (by kernel_rfl) (by kernel_rfl) (fun _ _ _ h => h) (Or.inl ⟨by kernel_rfl, ?_⟩) (by assumption) ?_
        · intro ww hSw
          clear hSw
          go_simp
          all_goals (try omega)
          all_goals (try rfl)
        try simp only [Act.put, List.setIfInBounds_toArray, List.set_cons_zero, List.set_cons_succ, List.getElem_toArray, List.getElem_cons_succ, List.getElem_cons_zero]
        exact IH ⟨6, g1, g2, 0, 0⟩ _ (show (0 : Nat) < 1 by decide) ⟨hS2, (show (6 : Nat) < 7 by decide), fun h => absurd (show false = true from h) (by decide), fun h => absurd (show false = true from h) (by decide)⟩
    · show wpAnyH _ _ _ _ _ 2 #[true, true, true, true, true, true, true, true, true, true, true, true, true, true, true, true, true, true, true, true, true, true, true, true, true, true, true, true, false, false] { tmps := #[.agg #[.int .u16 (x0 : Nat), .int .u16 (x1 : Nat), .int .u16 (x2 : Nat), .int .u32 (x3 : Nat), .int .u32 (x4 : Nat), .int .u32 (x5 : Nat), .int .u32 (x6 : Nat), .string s7, .string s8], .pointer (some ⟨gh, 0, none⟩), .string ⟨#[]⟩, .int .i64 0, .string C, .bool true, .tuple #[.string C, .bool true], .pointer (some ⟨gh, 7, none⟩), .string s7, .pointer (some ⟨gh, 8, none⟩), .string s8, .slice (some ⟨gl, 0, none⟩) 2 2, .tuple #[.string C, .bool true], .string C, .bool true, .bool true, .bool false, .pointer (some ⟨gh, 0, none⟩), .int .u16 (x0 : Nat), .pointer (some ⟨gh, 1, none⟩), .int .u16 (x1 : Nat), .pointer (some ⟨gh, 2, none⟩), .int .u16 (x2 : Nat), .slice (some ⟨g1, 0, none⟩) 3 3, .string T1, .string ((⟨#[80, 75, 3, 4]⟩ : ByteArray) ++ T1), .pointer (some ⟨gh, 3, none⟩), .int .u32 (x3 : Nat), .pointer (some ⟨gh, 4, none⟩), .int .u32 (x4 : Nat), .pointer (some ⟨gh, 5, none⟩), .int .u32 (x5 : Nat), .pointer (some ⟨gh, 6, none⟩), .int .u32 (x6 : Nat), .slice (some ⟨g2, 0, none⟩) 4 4, .string T2, .string (((⟨#[80, 75, 3, 4]⟩ : ByteArray) ++ T1) ++ T2), .string C, .string ((((⟨#[80, 75, 3, 4]⟩ : ByteArray) ++ T1) ++ T2) ++ C), .pointer (some ⟨gh, 7, none⟩), .string s7, .string (((((⟨#[80, 75, 3, 4]⟩ : ByteArray) ++ T1) ++ T2) ++ C) ++ s7), .pointer (some ⟨gh, 8, none⟩), .string s8, .string ((((((⟨#[80, 75, 3, 4]⟩ : ByteArray) ++ T1) ++ T2) ++ C) ++ s7) ++ s8)], defers := [] } w1
      refine wpAnyH_take (i := 28) (v := .string ((((((⟨#[80, 75, 3, 4]⟩ : ByteArray) ++ T1) ++ T2) ++ C) ++ s7) ++ s8)) rfl (by kernel_rfl) (by kernel_rfl) (by kernel_rfl) (fun _ _ _ h => h) (Or.inl ⟨by kernel_rfl, ?_⟩) (by assumption) ?_
      · intro ww hSw
        clear hSw
        go_simp
        all_goals (try omega)
        all_goals (try rfl)
      try simp only [Act.put, List.setIfInBounds_toArray, List.set_cons_zero, List.set_cons_succ, List.getElem_toArray, List.getElem_cons_succ, List.getElem_cons_zero]
      refine wpAnyH_take (i := 29) (v := .int .i64 0) rfl (by kernel_rfl) (by kernel_rfl) (by kernel_rfl) (fun _ _ _ h => h) (Or.inl ⟨by kernel_rfl, ?_⟩) (by assumption) ?_
      · intro ww hSw
        clear hSw
        go_simp
        all_goals (try omega)
        all_goals (try rfl)
      try simp only [Act.put, List.setIfInBounds_toArray, List.set_cons_zero, List.set_cons_succ, List.getElem_toArray, List.getElem_cons_succ, List.getElem_cons_zero]
      refine wpAnyH_done (by kernel_rfl) ?_ _
      obtain ⟨_, hfin⟩ := hS1
      have HFIN := Lib.hid hfin
      clear hfin IH
      go_wp2_with fail
      go_ret2
      rw [HANS.out]
      exact ⟨rfl, by rw [HGH.out]; exact HFIN.out⟩
  · have HANS : Hid (prL x0 x1 x2 x3 x4 x5 x6 s7 s8 = .tuple #[.string ⟨#[]⟩, .int .i64 5]) := if_neg hfit
    rw [show lenV [s7, s8] = .tuple #[.string ⟨#[]⟩, .bool false] from if_neg hfit]
    go_wp2_with fail
    go_ret2
    rw [HANS.out]
    exact ⟨rfl, HB.out⟩
end Go.Proofs.Ytklmfncljebgnaa
