/-
  Contracts of package tail: printWide.
-/
import Derived.Deep.CutRange
import Derived.Test.YtlojhklhhdgkcaaTlB
import Derived.Test.YtlojhklhhdgkcaaHdI
namespace Go.Proofs.Ytlojhklhhdgkcaa
set_option maxRecDepth 100000
set_option linter.unusedSimpArgs false
set_option linter.unusedVariables false
open Go.RowKit Go.Joins Go.Deep Go.Op
set_option maxHeartbeats 40000000 in
theorem printWide_any (at0 : Int) (n z o : Nat) (hn : n < 18446744073709551616) (hz : z < 18446744073709551616) (ho : o < 18446744073709551616) (c : ByteArray) (wd : Bool) (w : World) :
    Calls Try.prog 8 #[.agg #[.int .i64 at0, .int .u64 (n : Nat), .int .u64 (z : Nat), .int .u64 (o : Nat), .string c, .bool wd]] w fun e w' => e = .returned (.string (wideT n z o)) ∧ Below w.heap.size w w' := by
  have hh0 : (w.alloc (.cells #[.int .i64 at0, .int .u64 (n : Nat), .int .u64 (z : Nat), .int .u64 (o : Nat), .string c, .bool wd] 29)).heap[w.heap.size]? = some (.cells #[.int .i64 at0, .int .u64 (n : Nat), .int .u64 (z : Nat), .int .u64 (o : Nat), .string c, .bool wd] 29 (0, 0)) := heap_alloc_new _ _
  have HH0 := Lib.hid hh0
  have HB0 : Hid (Below w.heap.size w (w.alloc (.cells #[.int .i64 at0, .int .u64 (n : Nat), .int .u64 (z : Nat), .int .u64 (o : Nat), .string c, .bool wd] 29))) := (Below.refl _ _).alloc (Nat.le_refl _) _
  have k2 : (w.alloc (.cells #[.int .i64 at0, .int .u64 (n : Nat), .int .u64 (z : Nat), .int .u64 (o : Nat), .string c, .bool wd] 29)).cell? ⟨w.heap.size, 2, none⟩ = some (.int .u64 (z : Nat)) := by rw [Lib.cell_of_heap hh0]; rfl
  have k3 : (w.alloc (.cells #[.int .i64 at0, .int .u64 (n : Nat), .int .u64 (z : Nat), .int .u64 (o : Nat), .string c, .bool wd] 29)).cell? ⟨w.heap.size, 3, none⟩ = some (.int .u64 (o : Nat)) := by rw [Lib.cell_of_heap hh0]; rfl
  obtain ⟨pl, hpl⟩ : ∃ p, p = (o + z) % 18446744073709551616 := ⟨_, rfl⟩
  have HW2 : Hid (((o : Int) + (z : Int)) % 18446744073709551616 = pl) := by show _ = _; omega
  have hplt : pl < 18446744073709551616 := by omega
  have HE := Lib.hid (wide_eq n z o)
  rw [← hpl] at HE
  have HC1 : Hid (∀ w : World, Calls Try.prog 18 #[.int .u64 44] w fun e w' => e = .returned (.string (text (le 44 8))) ∧ Below w.heap.size w w') := fun w => eight_any 44 (by omega) w
  have HC2 : Hid (∀ (g : Nat) (w : World), RdI w .u16 (some ⟨g, 0, none⟩) [45, 45] → Calls Try.prog 19 #[.func (.func 20) #[] #[], .slice (some ⟨g, 0, none⟩) 2 2] w fun e w' => e = .returned (.string (text (lesL 2 [45, 45]))) ∧ Below w.heap.size w w') := fun g w hr => row2_tail _ 2 [45, 45] (by simp) (by intro x hx; simp at hx; omega) w hr
  have HC3 : Hid (∀ (g : Nat) (w : World), RdI w .u32 (some ⟨g, 0, none⟩) [0, 0] → Calls Try.prog 21 #[.func (.func 22) #[] #[], .slice (some ⟨g, 0, none⟩) 2 2] w fun e w' => e = .returned (.string (text (lesL 4 [0, 0]))) ∧ Below w.heap.size w w') := fun g w hr => row4_tail _ 2 [0, 0] (by simp) (by intro x hx; simp at hx; omega) w hr
  have HC4 : Hid (∀ (g : Nat) (w : World), RdI w .u64 (some ⟨g, 0, none⟩) [n, n, z, o] → Calls Try.prog 23 #[.func (.func 18) #[] #[], .slice (some ⟨g, 0, none⟩) 4 4] w fun e w' => e = .returned (.string (text (lesL 8 [n, n, z, o]))) ∧ Below w.heap.size w w') := fun g w hr => row8_tail _ 4 [n, n, z, o] (by simp) (by intro x hx; simp at hx; omega) w hr
  have HC5 : Hid (∀ w : World, Calls Try.prog 22 #[.int .u32 0] w fun e w' => e = .returned (.string (text (le 0 4))) ∧ Below w.heap.size w w') := fun w => four_any 0 (by omega) w
  have HC6 : Hid (∀ w : World, Calls Try.prog 18 #[.int .u64 (((o : Int) + (z : Int)) % 18446744073709551616)] w fun e w' => e = .returned (.string (text (le pl 8))) ∧ Below w.heap.size w w') := fun w => by rw [HW2.out]; exact eight_any pl hplt w
  have HC7 : Hid (∀ w : World, Calls Try.prog 22 #[.int .u32 1] w fun e w' => e = .returned (.string (text (le 1 4))) ∧ Below w.heap.size w w') := fun w => four_any 1 (by omega) w
  have zT1 : (text (le 44 8)).size ≤ 1000 := by rw [text_size, le_len]; omega
  generalize text (le 44 8) = T1 at *
  have zT2 : (text (lesL 2 [45, 45])).size ≤ 1000 := by rw [text_size, lesL_len]; simp
  generalize text (lesL 2 [45, 45]) = T2 at *
  have zT3 : (text (lesL 4 [0, 0])).size ≤ 1000 := by rw [text_size, lesL_len]; simp
  generalize text (lesL 4 [0, 0]) = T3 at *
  have zT4 : (text (lesL 8 [n, n, z, o])).size ≤ 1000 := by rw [text_size, lesL_len]; simp
  generalize text (lesL 8 [n, n, z, o]) = T4 at *
  have zT5 : (text (le 0 4)).size ≤ 1000 := by rw [text_size, le_len]; omega
  generalize text (le 0 4) = T5 at *
  have zT6 : (text (le pl 8)).size ≤ 1000 := by rw [text_size, le_len]; omega
  generalize text (le pl 8) = T6 at *
  have zT7 : (text (le 1 4)).size ≤ 1000 := by rw [text_size, le_len]; omega
  generalize text (le 1 4) = T7 at *
  clear hh0 hn hz ho hplt
  go_enter Try.func8, Try.ntmps8
  go_upto_region 2 with fail
  clear k2 k3
  generalize w.alloc (.cells #[.int .i64 at0, .int .u64 (n : Nat), .int .u64 (z : Nat), .int .u64 (o : Nat), .string c, .bool wd] 29) = wm at *
  have HH := HH0
  have HB := HB0
  clear HH0 HB0
  generalize hghg : w.heap.size = gh at *
  have HGH := Lib.hid hghg
  clear hghg
  replace HH : Hid (wm.drew.heap[gh]? = some (.cells #[.int .i64 at0, .int .u64 (n : Nat), .int .u64 (z : Nat), .int .u64 (o : Nat), .string c, .bool wd] 29 (0, 0))) := HH
  replace HB : Hid (Below gh w wm.drew) := HB.out.drew
  refine wp_region_held_drew (S := fun ww => ww.heap[gh]? = some (.cells #[.int .i64 at0, .int .u64 (n : Nat), .int .u64 (z : Nat), .int .u64 (o : Nat), .string c, .bool wd] 29 (0, 0)) ∧ Below gh w ww) (by kernel_rfl) ⟨HH.out, HB.out⟩ (fun hS0 => ?_)
  refine wpAnyH_take (i := 8) (v := .pointer (some ⟨gh, 1, none⟩)) rfl (by kernel_rfl) (by kernel_rfl) (by kernel_rfl) (fun _ _ _ h => h) (Or.inl ⟨by kernel_rfl, ?_⟩) (by assumption) ?_
  · intro ww hSw
    clear hSw
    go_simp
    all_goals (try omega)
    all_goals (try rfl)
  try simp only [Act.put, List.setIfInBounds_toArray, List.set_cons_zero, List.set_cons_succ, List.getElem_toArray, List.getElem_cons_succ, List.getElem_cons_zero]
  refine wpAnyH_take (i := 9) (v := .int .u64 (n : Nat)) rfl (by kernel_rfl) (by kernel_rfl) (by kernel_rfl) (fun _ _ _ h => h) (Or.inl ⟨by kernel_rfl, ?_⟩) (by assumption) ?_
  · intro ww hSw
    have hcc : ww.cell? ⟨gh, 1, none⟩ = some (.int .u64 (n : Nat)) := by rw [Lib.cell_of_heap hSw.1]; rfl
    clear hSw
    go_simp
    try rfl
  try simp only [Act.put, List.setIfInBounds_toArray, List.set_cons_zero, List.set_cons_succ, List.getElem_toArray, List.getElem_cons_succ, List.getElem_cons_zero]
  refine wpAnyH_take (i := 10) (v := .pointer (some ⟨gh, 1, none⟩)) rfl (by kernel_rfl) (by kernel_rfl) (by kernel_rfl) (fun _ _ _ h => h) (Or.inl ⟨by kernel_rfl, ?_⟩) (by assumption) ?_
  · intro ww hSw
    clear hSw
    go_simp
    all_goals (try omega)
    all_goals (try rfl)
  try simp only [Act.put, List.setIfInBounds_toArray, List.set_cons_zero, List.set_cons_succ, List.getElem_toArray, List.getElem_cons_succ, List.getElem_cons_zero]
  refine wpAnyH_take (i := 11) (v := .int .u64 (n : Nat)) rfl (by kernel_rfl) (by kernel_rfl) (by kernel_rfl) (fun _ _ _ h => h) (Or.inl ⟨by kernel_rfl, ?_⟩) (by assumption) ?_
  · intro ww hSw
    have hcc : ww.cell? ⟨gh, 1, none⟩ = some (.int .u64 (n : Nat)) := by rw [Lib.cell_of_heap hSw.1]; rfl
    clear hSw
    go_simp
    try rfl
  try simp only [Act.put, List.setIfInBounds_toArray, List.set_cons_zero, List.set_cons_succ, List.getElem_toArray, List.getElem_cons_succ, List.getElem_cons_zero]
  refine wpAnyH_take (i := 12) (v := .pointer (some ⟨gh, 2, none⟩)) rfl (by kernel_rfl) (by kernel_rfl) (by kernel_rfl) (fun _ _ _ h => h) (Or.inl ⟨by kernel_rfl, ?_⟩) (by assumption) ?_
  · intro ww hSw
    clear hSw
    go_simp
    all_goals (try omega)
    all_goals (try rfl)
  try simp only [Act.put, List.setIfInBounds_toArray, List.set_cons_zero, List.set_cons_succ, List.getElem_toArray, List.getElem_cons_succ, List.getElem_cons_zero]
  refine wpAnyH_take (i := 13) (v := .int .u64 (z : Nat)) rfl (by kernel_rfl) (by kernel_rfl) (by kernel_rfl) (fun _ _ _ h => h) (Or.inl ⟨by kernel_rfl, ?_⟩) (by assumption) ?_
  · intro ww hSw
    have hcc : ww.cell? ⟨gh, 2, none⟩ = some (.int .u64 (z : Nat)) := by rw [Lib.cell_of_heap hSw.1]; rfl
    clear hSw
    go_simp
    try rfl
  try simp only [Act.put, List.setIfInBounds_toArray, List.set_cons_zero, List.set_cons_succ, List.getElem_toArray, List.getElem_cons_succ, List.getElem_cons_zero]
  refine wpAnyH_take (i := 14) (v := .pointer (some ⟨gh, 3, none⟩)) rfl (by kernel_rfl) (by kernel_rfl) (by kernel_rfl) (fun _ _ _ h => h) (Or.inl ⟨by kernel_rfl, ?_⟩) (by assumption) ?_
  · intro ww hSw
    clear hSw
    go_simp
    all_goals (try omega)
    all_goals (try rfl)
  try simp only [Act.put, List.setIfInBounds_toArray, List.set_cons_zero, List.set_cons_succ, List.getElem_toArray, List.getElem_cons_succ, List.getElem_cons_zero]
  refine wpAnyH_take (i := 15) (v := .int .u64 (o : Nat)) rfl (by kernel_rfl) (by kernel_rfl) (by kernel_rfl) (fun _ _ _ h => h) (Or.inl ⟨by kernel_rfl, ?_⟩) (by assumption) ?_
  · intro ww hSw
    have hcc : ww.cell? ⟨gh, 3, none⟩ = some (.int .u64 (o : Nat)) := by rw [Lib.cell_of_heap hSw.1]; rfl
    clear hSw
    go_simp
    try rfl
  try simp only [Act.put, List.setIfInBounds_toArray, List.set_cons_zero, List.set_cons_succ, List.getElem_toArray, List.getElem_cons_succ, List.getElem_cons_zero]
  refine wpAnyH_take (i := 22) (v := .int .u64 (((o : Int) + (z : Int)) % 18446744073709551616)) rfl (by kernel_rfl) (by kernel_rfl) (by kernel_rfl) (fun _ _ _ h => h) (Or.inl ⟨by kernel_rfl, ?_⟩) (by assumption) ?_
  · intro ww hSw
    clear hSw
    go_simp
    all_goals (try omega)
    all_goals (try rfl)
  try simp only [Act.put, List.setIfInBounds_toArray, List.set_cons_zero, List.set_cons_succ, List.getElem_toArray, List.getElem_cons_succ, List.getElem_cons_zero]
  refine dag_ind (St := Stt) (fun σ => ([10, 9, 9, 9, 8, 8, 8, 7, 9, 8, 8, 8, 7, 7, 7, 6, 7, 6, 6, 5, 5, 4, 3, 2, 1, 0] : List Nat).getD σ.k 0) (fun σ => ([19, 18, 18, 18, 17, 17, 17, 16, 17, 16, 16, 16, 15, 15, 15, 14, 14, 13, 13, 12, 11, 10, 7, 5, 3, 1] : List Nat).getD σ.k 0) (fun σ => ([#[false, false, false, false, false, false, false, false, true, true, true, true, true, true, true, true, false, false, false, false, false, false, true, false, false, false, false, false], #[false, false, true, false, false, false, false, false, true, true, true, true, true, true, true, true, false, false, false, false, false, false, true, false, false, false, false, false], #[false, false, false, false, false, true, false, false, true, true, true, true, true, true, true, true, false, false, false, false, false, false, true, false, false, false, false, false], #[false, false, false, false, false, false, false, false, true, true, true, true, true, true, true, true, true, false, false, false, false, false, true, false, false, false, false, false], #[false, false, true, false, false, true, false, false, true, true, true, true, true, true, true, true, false, false, false, false, false, false, true, false, false, false, false, false], #[false, false, true, false, false, false, false, false, true, true, true, true, true, true, true, true, true, false, false, false, false, false, true, false, false, false, false, false], #[false, false, false, false, false, true, false, false, true, true, true, true, true, true, true, true, true, false, false, false, false, false, true, false, false, false, false, false], #[false, false, true, false, false, true, false, false, true, true, true, true, true, true, true, true, true, false, false, false, false, false, true, false, false, false, false, false], #[true, true, false, false, false, false, false, false, true, true, true, true, true, true, true, true, false, false, false, false, false, false, true, false, false, false, false, false], #[true, true, true, false, false, false, false, false, true, true, true, true, true, true, true, true, false, false, false, false, false, false, true, false, false, false, false, false], #[true, true, false, false, false, true, false, false, true, true, true, true, true, true, true, true, false, false, false, false, false, false, true, false, false, false, false, false], #[true, true, false, false, false, false, false, false, true, true, true, true, true, true, true, true, true, false, false, false, false, false, true, false, false, false, false, false], #[true, true, true, false, false, true, false, false, true, true, true, true, true, true, true, true, false, false, false, false, false, false, true, false, false, false, false, false], #[true, true, true, false, false, false, false, false, true, true, true, true, true, true, true, true, true, false, false, false, false, false, true, false, false, false, false, false], #[true, true, false, false, false, true, false, false, true, true, true, true, true, true, true, true, true, false, false, false, false, false, true, false, false, false, false, false], #[true, true, true, false, false, true, false, false, true, true, true, true, true, true, true, true, true, false, false, false, false, false, true, false, false, false, false, false], #[true, true, true, true, true, false, false, false, true, true, true, true, true, true, true, true, false, false, false, false, false, false, true, false, false, false, false, false], #[true, true, true, true, true, true, false, false, true, true, true, true, true, true, true, true, false, false, false, false, false, false, true, false, false, false, false, false], #[true, true, true, true, true, false, false, false, true, true, true, true, true, true, true, true, true, false, false, false, false, false, true, false, false, false, false, false], #[true, true, true, true, true, true, false, false, true, true, true, true, true, true, true, true, true, false, false, false, false, false, true, false, false, false, false, false], #[true, true, true, true, true, true, true, true, true, true, true, true, true, true, true, true, false, false, false, false, false, false, true, false, false, false, false, false], #[true, true, true, true, true, true, true, true, true, true, true, true, true, true, true, true, true, false, false, false, false, false, true, false, false, false, false, false], #[true, true, true, true, true, true, true, true, true, true, true, true, true, true, true, true, true, true, true, true, false, false, true, false, false, false, false, false], #[true, true, true, true, true, true, true, true, true, true, true, true, true, true, true, true, true, true, true, true, true, true, true, false, false, false, false, false], #[true, true, true, true, true, true, true, true, true, true, true, true, true, true, true, true, true, true, true, true, true, true, true, true, true, false, false, false], #[true, true, true, true, true, true, true, true, true, true, true, true, true, true, true, true, true, true, true, true, true, true, true, true, true, true, true, false]] : List (Array Bool)).getD σ.k #[]) (fun σ => { tmps := ([#[.agg #[.int .i64 at0, .int .u64 (n : Nat), .int .u64 (z : Nat), .int .u64 (o : Nat), .string c, .bool wd], .pointer (some ⟨gh, 0, none⟩), .string ⟨#[]⟩, .int .u64 (((o : Int) + (z : Int)) % 18446744073709551616), .pointer (some ⟨gh, 3, none⟩), .int .u64 (o : Nat), .pointer (some ⟨gh, 2, none⟩), .int .u64 (z : Nat), .int .u64 (((o : Int) + (z : Int)) % 18446744073709551616), undef, undef, undef, undef, undef, undef, undef, undef, .pointer (some ⟨gh, 1, none⟩), .int .u64 (n : Nat), .pointer (some ⟨gh, 1, none⟩), .int .u64 (n : Nat), .pointer (some ⟨gh, 2, none⟩), .int .u64 (z : Nat), .pointer (some ⟨gh, 3, none⟩), .int .u64 (o : Nat), undef, undef, undef, undef, undef, undef, .int .u64 (((o : Int) + (z : Int)) % 18446744073709551616), undef, undef, undef, undef], #[.agg #[.int .i64 at0, .int .u64 (n : Nat), .int .u64 (z : Nat), .int .u64 (o : Nat), .string c, .bool wd], .pointer (some ⟨gh, 0, none⟩), .string ⟨#[]⟩, .int .u64 (((o : Int) + (z : Int)) % 18446744073709551616), .pointer (some ⟨gh, 3, none⟩), .int .u64 (o : Nat), .pointer (some ⟨gh, 2, none⟩), .int .u64 (z : Nat), .int .u64 (((o : Int) + (z : Int)) % 18446744073709551616), undef, undef, .slice (some ⟨σ.g1, 0, none⟩) 2 2, undef, undef, undef, undef, undef, .pointer (some ⟨gh, 1, none⟩), .int .u64 (n : Nat), .pointer (some ⟨gh, 1, none⟩), .int .u64 (n : Nat), .pointer (some ⟨gh, 2, none⟩), .int .u64 (z : Nat), .pointer (some ⟨gh, 3, none⟩), .int .u64 (o : Nat), undef, undef, undef, undef, undef, undef, .int .u64 (((o : Int) + (z : Int)) % 18446744073709551616), undef, undef, undef, undef], #[.agg #[.int .i64 at0, .int .u64 (n : Nat), .int .u64 (z : Nat), .int .u64 (o : Nat), .string c, .bool wd], .pointer (some ⟨gh, 0, none⟩), .string ⟨#[]⟩, .int .u64 (((o : Int) + (z : Int)) % 18446744073709551616), .pointer (some ⟨gh, 3, none⟩), .int .u64 (o : Nat), .pointer (some ⟨gh, 2, none⟩), .int .u64 (z : Nat), .int .u64 (((o : Int) + (z : Int)) % 18446744073709551616), undef, undef, undef, undef, undef, .slice (some ⟨σ.g2, 0, none⟩) 2 2, undef, undef, .pointer (some ⟨gh, 1, none⟩), .int .u64 (n : Nat), .pointer (some ⟨gh, 1, none⟩), .int .u64 (n : Nat), .pointer (some ⟨gh, 2, none⟩), .int .u64 (z : Nat), .pointer (some ⟨gh, 3, none⟩), .int .u64 (o : Nat), undef, undef, undef, undef, undef, undef, .int .u64 (((o : Int) + (z : Int)) % 18446744073709551616), undef, undef, undef, undef], #[.agg #[.int .i64 at0, .int .u64 (n : Nat), .int .u64 (z : Nat), .int .u64 (o : Nat), .string c, .bool wd], .pointer (some ⟨gh, 0, none⟩), .string ⟨#[]⟩, .int .u64 (((o : Int) + (z : Int)) % 18446744073709551616), .pointer (some ⟨gh, 3, none⟩), .int .u64 (o : Nat), .pointer (some ⟨gh, 2, none⟩), .int .u64 (z : Nat), .int .u64 (((o : Int) + (z : Int)) % 18446744073709551616), undef, undef, undef, undef, undef, undef, undef, undef, .pointer (some ⟨gh, 1, none⟩), .int .u64 (n : Nat), .pointer (some ⟨gh, 1, none⟩), .int .u64 (n : Nat), .pointer (some ⟨gh, 2, none⟩), .int .u64 (z : Nat), .pointer (some ⟨gh, 3, none⟩), .int .u64 (o : Nat), .slice (some ⟨σ.g3, 0, none⟩) 4 4, undef, undef, undef, undef, undef, .int .u64 (((o : Int) + (z : Int)) % 18446744073709551616), undef, undef, undef, undef], #[.agg #[.int .i64 at0, .int .u64 (n : Nat), .int .u64 (z : Nat), .int .u64 (o : Nat), .string c, .bool wd], .pointer (some ⟨gh, 0, none⟩), .string ⟨#[]⟩, .int .u64 (((o : Int) + (z : Int)) % 18446744073709551616), .pointer (some ⟨gh, 3, none⟩), .int .u64 (o : Nat), .pointer (some ⟨gh, 2, none⟩), .int .u64 (z : Nat), .int .u64 (((o : Int) + (z : Int)) % 18446744073709551616), undef, undef, .slice (some ⟨σ.g1, 0, none⟩) 2 2, undef, undef, .slice (some ⟨σ.g2, 0, none⟩) 2 2, undef, undef, .pointer (some ⟨gh, 1, none⟩), .int .u64 (n : Nat), .pointer (some ⟨gh, 1, none⟩), .int .u64 (n : Nat), .pointer (some ⟨gh, 2, none⟩), .int .u64 (z : Nat), .pointer (some ⟨gh, 3, none⟩), .int .u64 (o : Nat), undef, undef, undef, undef, undef, undef, .int .u64 (((o : Int) + (z : Int)) % 18446744073709551616), undef, undef, undef, undef], #[.agg #[.int .i64 at0, .int .u64 (n : Nat), .int .u64 (z : Nat), .int .u64 (o : Nat), .string c, .bool wd], .pointer (some ⟨gh, 0, none⟩), .string ⟨#[]⟩, .int .u64 (((o : Int) + (z : Int)) % 18446744073709551616), .pointer (some ⟨gh, 3, none⟩), .int .u64 (o : Nat), .pointer (some ⟨gh, 2, none⟩), .int .u64 (z : Nat), .int .u64 (((o : Int) + (z : Int)) % 18446744073709551616), undef, undef, .slice (some ⟨σ.g1, 0, none⟩) 2 2, undef, undef, undef, undef, undef, .pointer (some ⟨gh, 1, none⟩), .int .u64 (n : Nat), .pointer (some ⟨gh, 1, none⟩), .int .u64 (n : Nat), .pointer (some ⟨gh, 2, none⟩), .int .u64 (z : Nat), .pointer (some ⟨gh, 3, none⟩), .int .u64 (o : Nat), .slice (some ⟨σ.g3, 0, none⟩) 4 4, undef, undef, undef, undef, undef, .int .u64 (((o : Int) + (z : Int)) % 18446744073709551616), undef, undef, undef, undef], #[.agg #[.int .i64 at0, .int .u64 (n : Nat), .int .u64 (z : Nat), .int .u64 (o : Nat), .string c, .bool wd], .pointer (some ⟨gh, 0, none⟩), .string ⟨#[]⟩, .int .u64 (((o : Int) + (z : Int)) % 18446744073709551616), .pointer (some ⟨gh, 3, none⟩), .int .u64 (o : Nat), .pointer (some ⟨gh, 2, none⟩), .int .u64 (z : Nat), .int .u64 (((o : Int) + (z : Int)) % 18446744073709551616), undef, undef, undef, undef, undef, .slice (some ⟨σ.g2, 0, none⟩) 2 2, undef, undef, .pointer (some ⟨gh, 1, none⟩), .int .u64 (n : Nat), .pointer (some ⟨gh, 1, none⟩), .int .u64 (n : Nat), .pointer (some ⟨gh, 2, none⟩), .int .u64 (z : Nat), .pointer (some ⟨gh, 3, none⟩), .int .u64 (o : Nat), .slice (some ⟨σ.g3, 0, none⟩) 4 4, undef, undef, undef, undef, undef, .int .u64 (((o : Int) + (z : Int)) % 18446744073709551616), undef, undef, undef, undef], #[.agg #[.int .i64 at0, .int .u64 (n : Nat), .int .u64 (z : Nat), .int .u64 (o : Nat), .string c, .bool wd], .pointer (some ⟨gh, 0, none⟩), .string ⟨#[]⟩, .int .u64 (((o : Int) + (z : Int)) % 18446744073709551616), .pointer (some ⟨gh, 3, none⟩), .int .u64 (o : Nat), .pointer (some ⟨gh, 2, none⟩), .int .u64 (z : Nat), .int .u64 (((o : Int) + (z : Int)) % 18446744073709551616), undef, undef, .slice (some ⟨σ.g1, 0, none⟩) 2 2, undef, undef, .slice (some ⟨σ.g2, 0, none⟩) 2 2, undef, undef, .pointer (some ⟨gh, 1, none⟩), .int .u64 (n : Nat), .pointer (some ⟨gh, 1, none⟩), .int .u64 (n : Nat), .pointer (some ⟨gh, 2, none⟩), .int .u64 (z : Nat), .pointer (some ⟨gh, 3, none⟩), .int .u64 (o : Nat), .slice (some ⟨σ.g3, 0, none⟩) 4 4, undef, undef, undef, undef, undef, .int .u64 (((o : Int) + (z : Int)) % 18446744073709551616), undef, undef, undef, undef], #[.agg #[.int .i64 at0, .int .u64 (n : Nat), .int .u64 (z : Nat), .int .u64 (o : Nat), .string c, .bool wd], .pointer (some ⟨gh, 0, none⟩), .string ⟨#[]⟩, .int .u64 (((o : Int) + (z : Int)) % 18446744073709551616), .pointer (some ⟨gh, 3, none⟩), .int .u64 (o : Nat), .pointer (some ⟨gh, 2, none⟩), .int .u64 (z : Nat), .int .u64 (((o : Int) + (z : Int)) % 18446744073709551616), .string T1, .string ((⟨#[80, 75, 6, 6]⟩ : ByteArray) ++ T1), undef, undef, undef, undef, undef, undef, .pointer (some ⟨gh, 1, none⟩), .int .u64 (n : Nat), .pointer (some ⟨gh, 1, none⟩), .int .u64 (n : Nat), .pointer (some ⟨gh, 2, none⟩), .int .u64 (z : Nat), .pointer (some ⟨gh, 3, none⟩), .int .u64 (o : Nat), undef, undef, undef, undef, undef, undef, .int .u64 (((o : Int) + (z : Int)) % 18446744073709551616), undef, undef, undef, undef], #[.agg #[.int .i64 at0, .int .u64 (n : Nat), .int .u64 (z : Nat), .int .u64 (o : Nat), .string c, .bool wd], .pointer (some ⟨gh, 0, none⟩), .string ⟨#[]⟩, .int .u64 (((o : Int) + (z : Int)) % 18446744073709551616), .pointer (some ⟨gh, 3, none⟩), .int .u64 (o : Nat), .pointer (some ⟨gh, 2, none⟩), .int .u64 (z : Nat), .int .u64 (((o : Int) + (z : Int)) % 18446744073709551616), .string T1, .string ((⟨#[80, 75, 6, 6]⟩ : ByteArray) ++ T1), .slice (some ⟨σ.g1, 0, none⟩) 2 2, undef, undef, undef, undef, undef, .pointer (some ⟨gh, 1, none⟩), .int .u64 (n : Nat), .pointer (some ⟨gh, 1, none⟩), .int .u64 (n : Nat), .pointer (some ⟨gh, 2, none⟩), .int .u64 (z : Nat), .pointer (some ⟨gh, 3, none⟩), .int .u64 (o : Nat), undef, undef, undef, undef, undef, undef, .int .u64 (((o : Int) + (z : Int)) % 18446744073709551616), undef, undef, undef, undef], #[.agg #[.int .i64 at0, .int .u64 (n : Nat), .int .u64 (z : Nat), .int .u64 (o : Nat), .string c, .bool wd], .pointer (some ⟨gh, 0, none⟩), .string ⟨#[]⟩, .int .u64 (((o : Int) + (z : Int)) % 18446744073709551616), .pointer (some ⟨gh, 3, none⟩), .int .u64 (o : Nat), .pointer (some ⟨gh, 2, none⟩), .int .u64 (z : Nat), .int .u64 (((o : Int) + (z : Int)) % 18446744073709551616), .string T1, .string ((⟨#[80, 75, 6, 6]⟩ : ByteArray) ++ T1), undef, undef, undef, .slice (some ⟨σ.g2, 0, none⟩) 2 2, undef, undef, .pointer (some ⟨gh, 1, none⟩), .int .u64 (n : Nat), .pointer (some ⟨gh, 1, none⟩), .int .u64 (n : Nat), .pointer (some ⟨gh, 2, none⟩), .int .u64 (z : Nat), .pointer (some ⟨gh, 3, none⟩), .int .u64 (o : Nat), undef, undef, undef, undef, undef, undef, .int .u64 (((o : Int) + (z : Int)) % 18446744073709551616), undef, undef, undef, undef], #[.agg #[.int .i64 at0, .int .u64 (n : Nat), .int .u64 (z : Nat), .int .u64 (o : Nat), .string c, .bool wd], .pointer (some ⟨gh, 0, none⟩), .string ⟨#[]⟩, .int .u64 (((o : Int) + (z : Int)) % 18446744073709551616), .pointer (some ⟨gh, 3, none⟩), .int .u64 (o : Nat), .pointer (some ⟨gh, 2, none⟩), .int .u64 (z : Nat), .int .u64 (((o : Int) + (z : Int)) % 18446744073709551616), .string T1, .string ((⟨#[80, 75, 6, 6]⟩ : ByteArray) ++ T1), undef, undef, undef, undef, undef, undef, .pointer (some ⟨gh, 1, none⟩), .int .u64 (n : Nat), .pointer (some ⟨gh, 1, none⟩), .int .u64 (n : Nat), .pointer (some ⟨gh, 2, none⟩), .int .u64 (z : Nat), .pointer (some ⟨gh, 3, none⟩), .int .u64 (o : Nat), .slice (some ⟨σ.g3, 0, none⟩) 4 4, undef, undef, undef, undef, undef, .int .u64 (((o : Int) + (z : Int)) % 18446744073709551616), undef, undef, undef, undef], #[.agg #[.int .i64 at0, .int .u64 (n : Nat), .int .u64 (z : Nat), .int .u64 (o : Nat), .string c, .bool wd], .pointer (some ⟨gh, 0, none⟩), .string ⟨#[]⟩, .int .u64 (((o : Int) + (z : Int)) % 18446744073709551616), .pointer (some ⟨gh, 3, none⟩), .int .u64 (o : Nat), .pointer (some ⟨gh, 2, none⟩), .int .u64 (z : Nat), .int .u64 (((o : Int) + (z : Int)) % 18446744073709551616), .string T1, .string ((⟨#[80, 75, 6, 6]⟩ : ByteArray) ++ T1), .slice (some ⟨σ.g1, 0, none⟩) 2 2, undef, undef, .slice (some ⟨σ.g2, 0, none⟩) 2 2, undef, undef, .pointer (some ⟨gh, 1, none⟩), .int .u64 (n : Nat), .pointer (some ⟨gh, 1, none⟩), .int .u64 (n : Nat), .pointer (some ⟨gh, 2, none⟩), .int .u64 (z : Nat), .pointer (some ⟨gh, 3, none⟩), .int .u64 (o : Nat), undef, undef, undef, undef, undef, undef, .int .u64 (((o : Int) + (z : Int)) % 18446744073709551616), undef, undef, undef, undef], #[.agg #[.int .i64 at0, .int .u64 (n : Nat), .int .u64 (z : Nat), .int .u64 (o : Nat), .string c, .bool wd], .pointer (some ⟨gh, 0, none⟩), .string ⟨#[]⟩, .int .u64 (((o : Int) + (z : Int)) % 18446744073709551616), .pointer (some ⟨gh, 3, none⟩), .int .u64 (o : Nat), .pointer (some ⟨gh, 2, none⟩), .int .u64 (z : Nat), .int .u64 (((o : Int) + (z : Int)) % 18446744073709551616), .string T1, .string ((⟨#[80, 75, 6, 6]⟩ : ByteArray) ++ T1), .slice (some ⟨σ.g1, 0, none⟩) 2 2, undef, undef, undef, undef, undef, .pointer (some ⟨gh, 1, none⟩), .int .u64 (n : Nat), .pointer (some ⟨gh, 1, none⟩), .int .u64 (n : Nat), .pointer (some ⟨gh, 2, none⟩), .int .u64 (z : Nat), .pointer (some ⟨gh, 3, none⟩), .int .u64 (o : Nat), .slice (some ⟨σ.g3, 0, none⟩) 4 4, undef, undef, undef, undef, undef, .int .u64 (((o : Int) + (z : Int)) % 18446744073709551616), undef, undef, undef, undef], #[.agg #[.int .i64 at0, .int .u64 (n : Nat), .int .u64 (z : Nat), .int .u64 (o : Nat), .string c, .bool wd], .pointer (some ⟨gh, 0, none⟩), .string ⟨#[]⟩, .int .u64 (((o : Int) + (z : Int)) % 18446744073709551616), .pointer (some ⟨gh, 3, none⟩), .int .u64 (o : Nat), .pointer (some ⟨gh, 2, none⟩), .int .u64 (z : Nat), .int .u64 (((o : Int) + (z : Int)) % 18446744073709551616), .string T1, .string ((⟨#[80, 75, 6, 6]⟩ : ByteArray) ++ T1), undef, undef, undef, .slice (some ⟨σ.g2, 0, none⟩) 2 2, undef, undef, .pointer (some ⟨gh, 1, none⟩), .int .u64 (n : Nat), .pointer (some ⟨gh, 1, none⟩), .int .u64 (n : Nat), .pointer (some ⟨gh, 2, none⟩), .int .u64 (z : Nat), .pointer (some ⟨gh, 3, none⟩), .int .u64 (o : Nat), .slice (some ⟨σ.g3, 0, none⟩) 4 4, undef, undef, undef, undef, undef, .int .u64 (((o : Int) + (z : Int)) % 18446744073709551616), undef, undef, undef, undef], #[.agg #[.int .i64 at0, .int .u64 (n : Nat), .int .u64 (z : Nat), .int .u64 (o : Nat), .string c, .bool wd], .pointer (some ⟨gh, 0, none⟩), .string ⟨#[]⟩, .int .u64 (((o : Int) + (z : Int)) % 18446744073709551616), .pointer (some ⟨gh, 3, none⟩), .int .u64 (o : Nat), .pointer (some ⟨gh, 2, none⟩), .int .u64 (z : Nat), .int .u64 (((o : Int) + (z : Int)) % 18446744073709551616), .string T1, .string ((⟨#[80, 75, 6, 6]⟩ : ByteArray) ++ T1), .slice (some ⟨σ.g1, 0, none⟩) 2 2, undef, undef, .slice (some ⟨σ.g2, 0, none⟩) 2 2, undef, undef, .pointer (some ⟨gh, 1, none⟩), .int .u64 (n : Nat), .pointer (some ⟨gh, 1, none⟩), .int .u64 (n : Nat), .pointer (some ⟨gh, 2, none⟩), .int .u64 (z : Nat), .pointer (some ⟨gh, 3, none⟩), .int .u64 (o : Nat), .slice (some ⟨σ.g3, 0, none⟩) 4 4, undef, undef, undef, undef, undef, .int .u64 (((o : Int) + (z : Int)) % 18446744073709551616), undef, undef, undef, undef], #[.agg #[.int .i64 at0, .int .u64 (n : Nat), .int .u64 (z : Nat), .int .u64 (o : Nat), .string c, .bool wd], .pointer (some ⟨gh, 0, none⟩), .string ⟨#[]⟩, .int .u64 (((o : Int) + (z : Int)) % 18446744073709551616), .pointer (some ⟨gh, 3, none⟩), .int .u64 (o : Nat), .pointer (some ⟨gh, 2, none⟩), .int .u64 (z : Nat), .int .u64 (((o : Int) + (z : Int)) % 18446744073709551616), .string T1, .string ((⟨#[80, 75, 6, 6]⟩ : ByteArray) ++ T1), .slice (some ⟨σ.g1, 0, none⟩) 2 2, .string T2, .string (((⟨#[80, 75, 6, 6]⟩ : ByteArray) ++ T1) ++ T2), undef, undef, undef, .pointer (some ⟨gh, 1, none⟩), .int .u64 (n : Nat), .pointer (some ⟨gh, 1, none⟩), .int .u64 (n : Nat), .pointer (some ⟨gh, 2, none⟩), .int .u64 (z : Nat), .pointer (some ⟨gh, 3, none⟩), .int .u64 (o : Nat), undef, undef, undef, undef, undef, undef, .int .u64 (((o : Int) + (z : Int)) % 18446744073709551616), undef, undef, undef, undef], #[.agg #[.int .i64 at0, .int .u64 (n : Nat), .int .u64 (z : Nat), .int .u64 (o : Nat), .string c, .bool wd], .pointer (some ⟨gh, 0, none⟩), .string ⟨#[]⟩, .int .u64 (((o : Int) + (z : Int)) % 18446744073709551616), .pointer (some ⟨gh, 3, none⟩), .int .u64 (o : Nat), .pointer (some ⟨gh, 2, none⟩), .int .u64 (z : Nat), .int .u64 (((o : Int) + (z : Int)) % 18446744073709551616), .string T1, .string ((⟨#[80, 75, 6, 6]⟩ : ByteArray) ++ T1), .slice (some ⟨σ.g1, 0, none⟩) 2 2, .string T2, .string (((⟨#[80, 75, 6, 6]⟩ : ByteArray) ++ T1) ++ T2), .slice (some ⟨σ.g2, 0, none⟩) 2 2, undef, undef, .pointer (some ⟨gh, 1, none⟩), .int .u64 (n : Nat), .pointer (some ⟨gh, 1, none⟩), .int .u64 (n : Nat), .pointer (some ⟨gh, 2, none⟩), .int .u64 (z : Nat), .pointer (some ⟨gh, 3, none⟩), .int .u64 (o : Nat), undef, undef, undef, undef, undef, undef, .int .u64 (((o : Int) + (z : Int)) % 18446744073709551616), undef, undef, undef, undef], #[.agg #[.int .i64 at0, .int .u64 (n : Nat), .int .u64 (z : Nat), .int .u64 (o : Nat), .string c, .bool wd], .pointer (some ⟨gh, 0, none⟩), .string ⟨#[]⟩, .int .u64 (((o : Int) + (z : Int)) % 18446744073709551616), .pointer (some ⟨gh, 3, none⟩), .int .u64 (o : Nat), .pointer (some ⟨gh, 2, none⟩), .int .u64 (z : Nat), .int .u64 (((o : Int) + (z : Int)) % 18446744073709551616), .string T1, .string ((⟨#[80, 75, 6, 6]⟩ : ByteArray) ++ T1), .slice (some ⟨σ.g1, 0, none⟩) 2 2, .string T2, .string (((⟨#[80, 75, 6, 6]⟩ : ByteArray) ++ T1) ++ T2), undef, undef, undef, .pointer (some ⟨gh, 1, none⟩), .int .u64 (n : Nat), .pointer (some ⟨gh, 1, none⟩), .int .u64 (n : Nat), .pointer (some ⟨gh, 2, none⟩), .int .u64 (z : Nat), .pointer (some ⟨gh, 3, none⟩), .int .u64 (o : Nat), .slice (some ⟨σ.g3, 0, none⟩) 4 4, undef, undef, undef, undef, undef, .int .u64 (((o : Int) + (z : Int)) % 18446744073709551616), undef, undef, undef, undef], #[.agg #[.int .i64 at0, .int .u64 (n : Nat), .int .u64 (z : Nat), .int .u64 (o : Nat), .string c, .bool wd], .pointer (some ⟨gh, 0, none⟩), .string ⟨#[]⟩, .int .u64 (((o : Int) + (z : Int)) % 18446744073709551616), .pointer (some ⟨gh, 3, none⟩), .int .u64 (o : Nat), .pointer (some ⟨gh, 2, none⟩), .int .u64 (z : Nat), .int .u64 (((o : Int) + (z : Int)) % 18446744073709551616), .string T1, .string ((⟨#[80, 75, 6, 6]⟩ : ByteArray) ++ T1), .slice (some ⟨σ.g1, 0, none⟩) 2 2, .string T2, .string (((⟨#[80, 75, 6, 6]⟩ : ByteArray) ++ T1) ++ T2), .slice (some ⟨σ.g2, 0, none⟩) 2 2, undef, undef, .pointer (some ⟨gh, 1, none⟩), .int .u64 (n : Nat), .pointer (some ⟨gh, 1, none⟩), .int .u64 (n : Nat), .pointer (some ⟨gh, 2, none⟩), .int .u64 (z : Nat), .pointer (some ⟨gh, 3, none⟩), .int .u64 (o : Nat), .slice (some ⟨σ.g3, 0, none⟩) 4 4, undef, undef, undef, undef, undef, .int .u64 (((o : Int) + (z : Int)) % 18446744073709551616), undef, undef, undef, undef], #[.agg #[.int .i64 at0, .int .u64 (n : Nat), .int .u64 (z : Nat), .int .u64 (o : Nat), .string c, .bool wd], .pointer (some ⟨gh, 0, none⟩), .string ⟨#[]⟩, .int .u64 (((o : Int) + (z : Int)) % 18446744073709551616), .pointer (some ⟨gh, 3, none⟩), .int .u64 (o : Nat), .pointer (some ⟨gh, 2, none⟩), .int .u64 (z : Nat), .int .u64 (((o : Int) + (z : Int)) % 18446744073709551616), .string T1, .string ((⟨#[80, 75, 6, 6]⟩ : ByteArray) ++ T1), .slice (some ⟨σ.g1, 0, none⟩) 2 2, .string T2, .string (((⟨#[80, 75, 6, 6]⟩ : ByteArray) ++ T1) ++ T2), .slice (some ⟨σ.g2, 0, none⟩) 2 2, .string T3, .string ((((⟨#[80, 75, 6, 6]⟩ : ByteArray) ++ T1) ++ T2) ++ T3), .pointer (some ⟨gh, 1, none⟩), .int .u64 (n : Nat), .pointer (some ⟨gh, 1, none⟩), .int .u64 (n : Nat), .pointer (some ⟨gh, 2, none⟩), .int .u64 (z : Nat), .pointer (some ⟨gh, 3, none⟩), .int .u64 (o : Nat), undef, undef, undef, undef, undef, undef, .int .u64 (((o : Int) + (z : Int)) % 18446744073709551616), undef, undef, undef, undef], #[.agg #[.int .i64 at0, .int .u64 (n : Nat), .int .u64 (z : Nat), .int .u64 (o : Nat), .string c, .bool wd], .pointer (some ⟨gh, 0, none⟩), .string ⟨#[]⟩, .int .u64 (((o : Int) + (z : Int)) % 18446744073709551616), .pointer (some ⟨gh, 3, none⟩), .int .u64 (o : Nat), .pointer (some ⟨gh, 2, none⟩), .int .u64 (z : Nat), .int .u64 (((o : Int) + (z : Int)) % 18446744073709551616), .string T1, .string ((⟨#[80, 75, 6, 6]⟩ : ByteArray) ++ T1), .slice (some ⟨σ.g1, 0, none⟩) 2 2, .string T2, .string (((⟨#[80, 75, 6, 6]⟩ : ByteArray) ++ T1) ++ T2), .slice (some ⟨σ.g2, 0, none⟩) 2 2, .string T3, .string ((((⟨#[80, 75, 6, 6]⟩ : ByteArray) ++ T1) ++ T2) ++ T3), .pointer (some ⟨gh, 1, none⟩), .int .u64 (n : Nat), .pointer (some ⟨gh, 1, none⟩), .int .u64 (n : Nat), .pointer (some ⟨gh, 2, none⟩), .int .u64 (z : Nat), .pointer (some ⟨gh, 3, none⟩), .int .u64 (o : Nat), .slice (some ⟨σ.g3, 0, none⟩) 4 4, undef, undef, undef, undef, undef, .int .u64 (((o : Int) + (z : Int)) % 18446744073709551616), undef, undef, undef, undef], #[.agg #[.int .i64 at0, .int .u64 (n : Nat), .int .u64 (z : Nat), .int .u64 (o : Nat), .string c, .bool wd], .pointer (some ⟨gh, 0, none⟩), .string ⟨#[]⟩, .int .u64 (((o : Int) + (z : Int)) % 18446744073709551616), .pointer (some ⟨gh, 3, none⟩), .int .u64 (o : Nat), .pointer (some ⟨gh, 2, none⟩), .int .u64 (z : Nat), .int .u64 (((o : Int) + (z : Int)) % 18446744073709551616), .string T1, .string ((⟨#[80, 75, 6, 6]⟩ : ByteArray) ++ T1), .slice (some ⟨σ.g1, 0, none⟩) 2 2, .string T2, .string (((⟨#[80, 75, 6, 6]⟩ : ByteArray) ++ T1) ++ T2), .slice (some ⟨σ.g2, 0, none⟩) 2 2, .string T3, .string ((((⟨#[80, 75, 6, 6]⟩ : ByteArray) ++ T1) ++ T2) ++ T3), .pointer (some ⟨gh, 1, none⟩), .int .u64 (n : Nat), .pointer (some ⟨gh, 1, none⟩), .int .u64 (n : Nat), .pointer (some ⟨gh, 2, none⟩), .int .u64 (z : Nat), .pointer (some ⟨gh, 3, none⟩), .int .u64 (o : Nat), .slice (some ⟨σ.g3, 0, none⟩) 4 4, .string T4, .string (((((⟨#[80, 75, 6, 6]⟩ : ByteArray) ++ T1) ++ T2) ++ T3) ++ T4), .string ((((((⟨#[80, 75, 6, 6]⟩ : ByteArray) ++ T1) ++ T2) ++ T3) ++ T4) ++ (⟨#[80, 75, 6, 7]⟩ : ByteArray)), undef, undef, .int .u64 (((o : Int) + (z : Int)) % 18446744073709551616), undef, undef, undef, undef], #[.agg #[.int .i64 at0, .int .u64 (n : Nat), .int .u64 (z : Nat), .int .u64 (o : Nat), .string c, .bool wd], .pointer (some ⟨gh, 0, none⟩), .string ⟨#[]⟩, .int .u64 (((o : Int) + (z : Int)) % 18446744073709551616), .pointer (some ⟨gh, 3, none⟩), .int .u64 (o : Nat), .pointer (some ⟨gh, 2, none⟩), .int .u64 (z : Nat), .int .u64 (((o : Int) + (z : Int)) % 18446744073709551616), .string T1, .string ((⟨#[80, 75, 6, 6]⟩ : ByteArray) ++ T1), .slice (some ⟨σ.g1, 0, none⟩) 2 2, .string T2, .string (((⟨#[80, 75, 6, 6]⟩ : ByteArray) ++ T1) ++ T2), .slice (some ⟨σ.g2, 0, none⟩) 2 2, .string T3, .string ((((⟨#[80, 75, 6, 6]⟩ : ByteArray) ++ T1) ++ T2) ++ T3), .pointer (some ⟨gh, 1, none⟩), .int .u64 (n : Nat), .pointer (some ⟨gh, 1, none⟩), .int .u64 (n : Nat), .pointer (some ⟨gh, 2, none⟩), .int .u64 (z : Nat), .pointer (some ⟨gh, 3, none⟩), .int .u64 (o : Nat), .slice (some ⟨σ.g3, 0, none⟩) 4 4, .string T4, .string (((((⟨#[80, 75, 6, 6]⟩ : ByteArray) ++ T1) ++ T2) ++ T3) ++ T4), .string ((((((⟨#[80, 75, 6, 6]⟩ : ByteArray) ++ T1) ++ T2) ++ T3) ++ T4) ++ (⟨#[80, 75, 6, 7]⟩ : ByteArray)), .string T5, .string (((((((⟨#[80, 75, 6, 6]⟩ : ByteArray) ++ T1) ++ T2) ++ T3) ++ T4) ++ (⟨#[80, 75, 6, 7]⟩ : ByteArray)) ++ T5), .int .u64 (((o : Int) + (z : Int)) % 18446744073709551616), undef, undef, undef, undef], #[.agg #[.int .i64 at0, .int .u64 (n : Nat), .int .u64 (z : Nat), .int .u64 (o : Nat), .string c, .bool wd], .pointer (some ⟨gh, 0, none⟩), .string ⟨#[]⟩, .int .u64 (((o : Int) + (z : Int)) % 18446744073709551616), .pointer (some ⟨gh, 3, none⟩), .int .u64 (o : Nat), .pointer (some ⟨gh, 2, none⟩), .int .u64 (z : Nat), .int .u64 (((o : Int) + (z : Int)) % 18446744073709551616), .string T1, .string ((⟨#[80, 75, 6, 6]⟩ : ByteArray) ++ T1), .slice (some ⟨σ.g1, 0, none⟩) 2 2, .string T2, .string (((⟨#[80, 75, 6, 6]⟩ : ByteArray) ++ T1) ++ T2), .slice (some ⟨σ.g2, 0, none⟩) 2 2, .string T3, .string ((((⟨#[80, 75, 6, 6]⟩ : ByteArray) ++ T1) ++ T2) ++ T3), .pointer (some ⟨gh, 1, none⟩), .int .u64 (n : Nat), .pointer (some ⟨gh, 1, none⟩), .int .u64 (n : Nat), .pointer (some ⟨gh, 2, none⟩), .int .u64 (z : Nat), .pointer (some ⟨gh, 3, none⟩), .int .u64 (o : Nat), .slice (some ⟨σ.g3, 0, none⟩) 4 4, .string T4, .string (((((⟨#[80, 75, 6, 6]⟩ : ByteArray) ++ T1) ++ T2) ++ T3) ++ T4), .string ((((((⟨#[80, 75, 6, 6]⟩ : ByteArray) ++ T1) ++ T2) ++ T3) ++ T4) ++ (⟨#[80, 75, 6, 7]⟩ : ByteArray)), .string T5, .string (((((((⟨#[80, 75, 6, 6]⟩ : ByteArray) ++ T1) ++ T2) ++ T3) ++ T4) ++ (⟨#[80, 75, 6, 7]⟩ : ByteArray)) ++ T5), .int .u64 (((o : Int) + (z : Int)) % 18446744073709551616), .string T6, .string ((((((((⟨#[80, 75, 6, 6]⟩ : ByteArray) ++ T1) ++ T2) ++ T3) ++ T4) ++ (⟨#[80, 75, 6, 7]⟩ : ByteArray)) ++ T5) ++ T6), undef, undef], #[.agg #[.int .i64 at0, .int .u64 (n : Nat), .int .u64 (z : Nat), .int .u64 (o : Nat), .string c, .bool wd], .pointer (some ⟨gh, 0, none⟩), .string ⟨#[]⟩, .int .u64 (((o : Int) + (z : Int)) % 18446744073709551616), .pointer (some ⟨gh, 3, none⟩), .int .u64 (o : Nat), .pointer (some ⟨gh, 2, none⟩), .int .u64 (z : Nat), .int .u64 (((o : Int) + (z : Int)) % 18446744073709551616), .string T1, .string ((⟨#[80, 75, 6, 6]⟩ : ByteArray) ++ T1), .slice (some ⟨σ.g1, 0, none⟩) 2 2, .string T2, .string (((⟨#[80, 75, 6, 6]⟩ : ByteArray) ++ T1) ++ T2), .slice (some ⟨σ.g2, 0, none⟩) 2 2, .string T3, .string ((((⟨#[80, 75, 6, 6]⟩ : ByteArray) ++ T1) ++ T2) ++ T3), .pointer (some ⟨gh, 1, none⟩), .int .u64 (n : Nat), .pointer (some ⟨gh, 1, none⟩), .int .u64 (n : Nat), .pointer (some ⟨gh, 2, none⟩), .int .u64 (z : Nat), .pointer (some ⟨gh, 3, none⟩), .int .u64 (o : Nat), .slice (some ⟨σ.g3, 0, none⟩) 4 4, .string T4, .string (((((⟨#[80, 75, 6, 6]⟩ : ByteArray) ++ T1) ++ T2) ++ T3) ++ T4), .string ((((((⟨#[80, 75, 6, 6]⟩ : ByteArray) ++ T1) ++ T2) ++ T3) ++ T4) ++ (⟨#[80, 75, 6, 7]⟩ : ByteArray)), .string T5, .string (((((((⟨#[80, 75, 6, 6]⟩ : ByteArray) ++ T1) ++ T2) ++ T3) ++ T4) ++ (⟨#[80, 75, 6, 7]⟩ : ByteArray)) ++ T5), .int .u64 (((o : Int) + (z : Int)) % 18446744073709551616), .string T6, .string ((((((((⟨#[80, 75, 6, 6]⟩ : ByteArray) ++ T1) ++ T2) ++ T3) ++ T4) ++ (⟨#[80, 75, 6, 7]⟩ : ByteArray)) ++ T5) ++ T6), .string T7, .string (((((((((⟨#[80, 75, 6, 6]⟩ : ByteArray) ++ T1) ++ T2) ++ T3) ++ T4) ++ (⟨#[80, 75, 6, 7]⟩ : ByteArray)) ++ T5) ++ T6) ++ T7)]] : List (Array Value)).getD σ.k #[], defers := [] }) (fun σ wv => (fun ww => ww.heap[gh]? = some (.cells #[.int .i64 at0, .int .u64 (n : Nat), .int .u64 (z : Nat), .int .u64 (o : Nat), .string c, .bool wd] 29 (0, 0)) ∧ Below gh w ww) wv ∧ σ.k < 26 ∧ (([1, 4, 5, 7, 9, 12, 13, 15] : List Nat).contains σ.k = true → RdI wv .u16 (some ⟨σ.g1, 0, none⟩) [45, 45]) ∧ (([2, 4, 6, 7, 10, 12, 14, 15, 17, 19] : List Nat).contains σ.k = true → RdI wv .u32 (some ⟨σ.g2, 0, none⟩) [0, 0]) ∧ (([3, 5, 6, 7, 11, 13, 14, 15, 18, 19, 21] : List Nat).contains σ.k = true → RdI wv .u64 (some ⟨σ.g3, 0, none⟩) [n, n, z, o])) ?_ ⟨0, 0, 0, 0, 0⟩ _ ⟨hS0, (show (0 : Nat) < 26 by decide), fun h => absurd (show false = true from h) (by decide), fun h => absurd (show false = true from h) (by decide), fun h => absurd (show false = true from h) (by decide)⟩
  clear hS0
  rintro ⟨k, g1, g2, g3, g4⟩ w1 ⟨hS1, hk, hr1, hr2, hr3⟩ IH
  have hkk : k = 0 ∨ k = 1 ∨ k = 2 ∨ k = 3 ∨ k = 4 ∨ k = 5 ∨ k = 6 ∨ k = 7 ∨ k = 8 ∨ k = 9 ∨ k = 10 ∨ k = 11 ∨ k = 12 ∨ k = 13 ∨ k = 14 ∨ k = 15 ∨ k = 16 ∨ k = 17 ∨ k = 18 ∨ k = 19 ∨ k = 20 ∨ k = 21 ∨ k = 22 ∨ k = 23 ∨ k = 24 ∨ k = 25 := by have hk' : k < 26 := hk; omega
  rcases hkk with rfl | rfl | rfl | rfl | rfl | rfl | rfl | rfl | rfl | rfl | rfl | rfl | rfl | rfl | rfl | rfl | rfl | rfl | rfl | rfl | rfl | rfl | rfl | rfl | rfl | rfl
  · show wpAnyH _ _ _ _ _ 19 #[false, false, false, false, false, false, false, false, true, true, true, true, true, true, true, true, false, false, false, false, false, false, true, false, false, false, false, false] { tmps := #[.agg #[.int .i64 at0, .int .u64 (n : Nat), .int .u64 (z : Nat), .int .u64 (o : Nat), .string c, .bool wd], .pointer (some ⟨gh, 0, none⟩), .string ⟨#[]⟩, .int .u64 (((o : Int) + (z : Int)) % 18446744073709551616), .pointer (some ⟨gh, 3, none⟩), .int .u64 (o : Nat), .pointer (some ⟨gh, 2, none⟩), .int .u64 (z : Nat), .int .u64 (((o : Int) + (z : Int)) % 18446744073709551616), undef, undef, undef, undef, undef, undef, undef, undef, .pointer (some ⟨gh, 1, none⟩), .int .u64 (n : Nat), .pointer (some ⟨gh, 1, none⟩), .int .u64 (n : Nat), .pointer (some ⟨gh, 2, none⟩), .int .u64 (z : Nat), .pointer (some ⟨gh, 3, none⟩), .int .u64 (o : Nat), undef, undef, undef, undef, undef, undef, .int .u64 (((o : Int) + (z : Int)) % 18446744073709551616), undef, undef, undef, undef], defers := [] } w1
    refine wpAnyH_ready (rs := [0, 2, 5, 16]) (by kernel_rfl) (by simp) ?_
    refine AllReadyH.cons rfl (fun K hK => ?_) (AllReadyH.cons rfl (fun K hK => ?_) (AllReadyH.cons rfl (fun K hK => ?_) (AllReadyH.cons rfl (fun K hK => ?_) (AllReadyH.nil))))
    · go_simp
      refine (HC1.out w1).mono ?_
      rintro e w2 ⟨rfl, HBX⟩
      refine hK.out _ _ ⟨(HBX.block _ (lt_of_some hS1.1)).trans hS1.1, hS1.2.trans (HBX.mono (Nat.le_of_lt (lt_of_some hS1.1)))⟩ (fun hS2 => ?_)
      clear hK K
      try simp only [Act.put, List.setIfInBounds_toArray, List.set_cons_zero, List.set_cons_succ, List.getElem_toArray, List.getElem_cons_succ, List.getElem_cons_zero]
      refine wpAnyH_take (i := 1) (v := .string ((⟨#[80, 75, 6, 6]⟩ : ByteArray) ++ T1)) rfl (by kernel_rfl) (by kernel_rfl) (by kernel_rfl) (fun _ _ _ h => h) (Or.inl ⟨by kernel_rfl, ?_⟩) (by assumption) ?_
      · intro ww hSw
        clear hSw
        go_simp
        all_goals (try omega)
        all_goals (try rfl)
      try simp only [Act.put, List.setIfInBounds_toArray, List.set_cons_zero, List.set_cons_succ, List.getElem_toArray, List.getElem_cons_succ, List.getElem_cons_zero]
      exact IH ⟨8, g1, g2, g3, 0⟩ _ (show (9 : Nat) < 10 by decide) ⟨hS2, (show (8 : Nat) < 26 by decide), fun h => absurd (show false = true from h) (by decide), fun h => absurd (show false = true from h) (by decide), fun h => absurd (show false = true from h) (by decide)⟩
    · go_simp
      have HBX : Below w1.heap.size w1 (w1.alloc (.cells #[.int .u16 45, .int .u16 45] 23)) := (Below.refl _ _).alloc (Nat.le_refl _) _
      refine hK.out _ _ ⟨(HBX.block _ (lt_of_some hS1.1)).trans hS1.1, hS1.2.trans (HBX.mono (Nat.le_of_lt (lt_of_some hS1.1)))⟩ (fun hS2 => ?_)
      try simp only [Act.put, List.setIfInBounds_toArray, List.set_cons_zero, List.set_cons_succ, List.getElem_toArray, List.getElem_cons_succ, List.getElem_cons_zero]
      exact IH ⟨1, w1.heap.size, g2, g3, 0⟩ _ (show (9 : Nat) < 10 by decide) ⟨hS2, (show (1 : Nat) < 26 by decide), fun _ => RdI.of_heap (heap_alloc_new w1 (.cells #[.int .u16 45, .int .u16 45] 23)) rfl, fun h => absurd (show false = true from h) (by decide), fun h => absurd (show false = true from h) (by decide)⟩
    · go_simp
      have HBX : Below w1.heap.size w1 (w1.alloc (.cells #[.int .u32 0, .int .u32 0] 38)) := (Below.refl _ _).alloc (Nat.le_refl _) _
      refine hK.out _ _ ⟨(HBX.block _ (lt_of_some hS1.1)).trans hS1.1, hS1.2.trans (HBX.mono (Nat.le_of_lt (lt_of_some hS1.1)))⟩ (fun hS2 => ?_)
      try simp only [Act.put, List.setIfInBounds_toArray, List.set_cons_zero, List.set_cons_succ, List.getElem_toArray, List.getElem_cons_succ, List.getElem_cons_zero]
      exact IH ⟨2, g1, w1.heap.size, g3, 0⟩ _ (show (9 : Nat) < 10 by decide) ⟨hS2, (show (2 : Nat) < 26 by decide), fun h => absurd (show false = true from h) (by decide), fun _ => RdI.of_heap (heap_alloc_new w1 (.cells #[.int .u32 0, .int .u32 0] 38)) rfl, fun h => absurd (show false = true from h) (by decide)⟩
    · go_simp
      have HBX : Below w1.heap.size w1 (w1.alloc (.cells #[.int .u64 (n : Nat), .int .u64 (n : Nat), .int .u64 (z : Nat), .int .u64 (o : Nat)] 22)) := (Below.refl _ _).alloc (Nat.le_refl _) _
      refine hK.out _ _ ⟨(HBX.block _ (lt_of_some hS1.1)).trans hS1.1, hS1.2.trans (HBX.mono (Nat.le_of_lt (lt_of_some hS1.1)))⟩ (fun hS2 => ?_)
      try simp only [Act.put, List.setIfInBounds_toArray, List.set_cons_zero, List.set_cons_succ, List.getElem_toArray, List.getElem_cons_succ, List.getElem_cons_zero]
      exact IH ⟨3, g1, g2, w1.heap.size, 0⟩ _ (show (9 : Nat) < 10 by decide) ⟨hS2, (show (3 : Nat) < 26 by decide), fun h => absurd (show false = true from h) (by decide), fun h => absurd (show false = true from h) (by decide), fun _ => RdI.of_heap (heap_alloc_new w1 (.cells #[.int .u64 (n : Nat), .int .u64 (n : Nat), .int .u64 (z : Nat), .int .u64 (o : Nat)] 22)) rfl⟩
  · show wpAnyH _ _ _ _ _ 18 #[false, false, true, false, false, false, false, false, true, true, true, true, true, true, true, true, false, false, false, false, false, false, true, false, false, false, false, false] { tmps := #[.agg #[.int .i64 at0, .int .u64 (n : Nat), .int .u64 (z : Nat), .int .u64 (o : Nat), .string c, .bool wd], .pointer (some ⟨gh, 0, none⟩), .string ⟨#[]⟩, .int .u64 (((o : Int) + (z : Int)) % 18446744073709551616), .pointer (some ⟨gh, 3, none⟩), .int .u64 (o : Nat), .pointer (some ⟨gh, 2, none⟩), .int .u64 (z : Nat), .int .u64 (((o : Int) + (z : Int)) % 18446744073709551616), undef, undef, .slice (some ⟨g1, 0, none⟩) 2 2, undef, undef, undef, undef, undef, .pointer (some ⟨gh, 1, none⟩), .int .u64 (n : Nat), .pointer (some ⟨gh, 1, none⟩), .int .u64 (n : Nat), .pointer (some ⟨gh, 2, none⟩), .int .u64 (z : Nat), .pointer (some ⟨gh, 3, none⟩), .int .u64 (o : Nat), undef, undef, undef, undef, undef, undef, .int .u64 (((o : Int) + (z : Int)) % 18446744073709551616), undef, undef, undef, undef], defers := [] } w1
    refine wpAnyH_ready (rs := [0, 5, 16]) (by kernel_rfl) (by simp) ?_
    refine AllReadyH.cons rfl (fun K hK => ?_) (AllReadyH.cons rfl (fun K hK => ?_) (AllReadyH.cons rfl (fun K hK => ?_) (AllReadyH.nil)))
    · go_simp
      refine (HC1.out w1).mono ?_
      rintro e w2 ⟨rfl, HBX⟩
      refine hK.out _ _ ⟨(HBX.block _ (lt_of_some hS1.1)).trans hS1.1, hS1.2.trans (HBX.mono (Nat.le_of_lt (lt_of_some hS1.1)))⟩ (fun hS2 => ?_)
      clear hK K
      try simp only [Act.put, List.setIfInBounds_toArray, List.set_cons_zero, List.set_cons_succ, List.getElem_toArray, List.getElem_cons_succ, List.getElem_cons_zero]
      refine wpAnyH_take (i := 1) (v := .string ((⟨#[80, 75, 6, 6]⟩ : ByteArray) ++ T1)) rfl (by kernel_rfl) (by kernel_rfl) (by kernel_rfl) (fun _ _ _ h => h) (Or.inl ⟨by kernel_rfl, ?_⟩) (by assumption) ?_
      · intro ww hSw
        clear hSw
        go_simp
        all_goals (try omega)
        all_goals (try rfl)
      try simp only [Act.put, List.setIfInBounds_toArray, List.set_cons_zero, List.set_cons_succ, List.getElem_toArray, List.getElem_cons_succ, List.getElem_cons_zero]
      exact IH ⟨9, g1, g2, g3, 0⟩ _ (show (8 : Nat) < 9 by decide) ⟨hS2, (show (9 : Nat) < 26 by decide), fun _ => (hr1 rfl).below HBX, fun h => absurd (show false = true from h) (by decide), fun h => absurd (show false = true from h) (by decide)⟩
    · go_simp
      have HBX : Below w1.heap.size w1 (w1.alloc (.cells #[.int .u32 0, .int .u32 0] 38)) := (Below.refl _ _).alloc (Nat.le_refl _) _
      refine hK.out _ _ ⟨(HBX.block _ (lt_of_some hS1.1)).trans hS1.1, hS1.2.trans (HBX.mono (Nat.le_of_lt (lt_of_some hS1.1)))⟩ (fun hS2 => ?_)
      try simp only [Act.put, List.setIfInBounds_toArray, List.set_cons_zero, List.set_cons_succ, List.getElem_toArray, List.getElem_cons_succ, List.getElem_cons_zero]
      exact IH ⟨4, g1, w1.heap.size, g3, 0⟩ _ (show (8 : Nat) < 9 by decide) ⟨hS2, (show (4 : Nat) < 26 by decide), fun _ => (hr1 rfl).below HBX, fun _ => RdI.of_heap (heap_alloc_new w1 (.cells #[.int .u32 0, .int .u32 0] 38)) rfl, fun h => absurd (show false = true from h) (by decide)⟩
    · go_simp
      have HBX : Below w1.heap.size w1 (w1.alloc (.cells #[.int .u64 (n : Nat), .int .u64 (n : Nat), .int .u64 (z : Nat), .int .u64 (o : Nat)] 22)) := (Below.refl _ _).alloc (Nat.le_refl _) _
      refine hK.out _ _ ⟨(HBX.block _ (lt_of_some hS1.1)).trans hS1.1, hS1.2.trans (HBX.mono (Nat.le_of_lt (lt_of_some hS1.1)))⟩ (fun hS2 => ?_)
      try simp only [Act.put, List.setIfInBounds_toArray, List.set_cons_zero, List.set_cons_succ, List.getElem_toArray, List.getElem_cons_succ, List.getElem_cons_zero]
      exact IH ⟨5, g1, g2, w1.heap.size, 0⟩ _ (show (8 : Nat) < 9 by decide) ⟨hS2, (show (5 : Nat) < 26 by decide), fun _ => (hr1 rfl).below HBX, fun h => absurd (show false = true from h) (by decide), fun _ => RdI.of_heap (heap_alloc_new w1 (.cells #[.int .u64 (n : Nat), .int .u64 (n : Nat), .int .u64 (z : Nat), .int .u64 (o : Nat)] 22)) rfl⟩
  · show wpAnyH _ _ _ _ _ 18 #[false, false, false, false, false, true, false, false, true, true, true, true, true, true, true, true, false, false, false, false, false, false, true, false, false, false, false, false] { tmps := #[.agg #[.int .i64 at0, .int .u64 (n : Nat), .int .u64 (z : Nat), .int .u64 (o : Nat), .string c, .bool wd], .pointer (some ⟨gh, 0, none⟩), .string ⟨#[]⟩, .int .u64 (((o : Int) + (z : Int)) % 18446744073709551616), .pointer (some ⟨gh, 3, none⟩), .int .u64 (o : Nat), .pointer (some ⟨gh, 2, none⟩), .int .u64 (z : Nat), .int .u64 (((o : Int) + (z : Int)) % 18446744073709551616), undef, undef, undef, undef, undef, .slice (some ⟨g2, 0, none⟩) 2 2, undef, undef, .pointer (some ⟨gh, 1, none⟩), .int .u64 (n : Nat), .pointer (some ⟨gh, 1, none⟩), .int .u64 (n : Nat), .pointer (some ⟨gh, 2, none⟩), .int .u64 (z : Nat), .pointer (some ⟨gh, 3, none⟩), .int .u64 (o : Nat), undef, undef, undef, undef, undef, undef, .int .u64 (((o : Int) + (z : Int)) % 18446744073709551616), undef, undef, undef, undef], defers := [] } w1
    refine wpAnyH_ready (rs := [0, 2, 16]) (by kernel_rfl) (by simp) ?_
    refine AllReadyH.cons rfl (fun K hK => ?_) (AllReadyH.cons rfl (fun K hK => ?_) (AllReadyH.cons rfl (fun K hK => ?_) (AllReadyH.nil)))
    · go_simp
      refine (HC1.out w1).mono ?_
      rintro e w2 ⟨rfl, HBX⟩
      refine hK.out _ _ ⟨(HBX.block _ (lt_of_some hS1.1)).trans hS1.1, hS1.2.trans (HBX.mono (Nat.le_of_lt (lt_of_some hS1.1)))⟩ (fun hS2 => ?_)
      clear hK K
      try simp only [Act.put, List.setIfInBounds_toArray, List.set_cons_zero, List.set_cons_succ, List.getElem_toArray, List.getElem_cons_succ, List.getElem_cons_zero]
      refine wpAnyH_take (i := 1) (v := .string ((⟨#[80, 75, 6, 6]⟩ : ByteArray) ++ T1)) rfl (by kernel_rfl) (by kernel_rfl) (by kernel_rfl) (fun _ _ _ h => h) (Or.inl ⟨by kernel_rfl, ?_⟩) (by assumption) ?_
      · intro ww hSw
        clear hSw
        go_simp
        all_goals (try omega)
        all_goals (try rfl)
      try simp only [Act.put, List.setIfInBounds_toArray, List.set_cons_zero, List.set_cons_succ, List.getElem_toArray, List.getElem_cons_succ, List.getElem_cons_zero]
      exact IH ⟨10, g1, g2, g3, 0⟩ _ (show (8 : Nat) < 9 by decide) ⟨hS2, (show (10 : Nat) < 26 by decide), fun h => absurd (show false = true from h) (by decide), fun _ => (hr2 rfl).below HBX, fun h => absurd (show false = true from h) (by decide)⟩
    · go_simp
      have HBX : Below w1.heap.size w1 (w1.alloc (.cells #[.int .u16 45, .int .u16 45] 23)) := (Below.refl _ _).alloc (Nat.le_refl _) _
      refine hK.out _ _ ⟨(HBX.block _ (lt_of_some hS1.1)).trans hS1.1, hS1.2.trans (HBX.mono (Nat.le_of_lt (lt_of_some hS1.1)))⟩ (fun hS2 => ?_)
      try simp only [Act.put, List.setIfInBounds_toArray, List.set_cons_zero, List.set_cons_succ, List.getElem_toArray, List.getElem_cons_succ, List.getElem_cons_zero]
      exact IH ⟨4, w1.heap.size, g2, g3, 0⟩ _ (show (8 : Nat) < 9 by decide) ⟨hS2, (show (4 : Nat) < 26 by decide), fun _ => RdI.of_heap (heap_alloc_new w1 (.cells #[.int .u16 45, .int .u16 45] 23)) rfl, fun _ => (hr2 rfl).below HBX, fun h => absurd (show false = true from h) (by decide)⟩
    · go_simp
      have HBX : Below w1.heap.size w1 (w1.alloc (.cells #[.int .u64 (n : Nat), .int .u64 (n : Nat), .int .u64 (z : Nat), .int .u64 (o : Nat)] 22)) := (Below.refl _ _).alloc (Nat.le_refl _) _
      refine hK.out _ _ ⟨(HBX.block _ (lt_of_some hS1.1)).trans hS1.1, hS1.2.trans (HBX.mono (Nat.le_of_lt (lt_of_some hS1.1)))⟩ (fun hS2 => ?_)
      try simp only [Act.put, List.setIfInBounds_toArray, List.set_cons_zero, List.set_cons_succ, List.getElem_toArray, List.getElem_cons_succ, List.getElem_cons_zero]
      exact IH ⟨6, g1, g2, w1.heap.size, 0⟩ _ (show (8 : Nat) < 9 by decide) ⟨hS2, (show (6 : Nat) < 26 by decide), fun h => absurd (show false = true from h) (by decide), fun _ => (hr2 rfl).below HBX, fun _ => RdI.of_heap (heap_alloc_new w1 (.cells #[.int .u64 (n : Nat), .int .u64 (n : Nat), .int .u64 (z : Nat), .int .u64 (o : Nat)] 22)) rfl⟩
  · show wpAnyH _ _ _ _ _ 18 #[false, false, false, false, false, false, false, false, true, true, true, true, true, true, true, true, true, false, false, false, false, false, true, false, false, false, false, false] { tmps := #[.agg #[.int .i64 at0, .int .u64 (n : Nat), .int .u64 (z : Nat), .int .u64 (o : Nat), .string c, .bool wd], .pointer (some ⟨gh, 0, none⟩), .string ⟨#[]⟩, .int .u64 (((o : Int) + (z : Int)) % 18446744073709551616), .pointer (some ⟨gh, 3, none⟩), .int .u64 (o : Nat), .pointer (some ⟨gh, 2, none⟩), .int .u64 (z : Nat), .int .u64 (((o : Int) + (z : Int)) % 18446744073709551616), undef, undef, undef, undef, undef, undef, undef, undef, .pointer (some ⟨gh, 1, none⟩), .int .u64 (n : Nat), .pointer (some ⟨gh, 1, none⟩), .int .u64 (n : Nat), .pointer (some ⟨gh, 2, none⟩), .int .u64 (z : Nat), .pointer (some ⟨gh, 3, none⟩), .int .u64 (o : Nat), .slice (some ⟨g3, 0, none⟩) 4 4, undef, undef, undef, undef, undef, .int .u64 (((o : Int) + (z : Int)) % 18446744073709551616), undef, undef, undef, undef], defers := [] } w1
    refine wpAnyH_ready (rs := [0, 2, 5]) (by kernel_rfl) (by simp) ?_
    refine AllReadyH.cons rfl (fun K hK => ?_) (AllReadyH.cons rfl (fun K hK => ?_) (AllReadyH.cons rfl (fun K hK => ?_) (AllReadyH.nil)))
    · go_simp
      refine (HC1.out w1).mono ?_
      rintro e w2 ⟨rfl, HBX⟩
      refine hK.out _ _ ⟨(HBX.block _ (lt_of_some hS1.1)).trans hS1.1, hS1.2.trans (HBX.mono (Nat.le_of_lt (lt_of_some hS1.1)))⟩ (fun hS2 => ?_)
      clear hK K
      try simp only [Act.put, List.setIfInBounds_toArray, List.set_cons_zero, List.set_cons_succ, List.getElem_toArray, List.getElem_cons_succ, List.getElem_cons_zero]
      refine wpAnyH_take (i := 1) (v := .string ((⟨#[80, 75, 6, 6]⟩ : ByteArray) ++ T1)) rfl (by kernel_rfl) (by kernel_rfl) (by kernel_rfl) (fun _ _ _ h => h) (Or.inl ⟨by kernel_rfl, ?_⟩) (by assumption) ?_
      · intro ww hSw
        clear hSw
        go_simp
        all_goals (try omega)
        all_goals (try rfl)
      try simp only [Act.put, List.setIfInBounds_toArray, List.set_cons_zero, List.set_cons_succ, List.getElem_toArray, List.getElem_cons_succ, List.getElem_cons_zero]
      exact IH ⟨11, g1, g2, g3, 0⟩ _ (show (8 : Nat) < 9 by decide) ⟨hS2, (show (11 : Nat) < 26 by decide), fun h => absurd (show false = true from h) (by decide), fun h => absurd (show false = true from h) (by decide), fun _ => (hr3 rfl).below HBX⟩
    · go_simp
      have HBX : Below w1.heap.size w1 (w1.alloc (.cells #[.int .u16 45, .int .u16 45] 23)) := (Below.refl _ _).alloc (Nat.le_refl _) _
      refine hK.out _ _ ⟨(HBX.block _ (lt_of_some hS1.1)).trans hS1.1, hS1.2.trans (HBX.mono (Nat.le_of_lt (lt_of_some hS1.1)))⟩ (fun hS2 => ?_)
      try simp only [Act.put, List.setIfInBounds_toArray, List.set_cons_zero, List.set_cons_succ, List.getElem_toArray, List.getElem_cons_succ, List.getElem_cons_zero]
      exact IH ⟨5, w1.heap.size, g2, g3, 0⟩ _ (show (8 : Nat) < 9 by decide) ⟨hS2, (show (5 : Nat) < 26 by decide), fun _ => RdI.of_heap (heap_alloc_new w1 (.cells #[.int .u16 45, .int .u16 45] 23)) rfl, fun h => absurd (show false = true from h) (by decide), fun _ => (hr3 rfl).below HBX⟩
    · go_simp
      have HBX : Below w1.heap.size w1 (w1.alloc (.cells #[.int .u32 0, .int .u32 0] 38)) := (Below.refl _ _).alloc (Nat.le_refl _) _
      refine hK.out _ _ ⟨(HBX.block _ (lt_of_some hS1.1)).trans hS1.1, hS1.2.trans (HBX.mono (Nat.le_of_lt (lt_of_some hS1.1)))⟩ (fun hS2 => ?_)
      try simp only [Act.put, List.setIfInBounds_toArray, List.set_cons_zero, List.set_cons_succ, List.getElem_toArray, List.getElem_cons_succ, List.getElem_cons_zero]
      exact IH ⟨6, g1, w1.heap.size, g3, 0⟩ _ (show (8 : Nat) < 9 by decide) ⟨hS2, (show (6 : Nat) < 26 by decide), fun h => absurd (show false = true from h) (by decide), fun _ => RdI.of_heap (heap_alloc_new w1 (.cells #[.int .u32 0, .int .u32 0] 38)) rfl, fun _ => (hr3 rfl).below HBX⟩
  · show wpAnyH _ _ _ _ _ 17 #[false, false, true, false, false, true, false, false, true, true, true, true, true, true, true, true, false, false, false, false, false, false, true, false, false, false, false, false] { tmps := #[.agg #[.int .i64 at0, .int .u64 (n : Nat), .int .u64 (z : Nat), .int .u64 (o : Nat), .string c, .bool wd], .pointer (some ⟨gh, 0, none⟩), .string ⟨#[]⟩, .int .u64 (((o : Int) + (z : Int)) % 18446744073709551616), .pointer (some ⟨gh, 3, none⟩), .int .u64 (o : Nat), .pointer (some ⟨gh, 2, none⟩), .int .u64 (z : Nat), .int .u64 (((o : Int) + (z : Int)) % 18446744073709551616), undef, undef, .slice (some ⟨g1, 0, none⟩) 2 2, undef, undef, .slice (some ⟨g2, 0, none⟩) 2 2, undef, undef, .pointer (some ⟨gh, 1, none⟩), .int .u64 (n : Nat), .pointer (some ⟨gh, 1, none⟩), .int .u64 (n : Nat), .pointer (some ⟨gh, 2, none⟩), .int .u64 (z : Nat), .pointer (some ⟨gh, 3, none⟩), .int .u64 (o : Nat), undef, undef, undef, undef, undef, undef, .int .u64 (((o : Int) + (z : Int)) % 18446744073709551616), undef, undef, undef, undef], defers := [] } w1
    refine wpAnyH_ready (rs := [0, 16]) (by kernel_rfl) (by simp) ?_
    refine AllReadyH.cons rfl (fun K hK => ?_) (AllReadyH.cons rfl (fun K hK => ?_) (AllReadyH.nil))
    · go_simp
      refine (HC1.out w1).mono ?_
      rintro e w2 ⟨rfl, HBX⟩
      refine hK.out _ _ ⟨(HBX.block _ (lt_of_some hS1.1)).trans hS1.1, hS1.2.trans (HBX.mono (Nat.le_of_lt (lt_of_some hS1.1)))⟩ (fun hS2 => ?_)
      clear hK K
      try simp only [Act.put, List.setIfInBounds_toArray, List.set_cons_zero, List.set_cons_succ, List.getElem_toArray, List.getElem_cons_succ, List.getElem_cons_zero]
      refine wpAnyH_take (i := 1) (v := .string ((⟨#[80, 75, 6, 6]⟩ : ByteArray) ++ T1)) rfl (by kernel_rfl) (by kernel_rfl) (by kernel_rfl) (fun _ _ _ h => h) (Or.inl ⟨by kernel_rfl, ?_⟩) (by assumption) ?_
      · intro ww hSw
        clear hSw
        go_simp
        all_goals (try omega)
        all_goals (try rfl)
      try simp only [Act.put, List.setIfInBounds_toArray, List.set_cons_zero, List.set_cons_succ, List.getElem_toArray, List.getElem_cons_succ, List.getElem_cons_zero]
      exact IH ⟨12, g1, g2, g3, 0⟩ _ (show (7 : Nat) < 8 by decide) ⟨hS2, (show (12 : Nat) < 26 by decide), fun _ => (hr1 rfl).below HBX, fun _ => (hr2 rfl).below HBX, fun h => absurd (show false = true from h) (by decide)⟩
    · go_simp
      have HBX : Below w1.heap.size w1 (w1.alloc (.cells #[.int .u64 (n : Nat), .int .u64 (n : Nat), .int .u64 (z : Nat), .int .u64 (o : Nat)] 22)) := (Below.refl _ _).alloc (Nat.le_refl _) _
      refine hK.out _ _ ⟨(HBX.block _ (lt_of_some hS1.1)).trans hS1.1, hS1.2.trans (HBX.mono (Nat.le_of_lt (lt_of_some hS1.1)))⟩ (fun hS2 => ?_)
      try simp only [Act.put, List.setIfInBounds_toArray, List.set_cons_zero, List.set_cons_succ, List.getElem_toArray, List.getElem_cons_succ, List.getElem_cons_zero]
      exact IH ⟨7, g1, g2, w1.heap.size, 0⟩ _ (show (7 : Nat) < 8 by decide) ⟨hS2, (show (7 : Nat) < 26 by decide), fun _ => (hr1 rfl).below HBX, fun _ => (hr2 rfl).below HBX, fun _ => RdI.of_heap (heap_alloc_new w1 (.cells #[.int .u64 (n : Nat), .int .u64 (n : Nat), .int .u64 (z : Nat), .int .u64 (o : Nat)] 22)) rfl⟩
  · show wpAnyH _ _ _ _ _ 17 #[false, false, true, false, false, false, false, false, true, true, true, true, true, true, true, true, true, false, false, false, false, false, true, false, false, false, false, false] { tmps := #[.agg #[.int .i64 at0, .int .u64 (n : Nat), .int .u64 (z : Nat), .int .u64 (o : Nat), .string c, .bool wd], .pointer (some ⟨gh, 0, none⟩), .string ⟨#[]⟩, .int .u64 (((o : Int) + (z : Int)) % 18446744073709551616), .pointer (some ⟨gh, 3, none⟩), .int .u64 (o : Nat), .pointer (some ⟨gh, 2, none⟩), .int .u64 (z : Nat), .int .u64 (((o : Int) + (z : Int)) % 18446744073709551616), undef, undef, .slice (some ⟨g1, 0, none⟩) 2 2, undef, undef, undef, undef, undef, .pointer (some ⟨gh, 1, none⟩), .int .u64 (n : Nat), .pointer (some ⟨gh, 1, none⟩), .int .u64 (n : Nat), .pointer (some ⟨gh, 2, none⟩), .int .u64 (z : Nat), .pointer (some ⟨gh, 3, none⟩), .int .u64 (o : Nat), .slice (some ⟨g3, 0, none⟩) 4 4, undef, undef, undef, undef, undef, .int .u64 (((o : Int) + (z : Int)) % 18446744073709551616), undef, undef, undef, undef], defers := [] } w1
    refine wpAnyH_ready (rs := [0, 5]) (by kernel_rfl) (by simp) ?_
    refine AllReadyH.cons rfl (fun K hK => ?_) (AllReadyH.cons rfl (fun K hK => ?_) (AllReadyH.nil))
    · go_simp
      refine (HC1.out w1).mono ?_
      rintro e w2 ⟨rfl, HBX⟩
      refine hK.out _ _ ⟨(HBX.block _ (lt_of_some hS1.1)).trans hS1.1, hS1.2.trans (HBX.mono (Nat.le_of_lt (lt_of_some hS1.1)))⟩ (fun hS2 => ?_)
      clear hK K
      try simp only [Act.put, List.setIfInBounds_toArray, List.set_cons_zero, List.set_cons_succ, List.getElem_toArray, List.getElem_cons_succ, List.getElem_cons_zero]
      refine wpAnyH_take (i := 1) (v := .string ((⟨#[80, 75, 6, 6]⟩ : ByteArray) ++ T1)) rfl (by kernel_rfl) (by kernel_rfl) (by kernel_rfl) (fun _ _ _ h => h) (Or.inl ⟨by kernel_rfl, ?_⟩) (by assumption) ?_
      · intro ww hSw
        clear hSw
        go_simp
        all_goals (try omega)
        all_goals (try rfl)
      try simp only [Act.put, List.setIfInBounds_toArray, List.set_cons_zero, List.set_cons_succ, List.getElem_toArray, List.getElem_cons_succ, List.getElem_cons_zero]
      exact IH ⟨13, g1, g2, g3, 0⟩ _ (show (7 : Nat) < 8 by decide) ⟨hS2, (show (13 : Nat) < 26 by decide), fun _ => (hr1 rfl).below HBX, fun h => absurd (show false = true from h) (by decide), fun _ => (hr3 rfl).below HBX⟩
    · go_simp
      have HBX : Below w1.heap.size w1 (w1.alloc (.cells #[.int .u32 0, .int .u32 0] 38)) := (Below.refl _ _).alloc (Nat.le_refl _) _
      refine hK.out _ _ ⟨(HBX.block _ (lt_of_some hS1.1)).trans hS1.1, hS1.2.trans (HBX.mono (Nat.le_of_lt (lt_of_some hS1.1)))⟩ (fun hS2 => ?_)
      try simp only [Act.put, List.setIfInBounds_toArray, List.set_cons_zero, List.set_cons_succ, List.getElem_toArray, List.getElem_cons_succ, List.getElem_cons_zero]
      exact IH ⟨7, g1, w1.heap.size, g3, 0⟩ _ (show (7 : Nat) < 8 by decide) ⟨hS2, (show (7 : Nat) < 26 by decide), fun _ => (hr1 rfl).below HBX, fun _ => RdI.of_heap (heap_alloc_new w1 (.cells #[.int .u32 0, .int .u32 0] 38)) rfl, fun _ => (hr3 rfl).below HBX⟩
  · show wpAnyH _ _ _ _ _ 17 #[false, false, false, false, false, true, false, false, true, true, true, true, true, true, true, true, true, false, false, false, false, false, true, false, false, false, false, false] { tmps := #[.agg #[.int .i64 at0, .int .u64 (n : Nat), .int .u64 (z : Nat), .int .u64 (o : Nat), .string c, .bool wd], .pointer (some ⟨gh, 0, none⟩), .string ⟨#[]⟩, .int .u64 (((o : Int) + (z : Int)) % 18446744073709551616), .pointer (some ⟨gh, 3, none⟩), .int .u64 (o : Nat), .pointer (some ⟨gh, 2, none⟩), .int .u64 (z : Nat), .int .u64 (((o : Int) + (z : Int)) % 18446744073709551616), undef, undef, undef, undef, undef, .slice (some ⟨g2, 0, none⟩) 2 2, undef, undef, .pointer (some ⟨gh, 1, none⟩), .int .u64 (n : Nat), .pointer (some ⟨gh, 1, none⟩), .int .u64 (n : Nat), .pointer (some ⟨gh, 2, none⟩), .int .u64 (z : Nat), .pointer (some ⟨gh, 3, none⟩), .int .u64 (o : Nat), .slice (some ⟨g3, 0, none⟩) 4 4, undef, undef, undef, undef, undef, .int .u64 (((o : Int) + (z : Int)) % 18446744073709551616), undef, undef, undef, undef], defers := [] } w1
    refine wpAnyH_ready (rs := [0, 2]) (by kernel_rfl) (by simp) ?_
    refine AllReadyH.cons rfl (fun K hK => ?_) (AllReadyH.cons rfl (fun K hK => ?_) (AllReadyH.nil))
    · go_simp
      refine (HC1.out w1).mono ?_
      rintro e w2 ⟨rfl, HBX⟩
      refine hK.out _ _ ⟨(HBX.block _ (lt_of_some hS1.1)).trans hS1.1, hS1.2.trans (HBX.mono (Nat.le_of_lt (lt_of_some hS1.1)))⟩ (fun hS2 => ?_)
      clear hK K
      try simp only [Act.put, List.setIfInBounds_toArray, List.set_cons_zero, List.set_cons_succ, List.getElem_toArray, List.getElem_cons_succ, List.getElem_cons_zero]
      refine wpAnyH_take (i := 1) (v := .string ((⟨#[80, 75, 6, 6]⟩ : ByteArray) ++ T1)) rfl (by kernel_rfl) (by kernel_rfl) (by kernel_rfl) (fun _ _ _ h => h) (Or.inl ⟨by kernel_rfl, ?_⟩) (by assumption) ?_
      · intro ww hSw
        clear hSw
        go_simp
        all_goals (try omega)
        all_goals (try rfl)
      try simp only [Act.put, List.setIfInBounds_toArray, List.set_cons_zero, List.set_cons_succ, List.getElem_toArray, List.getElem_cons_succ, List.getElem_cons_zero]
      exact IH ⟨14, g1, g2, g3, 0⟩ _ (show (7 : Nat) < 8 by decide) ⟨hS2, (show (14 : Nat) < 26 by decide), fun h => absurd (show false = true from h) (by decide), fun _ => (hr2 rfl).below HBX, fun _ => (hr3 rfl).below HBX⟩
    · go_simp
      have HBX : Below w1.heap.size w1 (w1.alloc (.cells #[.int .u16 45, .int .u16 45] 23)) := (Below.refl _ _).alloc (Nat.le_refl _) _
      refine hK.out _ _ ⟨(HBX.block _ (lt_of_some hS1.1)).trans hS1.1, hS1.2.trans (HBX.mono (Nat.le_of_lt (lt_of_some hS1.1)))⟩ (fun hS2 => ?_)
      try simp only [Act.put, List.setIfInBounds_toArray, List.set_cons_zero, List.set_cons_succ, List.getElem_toArray, List.getElem_cons_succ, List.getElem_cons_zero]
      exact IH ⟨7, w1.heap.size, g2, g3, 0⟩ _ (show (7 : Nat) < 8 by decide) ⟨hS2, (show (7 : Nat) < 26 by decide), fun _ => RdI.of_heap (heap_alloc_new w1 (.cells #[.int .u16 45, .int .u16 45] 23)) rfl, fun _ => (hr2 rfl).below HBX, fun _ => (hr3 rfl).below HBX⟩
  · show wpAnyH _ _ _ _ _ 16 #[false, false, true, false, false, true, false, false, true, true, true, true, true, true, true, true, true, false, false, false, false, false, true, false, false, false, false, false] { tmps := #[.agg #[.int .i64 at0, .int .u64 (n : Nat), .int .u64 (z : Nat), .int .u64 (o : Nat), .string c, .bool wd], .pointer (some ⟨gh, 0, none⟩), .string ⟨#[]⟩, .int .u64 (((o : Int) + (z : Int)) % 18446744073709551616), .pointer (some ⟨gh, 3, none⟩), .int .u64 (o : Nat), .pointer (some ⟨gh, 2, none⟩), .int .u64 (z : Nat), .int .u64 (((o : Int) + (z : Int)) % 18446744073709551616), undef, undef, .slice (some ⟨g1, 0, none⟩) 2 2, undef, undef, .slice (some ⟨g2, 0, none⟩) 2 2, undef, undef, .pointer (some ⟨gh, 1, none⟩), .int .u64 (n : Nat), .pointer (some ⟨gh, 1, none⟩), .int .u64 (n : Nat), .pointer (some ⟨gh, 2, none⟩), .int .u64 (z : Nat), .pointer (some ⟨gh, 3, none⟩), .int .u64 (o : Nat), .slice (some ⟨g3, 0, none⟩) 4 4, undef, undef, undef, undef, undef, .int .u64 (((o : Int) + (z : Int)) % 18446744073709551616), undef, undef, undef, undef], defers := [] } w1
    refine wpAnyH_ready (rs := [0]) (by kernel_rfl) (by simp) ?_
    refine AllReadyH.cons rfl (fun K hK => ?_) (AllReadyH.nil)
    · go_simp
      refine (HC1.out w1).mono ?_
      rintro e w2 ⟨rfl, HBX⟩
      refine hK.out _ _ ⟨(HBX.block _ (lt_of_some hS1.1)).trans hS1.1, hS1.2.trans (HBX.mono (Nat.le_of_lt (lt_of_some hS1.1)))⟩ (fun hS2 => ?_)
      clear hK K
      try simp only [Act.put, List.setIfInBounds_toArray, List.set_cons_zero, List.set_cons_succ, List.getElem_toArray, List.getElem_cons_succ, List.getElem_cons_zero]
      refine wpAnyH_take (i := 1) (v := .string ((⟨#[80, 75, 6, 6]⟩ : ByteArray) ++ T1)) rfl (by kernel_rfl) (by kernel_rfl) (by kernel_rfl) (fun _ _ _ h => h) (Or.inl ⟨by kernel_rfl, ?_⟩) (by assumption) ?_
      · intro ww hSw
        clear hSw
        go_simp
        all_goals (try omega)
        all_goals (try rfl)
      try simp only [Act.put, List.setIfInBounds_toArray, List.set_cons_zero, List.set_cons_succ, List.getElem_toArray, List.getElem_cons_succ, List.getElem_cons_zero]
      exact IH ⟨15, g1, g2, g3, 0⟩ _ (show (6 : Nat) < 7 by decide) ⟨hS2, (show (15 : Nat) < 26 by decide), fun _ => (hr1 rfl).below HBX, fun _ => (hr2 rfl).below HBX, fun _ => (hr3 rfl).below HBX⟩
  · show wpAnyH _ _ _ _ _ 17 #[true, true, false, false, false, false, false, false, true, true, true, true, true, true, true, true, false, false, false, false, false, false, true, false, false, false, false, false] { tmps := #[.agg #[.int .i64 at0, .int .u64 (n : Nat), .int .u64 (z : Nat), .int .u64 (o : Nat), .string c, .bool wd], .pointer (some ⟨gh, 0, none⟩), .string ⟨#[]⟩, .int .u64 (((o : Int) + (z : Int)) % 18446744073709551616), .pointer (some ⟨gh, 3, none⟩), .int .u64 (o : Nat), .pointer (some ⟨gh, 2, none⟩), .int .u64 (z : Nat), .int .u64 (((o : Int) + (z : Int)) % 18446744073709551616), .string T1, .string ((⟨#[80, 75, 6, 6]⟩ : ByteArray) ++ T1), undef, undef, undef, undef, undef, undef, .pointer (some ⟨gh, 1, none⟩), .int .u64 (n : Nat), .pointer (some ⟨gh, 1, none⟩), .int .u64 (n : Nat), .pointer (some ⟨gh, 2, none⟩), .int .u64 (z : Nat), .pointer (some ⟨gh, 3, none⟩), .int .u64 (o : Nat), undef, undef, undef, undef, undef, undef, .int .u64 (((o : Int) + (z : Int)) % 18446744073709551616), undef, undef, undef, undef], defers := [] } w1
    refine wpAnyH_ready (rs := [2, 5, 16]) (by kernel_rfl) (by simp) ?_
    refine AllReadyH.cons rfl (fun K hK => ?_) (AllReadyH.cons rfl (fun K hK => ?_) (AllReadyH.cons rfl (fun K hK => ?_) (AllReadyH.nil)))
    · go_simp
      have HBX : Below w1.heap.size w1 (w1.alloc (.cells #[.int .u16 45, .int .u16 45] 23)) := (Below.refl _ _).alloc (Nat.le_refl _) _
      refine hK.out _ _ ⟨(HBX.block _ (lt_of_some hS1.1)).trans hS1.1, hS1.2.trans (HBX.mono (Nat.le_of_lt (lt_of_some hS1.1)))⟩ (fun hS2 => ?_)
      try simp only [Act.put, List.setIfInBounds_toArray, List.set_cons_zero, List.set_cons_succ, List.getElem_toArray, List.getElem_cons_succ, List.getElem_cons_zero]
      exact IH ⟨9, w1.heap.size, g2, g3, 0⟩ _ (show (8 : Nat) < 9 by decide) ⟨hS2, (show (9 : Nat) < 26 by decide), fun _ => RdI.of_heap (heap_alloc_new w1 (.cells #[.int .u16 45, .int .u16 45] 23)) rfl, fun h => absurd (show false = true from h) (by decide), fun h => absurd (show false = true from h) (by decide)⟩
    · go_simp
      have HBX : Below w1.heap.size w1 (w1.alloc (.cells #[.int .u32 0, .int .u32 0] 38)) := (Below.refl _ _).alloc (Nat.le_refl _) _
      refine hK.out _ _ ⟨(HBX.block _ (lt_of_some hS1.1)).trans hS1.1, hS1.2.trans (HBX.mono (Nat.le_of_lt (lt_of_some hS1.1)))⟩ (fun hS2 => ?_)
      try simp only [Act.put, List.setIfInBounds_toArray, List.set_cons_zero, List.set_cons_succ, List.getElem_toArray, List.getElem_cons_succ, List.getElem_cons_zero]
      exact IH ⟨10, g1, w1.heap.size, g3, 0⟩ _ (show (8 : Nat) < 9 by decide) ⟨hS2, (show (10 : Nat) < 26 by decide), fun h => absurd (show false = true from h) (by decide), fun _ => RdI.of_heap (heap_alloc_new w1 (.cells #[.int .u32 0, .int .u32 0] 38)) rfl, fun h => absurd (show false = true from h) (by decide)⟩
    · go_simp
      have HBX : Below w1.heap.size w1 (w1.alloc (.cells #[.int .u64 (n : Nat), .int .u64 (n : Nat), .int .u64 (z : Nat), .int .u64 (o : Nat)] 22)) := (Below.refl _ _).alloc (Nat.le_refl _) _
      refine hK.out _ _ ⟨(HBX.block _ (lt_of_some hS1.1)).trans hS1.1, hS1.2.trans (HBX.mono (Nat.le_of_lt (lt_of_some hS1.1)))⟩ (fun hS2 => ?_)
      try simp only [Act.put, List.setIfInBounds_toArray, List.set_cons_zero, List.set_cons_succ, List.getElem_toArray, List.getElem_cons_succ, List.getElem_cons_zero]
      exact IH ⟨11, g1, g2, w1.heap.size, 0⟩ _ (show (8 : Nat) < 9 by decide) ⟨hS2, (show (11 : Nat) < 26 by decide), fun h => absurd (show false = true from h) (by decide), fun h => absurd (show false = true from h) (by decide), fun _ => RdI.of_heap (heap_alloc_new w1 (.cells #[.int .u64 (n : Nat), .int .u64 (n : Nat), .int .u64 (z : Nat), .int .u64 (o : Nat)] 22)) rfl⟩
  · show wpAnyH _ _ _ _ _ 16 #[true, true, true, false, false, false, false, false, true, true, true, true, true, true, true, true, false, false, false, false, false, false, true, false, false, false, false, false] { tmps := #[.agg #[.int .i64 at0, .int .u64 (n : Nat), .int .u64 (z : Nat), .int .u64 (o : Nat), .string c, .bool wd], .pointer (some ⟨gh, 0, none⟩), .string ⟨#[]⟩, .int .u64 (((o : Int) + (z : Int)) % 18446744073709551616), .pointer (some ⟨gh, 3, none⟩), .int .u64 (o : Nat), .pointer (some ⟨gh, 2, none⟩), .int .u64 (z : Nat), .int .u64 (((o : Int) + (z : Int)) % 18446744073709551616), .string T1, .string ((⟨#[80, 75, 6, 6]⟩ : ByteArray) ++ T1), .slice (some ⟨g1, 0, none⟩) 2 2, undef, undef, undef, undef, undef, .pointer (some ⟨gh, 1, none⟩), .int .u64 (n : Nat), .pointer (some ⟨gh, 1, none⟩), .int .u64 (n : Nat), .pointer (some ⟨gh, 2, none⟩), .int .u64 (z : Nat), .pointer (some ⟨gh, 3, none⟩), .int .u64 (o : Nat), undef, undef, undef, undef, undef, undef, .int .u64 (((o : Int) + (z : Int)) % 18446744073709551616), undef, undef, undef, undef], defers := [] } w1
    refine wpAnyH_ready (rs := [3, 5, 16]) (by kernel_rfl) (by simp) ?_
    refine AllReadyH.cons rfl (fun K hK => ?_) (AllReadyH.cons rfl (fun K hK => ?_) (AllReadyH.cons rfl (fun K hK => ?_) (AllReadyH.nil)))
    · go_simp
      refine (HC2.out g1 w1 (hr1 rfl)).mono ?_
      rintro e w2 ⟨rfl, HBX⟩
      refine hK.out _ _ ⟨(HBX.block _ (lt_of_some hS1.1)).trans hS1.1, hS1.2.trans (HBX.mono (Nat.le_of_lt (lt_of_some hS1.1)))⟩ (fun hS2 => ?_)
      clear hK K
      try simp only [Act.put, List.setIfInBounds_toArray, List.set_cons_zero, List.set_cons_succ, List.getElem_toArray, List.getElem_cons_succ, List.getElem_cons_zero]
      refine wpAnyH_take (i := 4) (v := .string (((⟨#[80, 75, 6, 6]⟩ : ByteArray) ++ T1) ++ T2)) rfl (by kernel_rfl) (by kernel_rfl) (by kernel_rfl) (fun _ _ _ h => h) (Or.inl ⟨by kernel_rfl, ?_⟩) (by assumption) ?_
      · intro ww hSw
        clear hSw
        go_simp
        all_goals (try omega)
        all_goals (try rfl)
      try simp only [Act.put, List.setIfInBounds_toArray, List.set_cons_zero, List.set_cons_succ, List.getElem_toArray, List.getElem_cons_succ, List.getElem_cons_zero]
      exact IH ⟨16, g1, g2, g3, 0⟩ _ (show (7 : Nat) < 8 by decide) ⟨hS2, (show (16 : Nat) < 26 by decide), fun h => absurd (show false = true from h) (by decide), fun h => absurd (show false = true from h) (by decide), fun h => absurd (show false = true from h) (by decide)⟩
    · go_simp
      have HBX : Below w1.heap.size w1 (w1.alloc (.cells #[.int .u32 0, .int .u32 0] 38)) := (Below.refl _ _).alloc (Nat.le_refl _) _
      refine hK.out _ _ ⟨(HBX.block _ (lt_of_some hS1.1)).trans hS1.1, hS1.2.trans (HBX.mono (Nat.le_of_lt (lt_of_some hS1.1)))⟩ (fun hS2 => ?_)
      try simp only [Act.put, List.setIfInBounds_toArray, List.set_cons_zero, List.set_cons_succ, List.getElem_toArray, List.getElem_cons_succ, List.getElem_cons_zero]
      exact IH ⟨12, g1, w1.heap.size, g3, 0⟩ _ (show (7 : Nat) < 8 by decide) ⟨hS2, (show (12 : Nat) < 26 by decide), fun _ => (hr1 rfl).below HBX, fun _ => RdI.of_heap (heap_alloc_new w1 (.cells #[.int .u32 0, .int .u32 0] 38)) rfl, fun h => absurd (show false = true from h) (by decide)⟩
    · go_simp
      have HBX : Below w1.heap.size w1 (w1.alloc (.cells #[.int .u64 (n : Nat), .int .u64 (n : Nat), .int .u64 (z : Nat), .int .u64 (o : Nat)] 22)) := (Below.refl _ _).alloc (Nat.le_refl _) _
      refine hK.out _ _ ⟨(HBX.block _ (lt_of_some hS1.1)).trans hS1.1, hS1.2.trans (HBX.mono (Nat.le_of_lt (lt_of_some hS1.1)))⟩ (fun hS2 => ?_)
      try simp only [Act.put, List.setIfInBounds_toArray, List.set_cons_zero, List.set_cons_succ, List.getElem_toArray, List.getElem_cons_succ, List.getElem_cons_zero]
      exact IH ⟨13, g1, g2, w1.heap.size, 0⟩ _ (show (7 : Nat) < 8 by decide) ⟨hS2, (show (13 : Nat) < 26 by decide), fun _ => (hr1 rfl).below HBX, fun h => absurd (show false = true from h) (by decide), fun _ => RdI.of_heap (heap_alloc_new w1 (.cells #[.int .u64 (n : Nat), .int .u64 (n : Nat), .int .u64 (z : Nat), .int .u64 (o : Nat)] 22)) rfl⟩
  · show wpAnyH _ _ _ _ _ 16 #[true, true, false, false, false, true, false, false, true, true, true, true, true, true, true, true, false, false, false, false, false, false, true, false, false, false, false, false] { tmps := #[.agg #[.int .i64 at0, .int .u64 (n : Nat), .int .u64 (z : Nat), .int .u64 (o : Nat), .string c, .bool wd], .pointer (some ⟨gh, 0, none⟩), .string ⟨#[]⟩, .int .u64 (((o : Int) + (z : Int)) % 18446744073709551616), .pointer (some ⟨gh, 3, none⟩), .int .u64 (o : Nat), .pointer (some ⟨gh, 2, none⟩), .int .u64 (z : Nat), .int .u64 (((o : Int) + (z : Int)) % 18446744073709551616), .string T1, .string ((⟨#[80, 75, 6, 6]⟩ : ByteArray) ++ T1), undef, undef, undef, .slice (some ⟨g2, 0, none⟩) 2 2, undef, undef, .pointer (some ⟨gh, 1, none⟩), .int .u64 (n : Nat), .pointer (some ⟨gh, 1, none⟩), .int .u64 (n : Nat), .pointer (some ⟨gh, 2, none⟩), .int .u64 (z : Nat), .pointer (some ⟨gh, 3, none⟩), .int .u64 (o : Nat), undef, undef, undef, undef, undef, undef, .int .u64 (((o : Int) + (z : Int)) % 18446744073709551616), undef, undef, undef, undef], defers := [] } w1
    refine wpAnyH_ready (rs := [2, 16]) (by kernel_rfl) (by simp) ?_
    refine AllReadyH.cons rfl (fun K hK => ?_) (AllReadyH.cons rfl (fun K hK => ?_) (AllReadyH.nil))
    · go_simp
      have HBX : Below w1.heap.size w1 (w1.alloc (.cells #[.int .u16 45, .int .u16 45] 23)) := (Below.refl _ _).alloc (Nat.le_refl _) _
      refine hK.out _ _ ⟨(HBX.block _ (lt_of_some hS1.1)).trans hS1.1, hS1.2.trans (HBX.mono (Nat.le_of_lt (lt_of_some hS1.1)))⟩ (fun hS2 => ?_)
      try simp only [Act.put, List.setIfInBounds_toArray, List.set_cons_zero, List.set_cons_succ, List.getElem_toArray, List.getElem_cons_succ, List.getElem_cons_zero]
      exact IH ⟨12, w1.heap.size, g2, g3, 0⟩ _ (show (7 : Nat) < 8 by decide) ⟨hS2, (show (12 : Nat) < 26 by decide), fun _ => RdI.of_heap (heap_alloc_new w1 (.cells #[.int .u16 45, .int .u16 45] 23)) rfl, fun _ => (hr2 rfl).below HBX, fun h => absurd (show false = true from h) (by decide)⟩
    · go_simp
      have HBX : Below w1.heap.size w1 (w1.alloc (.cells #[.int .u64 (n : Nat), .int .u64 (n : Nat), .int .u64 (z : Nat), .int .u64 (o : Nat)] 22)) := (Below.refl _ _).alloc (Nat.le_refl _) _
      refine hK.out _ _ ⟨(HBX.block _ (lt_of_some hS1.1)).trans hS1.1, hS1.2.trans (HBX.mono (Nat.le_of_lt (lt_of_some hS1.1)))⟩ (fun hS2 => ?_)
      try simp only [Act.put, List.setIfInBounds_toArray, List.set_cons_zero, List.set_cons_succ, List.getElem_toArray, List.getElem_cons_succ, List.getElem_cons_zero]
      exact IH ⟨14, g1, g2, w1.heap.size, 0⟩ _ (show (7 : Nat) < 8 by decide) ⟨hS2, (show (14 : Nat) < 26 by decide), fun h => absurd (show false = true from h) (by decide), fun _ => (hr2 rfl).below HBX, fun _ => RdI.of_heap (heap_alloc_new w1 (.cells #[.int .u64 (n : Nat), .int .u64 (n : Nat), .int .u64 (z : Nat), .int .u64 (o : Nat)] 22)) rfl⟩
  · show wpAnyH _ _ _ _ _ 16 #[true, true, false, false, false, false, false, false, true, true, true, true, true, true, true, true, true, false, false, false, false, false, true, false, false, false, false, false] { tmps := #[.agg #[.int .i64 at0, .int .u64 (n : Nat), .int .u64 (z : Nat), .int .u64 (o : Nat), .string c, .bool wd], .pointer (some ⟨gh, 0, none⟩), .string ⟨#[]⟩, .int .u64 (((o : Int) + (z : Int)) % 18446744073709551616), .pointer (some ⟨gh, 3, none⟩), .int .u64 (o : Nat), .pointer (some ⟨gh, 2, none⟩), .int .u64 (z : Nat), .int .u64 (((o : Int) + (z : Int)) % 18446744073709551616), .string T1, .string ((⟨#[80, 75, 6, 6]⟩ : ByteArray) ++ T1), undef, undef, undef, undef, undef, undef, .pointer (some ⟨gh, 1, none⟩), .int .u64 (n : Nat), .pointer (some ⟨gh, 1, none⟩), .int .u64 (n : Nat), .pointer (some ⟨gh, 2, none⟩), .int .u64 (z : Nat), .pointer (some ⟨gh, 3, none⟩), .int .u64 (o : Nat), .slice (some ⟨g3, 0, none⟩) 4 4, undef, undef, undef, undef, undef, .int .u64 (((o : Int) + (z : Int)) % 18446744073709551616), undef, undef, undef, undef], defers := [] } w1
    refine wpAnyH_ready (rs := [2, 5]) (by kernel_rfl) (by simp) ?_
    refine AllReadyH.cons rfl (fun K hK => ?_) (AllReadyH.cons rfl (fun K hK => ?_) (AllReadyH.nil))
    · go_simp
      have HBX : Below w1.heap.size w1 (w1.alloc (.cells #[.int .u16 45, .int .u16 45] 23)) := (Below.refl _ _).alloc (Nat.le_refl _) _
      refine hK.out _ _ ⟨(HBX.block _ (lt_of_some hS1.1)).trans hS1.1, hS1.2.trans (HBX.mono (Nat.le_of_lt (lt_of_some hS1.1)))⟩ (fun hS2 => ?_)
      try simp only [Act.put, List.setIfInBounds_toArray, List.set_cons_zero, List.set_cons_succ, List.getElem_toArray, List.getElem_cons_succ, List.getElem_cons_zero]
      exact IH ⟨13, w1.heap.size, g2, g3, 0⟩ _ (show (7 : Nat) < 8 by decide) ⟨hS2, (show (13 : Nat) < 26 by decide), fun _ => RdI.of_heap (heap_alloc_new w1 (.cells #[.int .u16 45, .int .u16 45] 23)) rfl, fun h => absurd (show false = true from h) (by decide), fun _ => (hr3 rfl).below HBX⟩
    · go_simp
      have HBX : Below w1.heap.size w1 (w1.alloc (.cells #[.int .u32 0, .int .u32 0] 38)) := (Below.refl _ _).alloc (Nat.le_refl _) _
      refine hK.out _ _ ⟨(HBX.block _ (lt_of_some hS1.1)).trans hS1.1, hS1.2.trans (HBX.mono (Nat.le_of_lt (lt_of_some hS1.1)))⟩ (fun hS2 => ?_)
      try simp only [Act.put, List.setIfInBounds_toArray, List.set_cons_zero, List.set_cons_succ, List.getElem_toArray, List.getElem_cons_succ, List.getElem_cons_zero]
      exact IH ⟨14, g1, w1.heap.size, g3, 0⟩ _ (show (7 : Nat) < 8 by decide) ⟨hS2, (show (14 : Nat) < 26 by decide), fun h => absurd (show false = true from h) (by decide), fun _ => RdI.of_heap (heap_alloc_new w1 (.cells #[.int .u32 0, .int .u32 0] 38)) rfl, fun _ => (hr3 rfl).below HBX⟩
  · show wpAnyH _ _ _ _ _ 15 #[true, true, true, false, false, true, false, false, true, true, true, true, true, true, true, true, false, false, false, false, false, false, true, false, false, false, false, false] { tmps := #[.agg #[.int .i64 at0, .int .u64 (n : Nat), .int .u64 (z : Nat), .int .u64 (o : Nat), .string c, .bool wd], .pointer (some ⟨gh, 0, none⟩), .string ⟨#[]⟩, .int .u64 (((o : Int) + (z : Int)) % 18446744073709551616), .pointer (some ⟨gh, 3, none⟩), .int .u64 (o : Nat), .pointer (some ⟨gh, 2, none⟩), .int .u64 (z : Nat), .int .u64 (((o : Int) + (z : Int)) % 18446744073709551616), .string T1, .string ((⟨#[80, 75, 6, 6]⟩ : ByteArray) ++ T1), .slice (some ⟨g1, 0, none⟩) 2 2, undef, undef, .slice (some ⟨g2, 0, none⟩) 2 2, undef, undef, .pointer (some ⟨gh, 1, none⟩), .int .u64 (n : Nat), .pointer (some ⟨gh, 1, none⟩), .int .u64 (n : Nat), .pointer (some ⟨gh, 2, none⟩), .int .u64 (z : Nat), .pointer (some ⟨gh, 3, none⟩), .int .u64 (o : Nat), undef, undef, undef, undef, undef, undef, .int .u64 (((o : Int) + (z : Int)) % 18446744073709551616), undef, undef, undef, undef], defers := [] } w1
    refine wpAnyH_ready (rs := [3, 16]) (by kernel_rfl) (by simp) ?_
    refine AllReadyH.cons rfl (fun K hK => ?_) (AllReadyH.cons rfl (fun K hK => ?_) (AllReadyH.nil))
    · go_simp
      refine (HC2.out g1 w1 (hr1 rfl)).mono ?_
      rintro e w2 ⟨rfl, HBX⟩
      refine hK.out _ _ ⟨(HBX.block _ (lt_of_some hS1.1)).trans hS1.1, hS1.2.trans (HBX.mono (Nat.le_of_lt (lt_of_some hS1.1)))⟩ (fun hS2 => ?_)
      clear hK K
      try simp only [Act.put, List.setIfInBounds_toArray, List.set_cons_zero, List.set_cons_succ, List.getElem_toArray, List.getElem_cons_succ, List.getElem_cons_zero]
      refine wpAnyH_take (i := 4) (v := .string (((⟨#[80, 75, 6, 6]⟩ : ByteArray) ++ T1) ++ T2)) rfl (by kernel_rfl) (by kernel_rfl) (by kernel_rfl) (fun _ _ _ h => h) (Or.inl ⟨by kernel_rfl, ?_⟩) (by assumption) ?_
      · intro ww hSw
        clear hSw
        go_simp
        all_goals (try omega)
        all_goals (try rfl)
      try simp only [Act.put, List.setIfInBounds_toArray, List.set_cons_zero, List.set_cons_succ, List.getElem_toArray, List.getElem_cons_succ, List.getElem_cons_zero]
      exact IH ⟨17, g1, g2, g3, 0⟩ _ (show (6 : Nat) < 7 by decide) ⟨hS2, (show (17 : Nat) < 26 by decide), fun h => absurd (show false = true from h) (by decide), fun _ => (hr2 rfl).below HBX, fun h => absurd (show false = true from h) (by decide)⟩
    · go_simp
      have HBX : Below w1.heap.size w1 (w1.alloc (.cells #[.int .u64 (n : Nat), .int .u64 (n : Nat), .int .u64 (z : Nat), .int .u64 (o : Nat)] 22)) := (Below.refl _ _).alloc (Nat.le_refl _) _
      refine hK.out _ _ ⟨(HBX.block _ (lt_of_some hS1.1)).trans hS1.1, hS1.2.trans (HBX.mono (Nat.le_of_lt (lt_of_some hS1.1)))⟩ (fun hS2 => ?_)
      try simp only [Act.put, List.setIfInBounds_toArray, List.set_cons_zero, List.set_cons_succ, List.getElem_toArray, List.getElem_cons_succ, List.getElem_cons_zero]
      exact IH ⟨15, g1, g2, w1.heap.size, 0⟩ _ (show (6 : Nat) < 7 by decide) ⟨hS2, (show (15 : Nat) < 26 by decide), fun _ => (hr1 rfl).below HBX, fun _ => (hr2 rfl).below HBX, fun _ => RdI.of_heap (heap_alloc_new w1 (.cells #[.int .u64 (n : Nat), .int .u64 (n : Nat), .int .u64 (z : Nat), .int .u64 (o : Nat)] 22)) rfl⟩
  · show wpAnyH _ _ _ _ _ 15 #[true, true, true, false, false, false, false, false, true, true, true, true, true, true, true, true, true, false, false, false, false, false, true, false, false, false, false, false] { tmps := #[.agg #[.int .i64 at0, .int .u64 (n : Nat), .int .u64 (z : Nat), .int .u64 (o : Nat), .string c, .bool wd], .pointer (some ⟨gh, 0, none⟩), .string ⟨#[]⟩, .int .u64 (((o : Int) + (z : Int)) % 18446744073709551616), .pointer (some ⟨gh, 3, none⟩), .int .u64 (o : Nat), .pointer (some ⟨gh, 2, none⟩), .int .u64 (z : Nat), .int .u64 (((o : Int) + (z : Int)) % 18446744073709551616), .string T1, .string ((⟨#[80, 75, 6, 6]⟩ : ByteArray) ++ T1), .slice (some ⟨g1, 0, none⟩) 2 2, undef, undef, undef, undef, undef, .pointer (some ⟨gh, 1, none⟩), .int .u64 (n : Nat), .pointer (some ⟨gh, 1, none⟩), .int .u64 (n : Nat), .pointer (some ⟨gh, 2, none⟩), .int .u64 (z : Nat), .pointer (some ⟨gh, 3, none⟩), .int .u64 (o : Nat), .slice (some ⟨g3, 0, none⟩) 4 4, undef, undef, undef, undef, undef, .int .u64 (((o : Int) + (z : Int)) % 18446744073709551616), undef, undef, undef, undef], defers := [] } w1
    refine wpAnyH_ready (rs := [3, 5]) (by kernel_rfl) (by simp) ?_
    refine AllReadyH.cons rfl (fun K hK => ?_) (AllReadyH.cons rfl (fun K hK => ?_) (AllReadyH.nil))
    · go_simp
      refine (HC2.out g1 w1 (hr1 rfl)).mono ?_
      rintro e w2 ⟨rfl, HBX⟩
      refine hK.out _ _ ⟨(HBX.block _ (lt_of_some hS1.1)).trans hS1.1, hS1.2.trans (HBX.mono (Nat.le_of_lt (lt_of_some hS1.1)))⟩ (fun hS2 => ?_)
      clear hK K
      try simp only [Act.put, List.setIfInBounds_toArray, List.set_cons_zero, List.set_cons_succ, List.getElem_toArray, List.getElem_cons_succ, List.getElem_cons_zero]
      refine wpAnyH_take (i := 4) (v := .string (((⟨#[80, 75, 6, 6]⟩ : ByteArray) ++ T1) ++ T2)) rfl (by kernel_rfl) (by kernel_rfl) (by kernel_rfl) (fun _ _ _ h => h) (Or.inl ⟨by kernel_rfl, ?_⟩) (by assumption) ?_
      · intro ww hSw
        clear hSw
        go_simp
        all_goals (try omega)
        all_goals (try rfl)
      try simp only [Act.put, List.setIfInBounds_toArray, List.set_cons_zero, List.set_cons_succ, List.getElem_toArray, List.getElem_cons_succ, List.getElem_cons_zero]
      exact IH ⟨18, g1, g2, g3, 0⟩ _ (show (6 : Nat) < 7 by decide) ⟨hS2, (show (18 : Nat) < 26 by decide), fun h => absurd (show false = true from h) (by decide), fun h => absurd (show false = true from h) (by decide), fun _ => (hr3 rfl).below HBX⟩
    · go_simp
      have HBX : Below w1.heap.size w1 (w1.alloc (.cells #[.int .u32 0, .int .u32 0] 38)) := (Below.refl _ _).alloc (Nat.le_refl _) _
      refine hK.out _ _ ⟨(HBX.block _ (lt_of_some hS1.1)).trans hS1.1, hS1.2.trans (HBX.mono (Nat.le_of_lt (lt_of_some hS1.1)))⟩ (fun hS2 => ?_)
      try simp only [Act.put, List.setIfInBounds_toArray, List.set_cons_zero, List.set_cons_succ, List.getElem_toArray, List.getElem_cons_succ, List.getElem_cons_zero]
      exact IH ⟨15, g1, w1.heap.size, g3, 0⟩ _ (show (6 : Nat) < 7 by decide) ⟨hS2, (show (15 : Nat) < 26 by decide), fun _ => (hr1 rfl).below HBX, fun _ => RdI.of_heap (heap_alloc_new w1 (.cells #[.int .u32 0, .int .u32 0] 38)) rfl, fun _ => (hr3 rfl).below HBX⟩
  · show wpAnyH _ _ _ _ _ 15 #[true, true, false, false, false, true, false, false, true, true, true, true, true, true, true, true, true, false, false, false, false, false, true, false, false, false, false, false] { tmps := #[.agg #[.int .i64 at0, .int .u64 (n : Nat), .int .u64 (z : Nat), .int .u64 (o : Nat), .string c, .bool wd], .pointer (some ⟨gh, 0, none⟩), .string ⟨#[]⟩, .int .u64 (((o : Int) + (z : Int)) % 18446744073709551616), .pointer (some ⟨gh, 3, none⟩), .int .u64 (o : Nat), .pointer (some ⟨gh, 2, none⟩), .int .u64 (z : Nat), .int .u64 (((o : Int) + (z : Int)) % 18446744073709551616), .string T1, .string ((⟨#[80, 75, 6, 6]⟩ : ByteArray) ++ T1), undef, undef, undef, .slice (some ⟨g2, 0, none⟩) 2 2, undef, undef, .pointer (some ⟨gh, 1, none⟩), .int .u64 (n : Nat), .pointer (some ⟨gh, 1, none⟩), .int .u64 (n : Nat), .pointer (some ⟨gh, 2, none⟩), .int .u64 (z : Nat), .pointer (some ⟨gh, 3, none⟩), .int .u64 (o : Nat), .slice (some ⟨g3, 0, none⟩) 4 4, undef, undef, undef, undef, undef, .int .u64 (((o : Int) + (z : Int)) % 18446744073709551616), undef, undef, undef, undef], defers := [] } w1
    refine wpAnyH_ready (rs := [2]) (by kernel_rfl) (by simp) ?_
    refine AllReadyH.cons rfl (fun K hK => ?_) (AllReadyH.nil)
    · go_simp
      have HBX : Below w1.heap.size w1 (w1.alloc (.cells #[.int .u16 45, .int .u16 45] 23)) := (Below.refl _ _).alloc (Nat.le_refl _) _
      refine hK.out _ _ ⟨(HBX.block _ (lt_of_some hS1.1)).trans hS1.1, hS1.2.trans (HBX.mono (Nat.le_of_lt (lt_of_some hS1.1)))⟩ (fun hS2 => ?_)
      try simp only [Act.put, List.setIfInBounds_toArray, List.set_cons_zero, List.set_cons_succ, List.getElem_toArray, List.getElem_cons_succ, List.getElem_cons_zero]
      exact IH ⟨15, w1.heap.size, g2, g3, 0⟩ _ (show (6 : Nat) < 7 by decide) ⟨hS2, (show (15 : Nat) < 26 by decide), fun _ => RdI.of_heap (heap_alloc_new w1 (.cells #[.int .u16 45, .int .u16 45] 23)) rfl, fun _ => (hr2 rfl).below HBX, fun _ => (hr3 rfl).below HBX⟩
  · show wpAnyH _ _ _ _ _ 14 #[true, true, true, false, false, true, false, false, true, true, true, true, true, true, true, true, true, false, false, false, false, false, true, false, false, false, false, false] { tmps := #[.agg #[.int .i64 at0, .int .u64 (n : Nat), .int .u64 (z : Nat), .int .u64 (o : Nat), .string c, .bool wd], .pointer (some ⟨gh, 0, none⟩), .string ⟨#[]⟩, .int .u64 (((o : Int) + (z : Int)) % 18446744073709551616), .pointer (some ⟨gh, 3, none⟩), .int .u64 (o : Nat), .pointer (some ⟨gh, 2, none⟩), .int .u64 (z : Nat), .int .u64 (((o : Int) + (z : Int)) % 18446744073709551616), .string T1, .string ((⟨#[80, 75, 6, 6]⟩ : ByteArray) ++ T1), .slice (some ⟨g1, 0, none⟩) 2 2, undef, undef, .slice (some ⟨g2, 0, none⟩) 2 2, undef, undef, .pointer (some ⟨gh, 1, none⟩), .int .u64 (n : Nat), .pointer (some ⟨gh, 1, none⟩), .int .u64 (n : Nat), .pointer (some ⟨gh, 2, none⟩), .int .u64 (z : Nat), .pointer (some ⟨gh, 3, none⟩), .int .u64 (o : Nat), .slice (some ⟨g3, 0, none⟩) 4 4, undef, undef, undef, undef, undef, .int .u64 (((o : Int) + (z : Int)) % 18446744073709551616), undef, undef, undef, undef], defers := [] } w1
    refine wpAnyH_ready (rs := [3]) (by kernel_rfl) (by simp) ?_
    refine AllReadyH.cons rfl (fun K hK => ?_) (AllReadyH.nil)
    · go_simp
      refine (HC2.out g1 w1 (hr1 rfl)).mono ?_
      rintro e w2 ⟨rfl, HBX⟩
      refine hK.out _ _ ⟨(HBX.block _ (lt_of_some hS1.1)).trans hS1.1, hS1.2.trans (HBX.mono (Nat.le_of_lt (lt_of_some hS1.1)))⟩ (fun hS2 => ?_)
      clear hK K
      try simp only [Act.put, List.setIfInBounds_toArray, List.set_cons_zero, List.set_cons_succ, List.getElem_toArray, List.getElem_cons_succ, List.getElem_cons_zero]
      refine wpAnyH_take (i := 4) (v := .string (((⟨#[80, 75, 6, 6]⟩ : ByteArray) ++ T1) ++ T2)) rfl (by kernel_rfl) (by kernel_rfl) (by kernel_rfl) (fun _ _ _ h => h) (Or.inl ⟨by kernel_rfl, ?_⟩) (by assumption) ?_
      · intro ww hSw
        clear hSw
        go_simp
        all_goals (try omega)
        all_goals (try rfl)
      try simp only [Act.put, List.setIfInBounds_toArray, List.set_cons_zero, List.set_cons_succ, List.getElem_toArray, List.getElem_cons_succ, List.getElem_cons_zero]
      exact IH ⟨19, g1, g2, g3, 0⟩ _ (show (5 : Nat) < 6 by decide) ⟨hS2, (show (19 : Nat) < 26 by decide), fun h => absurd (show false = true from h) (by decide), fun _ => (hr2 rfl).below HBX, fun _ => (hr3 rfl).below HBX⟩
  · show wpAnyH _ _ _ _ _ 14 #[true, true, true, true, true, false, false, false, true, true, true, true, true, true, true, true, false, false, false, false, false, false, true, false, false, false, false, false] { tmps := #[.agg #[.int .i64 at0, .int .u64 (n : Nat), .int .u64 (z : Nat), .int .u64 (o : Nat), .string c, .bool wd], .pointer (some ⟨gh, 0, none⟩), .string ⟨#[]⟩, .int .u64 (((o : Int) + (z : Int)) % 18446744073709551616), .pointer (some ⟨gh, 3, none⟩), .int .u64 (o : Nat), .pointer (some ⟨gh, 2, none⟩), .int .u64 (z : Nat), .int .u64 (((o : Int) + (z : Int)) % 18446744073709551616), .string T1, .string ((⟨#[80, 75, 6, 6]⟩ : ByteArray) ++ T1), .slice (some ⟨g1, 0, none⟩) 2 2, .string T2, .string (((⟨#[80, 75, 6, 6]⟩ : ByteArray) ++ T1) ++ T2), undef, undef, undef, .pointer (some ⟨gh, 1, none⟩), .int .u64 (n : Nat), .pointer (some ⟨gh, 1, none⟩), .int .u64 (n : Nat), .pointer (some ⟨gh, 2, none⟩), .int .u64 (z : Nat), .pointer (some ⟨gh, 3, none⟩), .int .u64 (o : Nat), undef, undef, undef, undef, undef, undef, .int .u64 (((o : Int) + (z : Int)) % 18446744073709551616), undef, undef, undef, undef], defers := [] } w1
    refine wpAnyH_ready (rs := [5, 16]) (by kernel_rfl) (by simp) ?_
    refine AllReadyH.cons rfl (fun K hK => ?_) (AllReadyH.cons rfl (fun K hK => ?_) (AllReadyH.nil))
    · go_simp
      have HBX : Below w1.heap.size w1 (w1.alloc (.cells #[.int .u32 0, .int .u32 0] 38)) := (Below.refl _ _).alloc (Nat.le_refl _) _
      refine hK.out _ _ ⟨(HBX.block _ (lt_of_some hS1.1)).trans hS1.1, hS1.2.trans (HBX.mono (Nat.le_of_lt (lt_of_some hS1.1)))⟩ (fun hS2 => ?_)
      try simp only [Act.put, List.setIfInBounds_toArray, List.set_cons_zero, List.set_cons_succ, List.getElem_toArray, List.getElem_cons_succ, List.getElem_cons_zero]
      exact IH ⟨17, g1, w1.heap.size, g3, 0⟩ _ (show (6 : Nat) < 7 by decide) ⟨hS2, (show (17 : Nat) < 26 by decide), fun h => absurd (show false = true from h) (by decide), fun _ => RdI.of_heap (heap_alloc_new w1 (.cells #[.int .u32 0, .int .u32 0] 38)) rfl, fun h => absurd (show false = true from h) (by decide)⟩
    · go_simp
      have HBX : Below w1.heap.size w1 (w1.alloc (.cells #[.int .u64 (n : Nat), .int .u64 (n : Nat), .int .u64 (z : Nat), .int .u64 (o : Nat)] 22)) := (Below.refl _ _).alloc (Nat.le_refl _) _
      refine hK.out _ _ ⟨(HBX.block _ (lt_of_some hS1.1)).trans hS1.1, hS1.2.trans (HBX.mono (Nat.le_of_lt (lt_of_some hS1.1)))⟩ (fun hS2 => ?_)
      try simp only [Act.put, List.setIfInBounds_toArray, List.set_cons_zero, List.set_cons_succ, List.getElem_toArray, List.getElem_cons_succ, List.getElem_cons_zero]
      exact IH ⟨18, g1, g2, w1.heap.size, 0⟩ _ (show (6 : Nat) < 7 by decide) ⟨hS2, (show (18 : Nat) < 26 by decide), fun h => absurd (show false = true from h) (by decide), fun h => absurd (show false = true from h) (by decide), fun _ => RdI.of_heap (heap_alloc_new w1 (.cells #[.int .u64 (n : Nat), .int .u64 (n : Nat), .int .u64 (z : Nat), .int .u64 (o : Nat)] 22)) rfl⟩
  · show wpAnyH _ _ _ _ _ 13 #[true, true, true, true, true, true, false, false, true, true, true, true, true, true, true, true, false, false, false, false, false, false, true, false, false, false, false, false] { tmps := #[.agg #[.int .i64 at0, .int .u64 (n : Nat), .int .u64 (z : Nat), .int .u64 (o : Nat), .string c, .bool wd], .pointer (some ⟨gh, 0, none⟩), .string ⟨#[]⟩, .int .u64 (((o : Int) + (z : Int)) % 18446744073709551616), .pointer (some ⟨gh, 3, none⟩), .int .u64 (o : Nat), .pointer (some ⟨gh, 2, none⟩), .int .u64 (z : Nat), .int .u64 (((o : Int) + (z : Int)) % 18446744073709551616), .string T1, .string ((⟨#[80, 75, 6, 6]⟩ : ByteArray) ++ T1), .slice (some ⟨g1, 0, none⟩) 2 2, .string T2, .string (((⟨#[80, 75, 6, 6]⟩ : ByteArray) ++ T1) ++ T2), .slice (some ⟨g2, 0, none⟩) 2 2, undef, undef, .pointer (some ⟨gh, 1, none⟩), .int .u64 (n : Nat), .pointer (some ⟨gh, 1, none⟩), .int .u64 (n : Nat), .pointer (some ⟨gh, 2, none⟩), .int .u64 (z : Nat), .pointer (some ⟨gh, 3, none⟩), .int .u64 (o : Nat), undef, undef, undef, undef, undef, undef, .int .u64 (((o : Int) + (z : Int)) % 18446744073709551616), undef, undef, undef, undef], defers := [] } w1
    refine wpAnyH_ready (rs := [6, 16]) (by kernel_rfl) (by simp) ?_
    refine AllReadyH.cons rfl (fun K hK => ?_) (AllReadyH.cons rfl (fun K hK => ?_) (AllReadyH.nil))
    · go_simp
      refine (HC3.out g2 w1 (hr2 rfl)).mono ?_
      rintro e w2 ⟨rfl, HBX⟩
      refine hK.out _ _ ⟨(HBX.block _ (lt_of_some hS1.1)).trans hS1.1, hS1.2.trans (HBX.mono (Nat.le_of_lt (lt_of_some hS1.1)))⟩ (fun hS2 => ?_)
      clear hK K
      try simp only [Act.put, List.setIfInBounds_toArray, List.set_cons_zero, List.set_cons_succ, List.getElem_toArray, List.getElem_cons_succ, List.getElem_cons_zero]
      refine wpAnyH_take (i := 7) (v := .string ((((⟨#[80, 75, 6, 6]⟩ : ByteArray) ++ T1) ++ T2) ++ T3)) rfl (by kernel_rfl) (by kernel_rfl) (by kernel_rfl) (fun _ _ _ h => h) (Or.inl ⟨by kernel_rfl, ?_⟩) (by assumption) ?_
      · intro ww hSw
        clear hSw
        go_simp
        all_goals (try omega)
        all_goals (try rfl)
      try simp only [Act.put, List.setIfInBounds_toArray, List.set_cons_zero, List.set_cons_succ, List.getElem_toArray, List.getElem_cons_succ, List.getElem_cons_zero]
      exact IH ⟨20, g1, g2, g3, 0⟩ _ (show (5 : Nat) < 6 by decide) ⟨hS2, (show (20 : Nat) < 26 by decide), fun h => absurd (show false = true from h) (by decide), fun h => absurd (show false = true from h) (by decide), fun h => absurd (show false = true from h) (by decide)⟩
    · go_simp
      have HBX : Below w1.heap.size w1 (w1.alloc (.cells #[.int .u64 (n : Nat), .int .u64 (n : Nat), .int .u64 (z : Nat), .int .u64 (o : Nat)] 22)) := (Below.refl _ _).alloc (Nat.le_refl _) _
      refine hK.out _ _ ⟨(HBX.block _ (lt_of_some hS1.1)).trans hS1.1, hS1.2.trans (HBX.mono (Nat.le_of_lt (lt_of_some hS1.1)))⟩ (fun hS2 => ?_)
      try simp only [Act.put, List.setIfInBounds_toArray, List.set_cons_zero, List.set_cons_succ, List.getElem_toArray, List.getElem_cons_succ, List.getElem_cons_zero]
      exact IH ⟨19, g1, g2, w1.heap.size, 0⟩ _ (show (5 : Nat) < 6 by decide) ⟨hS2, (show (19 : Nat) < 26 by decide), fun h => absurd (show false = true from h) (by decide), fun _ => (hr2 rfl).below HBX, fun _ => RdI.of_heap (heap_alloc_new w1 (.cells #[.int .u64 (n : Nat), .int .u64 (n : Nat), .int .u64 (z : Nat), .int .u64 (o : Nat)] 22)) rfl⟩
  · show wpAnyH _ _ _ _ _ 13 #[true, true, true, true, true, false, false, false, true, true, true, true, true, true, true, true, true, false, false, false, false, false, true, false, false, false, false, false] { tmps := #[.agg #[.int .i64 at0, .int .u64 (n : Nat), .int .u64 (z : Nat), .int .u64 (o : Nat), .string c, .bool wd], .pointer (some ⟨gh, 0, none⟩), .string ⟨#[]⟩, .int .u64 (((o : Int) + (z : Int)) % 18446744073709551616), .pointer (some ⟨gh, 3, none⟩), .int .u64 (o : Nat), .pointer (some ⟨gh, 2, none⟩), .int .u64 (z : Nat), .int .u64 (((o : Int) + (z : Int)) % 18446744073709551616), .string T1, .string ((⟨#[80, 75, 6, 6]⟩ : ByteArray) ++ T1), .slice (some ⟨g1, 0, none⟩) 2 2, .string T2, .string (((⟨#[80, 75, 6, 6]⟩ : ByteArray) ++ T1) ++ T2), undef, undef, undef, .pointer (some ⟨gh, 1, none⟩), .int .u64 (n : Nat), .pointer (some ⟨gh, 1, none⟩), .int .u64 (n : Nat), .pointer (some ⟨gh, 2, none⟩), .int .u64 (z : Nat), .pointer (some ⟨gh, 3, none⟩), .int .u64 (o : Nat), .slice (some ⟨g3, 0, none⟩) 4 4, undef, undef, undef, undef, undef, .int .u64 (((o : Int) + (z : Int)) % 18446744073709551616), undef, undef, undef, undef], defers := [] } w1
    refine wpAnyH_ready (rs := [5]) (by kernel_rfl) (by simp) ?_
    refine AllReadyH.cons rfl (fun K hK => ?_) (AllReadyH.nil)
    · go_simp
      have HBX : Below w1.heap.size w1 (w1.alloc (.cells #[.int .u32 0, .int .u32 0] 38)) := (Below.refl _ _).alloc (Nat.le_refl _) _
      refine hK.out _ _ ⟨(HBX.block _ (lt_of_some hS1.1)).trans hS1.1, hS1.2.trans (HBX.mono (Nat.le_of_lt (lt_of_some hS1.1)))⟩ (fun hS2 => ?_)
      try simp only [Act.put, List.setIfInBounds_toArray, List.set_cons_zero, List.set_cons_succ, List.getElem_toArray, List.getElem_cons_succ, List.getElem_cons_zero]
      exact IH ⟨19, g1, w1.heap.size, g3, 0⟩ _ (show (5 : Nat) < 6 by decide) ⟨hS2, (show (19 : Nat) < 26 by decide), fun h => absurd (show false = true from h) (by decide), fun _ => RdI.of_heap (heap_alloc_new w1 (.cells #[.int .u32 0, .int .u32 0] 38)) rfl, fun _ => (hr3 rfl).below HBX⟩
  · show wpAnyH _ _ _ _ _ 12 #[true, true, true, true, true, true, false, false, true, true, true, true, true, true, true, true, true, false, false, false, false, false, true, false, false, false, false, false] { tmps := #[.agg #[.int .i64 at0, .int .u64 (n : Nat), .int .u64 (z : Nat), .int .u64 (o : Nat), .string c, .bool wd], .pointer (some ⟨gh, 0, none⟩), .string ⟨#[]⟩, .int .u64 (((o : Int) + (z : Int)) % 18446744073709551616), .pointer (some ⟨gh, 3, none⟩), .int .u64 (o : Nat), .pointer (some ⟨gh, 2, none⟩), .int .u64 (z : Nat), .int .u64 (((o : Int) + (z : Int)) % 18446744073709551616), .string T1, .string ((⟨#[80, 75, 6, 6]⟩ : ByteArray) ++ T1), .slice (some ⟨g1, 0, none⟩) 2 2, .string T2, .string (((⟨#[80, 75, 6, 6]⟩ : ByteArray) ++ T1) ++ T2), .slice (some ⟨g2, 0, none⟩) 2 2, undef, undef, .pointer (some ⟨gh, 1, none⟩), .int .u64 (n : Nat), .pointer (some ⟨gh, 1, none⟩), .int .u64 (n : Nat), .pointer (some ⟨gh, 2, none⟩), .int .u64 (z : Nat), .pointer (some ⟨gh, 3, none⟩), .int .u64 (o : Nat), .slice (some ⟨g3, 0, none⟩) 4 4, undef, undef, undef, undef, undef, .int .u64 (((o : Int) + (z : Int)) % 18446744073709551616), undef, undef, undef, undef], defers := [] } w1
    refine wpAnyH_ready (rs := [6]) (by kernel_rfl) (by simp) ?_
    refine AllReadyH.cons rfl (fun K hK => ?_) (AllReadyH.nil)
    · go_simp
      refine (HC3.out g2 w1 (hr2 rfl)).mono ?_
      rintro e w2 ⟨rfl, HBX⟩
      refine hK.out _ _ ⟨(HBX.block _ (lt_of_some hS1.1)).trans hS1.1, hS1.2.trans (HBX.mono (Nat.le_of_lt (lt_of_some hS1.1)))⟩ (fun hS2 => ?_)
      clear hK K
      try simp only [Act.put, List.setIfInBounds_toArray, List.set_cons_zero, List.set_cons_succ, List.getElem_toArray, List.getElem_cons_succ, List.getElem_cons_zero]
      refine wpAnyH_take (i := 7) (v := .string ((((⟨#[80, 75, 6, 6]⟩ : ByteArray) ++ T1) ++ T2) ++ T3)) rfl (by kernel_rfl) (by kernel_rfl) (by kernel_rfl) (fun _ _ _ h => h) (Or.inl ⟨by kernel_rfl, ?_⟩) (by assumption) ?_
      · intro ww hSw
        clear hSw
        go_simp
        all_goals (try omega)
        all_goals (try rfl)
      try simp only [Act.put, List.setIfInBounds_toArray, List.set_cons_zero, List.set_cons_succ, List.getElem_toArray, List.getElem_cons_succ, List.getElem_cons_zero]
      exact IH ⟨21, g1, g2, g3, 0⟩ _ (show (4 : Nat) < 5 by decide) ⟨hS2, (show (21 : Nat) < 26 by decide), fun h => absurd (show false = true from h) (by decide), fun h => absurd (show false = true from h) (by decide), fun _ => (hr3 rfl).below HBX⟩
  · show wpAnyH _ _ _ _ _ 11 #[true, true, true, true, true, true, true, true, true, true, true, true, true, true, true, true, false, false, false, false, false, false, true, false, false, false, false, false] { tmps := #[.agg #[.int .i64 at0, .int .u64 (n : Nat), .int .u64 (z : Nat), .int .u64 (o : Nat), .string c, .bool wd], .pointer (some ⟨gh, 0, none⟩), .string ⟨#[]⟩, .int .u64 (((o : Int) + (z : Int)) % 18446744073709551616), .pointer (some ⟨gh, 3, none⟩), .int .u64 (o : Nat), .pointer (some ⟨gh, 2, none⟩), .int .u64 (z : Nat), .int .u64 (((o : Int) + (z : Int)) % 18446744073709551616), .string T1, .string ((⟨#[80, 75, 6, 6]⟩ : ByteArray) ++ T1), .slice (some ⟨g1, 0, none⟩) 2 2, .string T2, .string (((⟨#[80, 75, 6, 6]⟩ : ByteArray) ++ T1) ++ T2), .slice (some ⟨g2, 0, none⟩) 2 2, .string T3, .string ((((⟨#[80, 75, 6, 6]⟩ : ByteArray) ++ T1) ++ T2) ++ T3), .pointer (some ⟨gh, 1, none⟩), .int .u64 (n : Nat), .pointer (some ⟨gh, 1, none⟩), .int .u64 (n : Nat), .pointer (some ⟨gh, 2, none⟩), .int .u64 (z : Nat), .pointer (some ⟨gh, 3, none⟩), .int .u64 (o : Nat), undef, undef, undef, undef, undef, undef, .int .u64 (((o : Int) + (z : Int)) % 18446744073709551616), undef, undef, undef, undef], defers := [] } w1
    refine wpAnyH_ready (rs := [16]) (by kernel_rfl) (by simp) ?_
    refine AllReadyH.cons rfl (fun K hK => ?_) (AllReadyH.nil)
    · go_simp
      have HBX : Below w1.heap.size w1 (w1.alloc (.cells #[.int .u64 (n : Nat), .int .u64 (n : Nat), .int .u64 (z : Nat), .int .u64 (o : Nat)] 22)) := (Below.refl _ _).alloc (Nat.le_refl _) _
      refine hK.out _ _ ⟨(HBX.block _ (lt_of_some hS1.1)).trans hS1.1, hS1.2.trans (HBX.mono (Nat.le_of_lt (lt_of_some hS1.1)))⟩ (fun hS2 => ?_)
      try simp only [Act.put, List.setIfInBounds_toArray, List.set_cons_zero, List.set_cons_succ, List.getElem_toArray, List.getElem_cons_succ, List.getElem_cons_zero]
      exact IH ⟨21, g1, g2, w1.heap.size, 0⟩ _ (show (4 : Nat) < 5 by decide) ⟨hS2, (show (21 : Nat) < 26 by decide), fun h => absurd (show false = true from h) (by decide), fun h => absurd (show false = true from h) (by decide), fun _ => RdI.of_heap (heap_alloc_new w1 (.cells #[.int .u64 (n : Nat), .int .u64 (n : Nat), .int .u64 (z : Nat), .int .u64 (o : Nat)] 22)) rfl⟩
  · show wpAnyH _ _ _ _ _ 10 #[true, true, true, true, true, true, true, true, true, true, true, true, true, true, true, true, true, false, false, false, false, false, true, false, false, false, false, false] { tmps := #[.agg #[.int .i64 at0, .int .u64 (n : Nat), .int .u64 (z : Nat), .int .u64 (o : Nat), .string c, .bool wd], .pointer (some ⟨gh, 0, none⟩), .string ⟨#[]⟩, .int .u64 (((o : Int) + (z : Int)) % 18446744073709551616), .pointer (some ⟨gh, 3, none⟩), .int .u64 (o : Nat), .pointer (some ⟨gh, 2, none⟩), .int .u64 (z : Nat), .int .u64 (((o : Int) + (z : Int)) % 18446744073709551616), .string T1, .string ((⟨#[80, 75, 6, 6]⟩ : ByteArray) ++ T1), .slice (some ⟨g1, 0, none⟩) 2 2, .string T2, .string (((⟨#[80, 75, 6, 6]⟩ : ByteArray) ++ T1) ++ T2), .slice (some ⟨g2, 0, none⟩) 2 2, .string T3, .string ((((⟨#[80, 75, 6, 6]⟩ : ByteArray) ++ T1) ++ T2) ++ T3), .pointer (some ⟨gh, 1, none⟩), .int .u64 (n : Nat), .pointer (some ⟨gh, 1, none⟩), .int .u64 (n : Nat), .pointer (some ⟨gh, 2, none⟩), .int .u64 (z : Nat), .pointer (some ⟨gh, 3, none⟩), .int .u64 (o : Nat), .slice (some ⟨g3, 0, none⟩) 4 4, undef, undef, undef, undef, undef, .int .u64 (((o : Int) + (z : Int)) % 18446744073709551616), undef, undef, undef, undef], defers := [] } w1
    refine wpAnyH_ready (rs := [17]) (by kernel_rfl) (by simp) ?_
    refine AllReadyH.cons rfl (fun K hK => ?_) (AllReadyH.nil)
    · go_simp
      refine (HC4.out g3 w1 (hr3 rfl)).mono ?_
      rintro e w2 ⟨rfl, HBX⟩
      refine hK.out _ _ ⟨(HBX.block _ (lt_of_some hS1.1)).trans hS1.1, hS1.2.trans (HBX.mono (Nat.le_of_lt (lt_of_some hS1.1)))⟩ (fun hS2 => ?_)
      clear hK K
      try simp only [Act.put, List.setIfInBounds_toArray, List.set_cons_zero, List.set_cons_succ, List.getElem_toArray, List.getElem_cons_succ, List.getElem_cons_zero]
      refine wpAnyH_take (i := 18) (v := .string (((((⟨#[80, 75, 6, 6]⟩ : ByteArray) ++ T1) ++ T2) ++ T3) ++ T4)) rfl (by kernel_rfl) (by kernel_rfl) (by kernel_rfl) (fun _ _ _ h => h) (Or.inl ⟨by kernel_rfl, ?_⟩) (by assumption) ?_
      · intro ww hSw
        clear hSw
        go_simp
        all_goals (try omega)
        all_goals (try rfl)
      try simp only [Act.put, List.setIfInBounds_toArray, List.set_cons_zero, List.set_cons_succ, List.getElem_toArray, List.getElem_cons_succ, List.getElem_cons_zero]
      refine wpAnyH_take (i := 19) (v := .string ((((((⟨#[80, 75, 6, 6]⟩ : ByteArray) ++ T1) ++ T2) ++ T3) ++ T4) ++ (⟨#[80, 75, 6, 7]⟩ : ByteArray))) rfl (by kernel_rfl) (by kernel_rfl) (by kernel_rfl) (fun _ _ _ h => h) (Or.inl ⟨by kernel_rfl, ?_⟩) (by assumption) ?_
      · intro ww hSw
        clear hSw
        go_simp
        all_goals (try omega)
        all_goals (try rfl)
      try simp only [Act.put, List.setIfInBounds_toArray, List.set_cons_zero, List.set_cons_succ, List.getElem_toArray, List.getElem_cons_succ, List.getElem_cons_zero]
      exact IH ⟨22, g1, g2, g3, 0⟩ _ (show (3 : Nat) < 4 by decide) ⟨hS2, (show (22 : Nat) < 26 by decide), fun h => absurd (show false = true from h) (by decide), fun h => absurd (show false = true from h) (by decide), fun h => absurd (show false = true from h) (by decide)⟩
  · show wpAnyH _ _ _ _ _ 7 #[true, true, true, true, true, true, true, true, true, true, true, true, true, true, true, true, true, true, true, true, false, false, true, false, false, false, false, false] { tmps := #[.agg #[.int .i64 at0, .int .u64 (n : Nat), .int .u64 (z : Nat), .int .u64 (o : Nat), .string c, .bool wd], .pointer (some ⟨gh, 0, none⟩), .string ⟨#[]⟩, .int .u64 (((o : Int) + (z : Int)) % 18446744073709551616), .pointer (some ⟨gh, 3, none⟩), .int .u64 (o : Nat), .pointer (some ⟨gh, 2, none⟩), .int .u64 (z : Nat), .int .u64 (((o : Int) + (z : Int)) % 18446744073709551616), .string T1, .string ((⟨#[80, 75, 6, 6]⟩ : ByteArray) ++ T1), .slice (some ⟨g1, 0, none⟩) 2 2, .string T2, .string (((⟨#[80, 75, 6, 6]⟩ : ByteArray) ++ T1) ++ T2), .slice (some ⟨g2, 0, none⟩) 2 2, .string T3, .string ((((⟨#[80, 75, 6, 6]⟩ : ByteArray) ++ T1) ++ T2) ++ T3), .pointer (some ⟨gh, 1, none⟩), .int .u64 (n : Nat), .pointer (some ⟨gh, 1, none⟩), .int .u64 (n : Nat), .pointer (some ⟨gh, 2, none⟩), .int .u64 (z : Nat), .pointer (some ⟨gh, 3, none⟩), .int .u64 (o : Nat), .slice (some ⟨g3, 0, none⟩) 4 4, .string T4, .string (((((⟨#[80, 75, 6, 6]⟩ : ByteArray) ++ T1) ++ T2) ++ T3) ++ T4), .string ((((((⟨#[80, 75, 6, 6]⟩ : ByteArray) ++ T1) ++ T2) ++ T3) ++ T4) ++ (⟨#[80, 75, 6, 7]⟩ : ByteArray)), undef, undef, .int .u64 (((o : Int) + (z : Int)) % 18446744073709551616), undef, undef, undef, undef], defers := [] } w1
    refine wpAnyH_ready (rs := [20]) (by kernel_rfl) (by simp) ?_
    refine AllReadyH.cons rfl (fun K hK => ?_) (AllReadyH.nil)
    · go_simp
      refine (HC5.out w1).mono ?_
      rintro e w2 ⟨rfl, HBX⟩
      refine hK.out _ _ ⟨(HBX.block _ (lt_of_some hS1.1)).trans hS1.1, hS1.2.trans (HBX.mono (Nat.le_of_lt (lt_of_some hS1.1)))⟩ (fun hS2 => ?_)
      clear hK K
      try simp only [Act.put, List.setIfInBounds_toArray, List.set_cons_zero, List.set_cons_succ, List.getElem_toArray, List.getElem_cons_succ, List.getElem_cons_zero]
      refine wpAnyH_take (i := 21) (v := .string (((((((⟨#[80, 75, 6, 6]⟩ : ByteArray) ++ T1) ++ T2) ++ T3) ++ T4) ++ (⟨#[80, 75, 6, 7]⟩ : ByteArray)) ++ T5)) rfl (by kernel_rfl) (by kernel_rfl) (by kernel_rfl) (fun _ _ _ h => h) (Or.inl ⟨by kernel_rfl, ?_⟩) (by assumption) ?_
      · intro ww hSw
        clear hSw
        go_simp
        all_goals (try omega)
        all_goals (try rfl)
      try simp only [Act.put, List.setIfInBounds_toArray, List.set_cons_zero, List.set_cons_succ, List.getElem_toArray, List.getElem_cons_succ, List.getElem_cons_zero]
      exact IH ⟨23, g1, g2, g3, 0⟩ _ (show (2 : Nat) < 3 by decide) ⟨hS2, (show (23 : Nat) < 26 by decide), fun h => absurd (show false = true from h) (by decide), fun h => absurd (show false = true from h) (by decide), fun h => absurd (show false = true from h) (by decide)⟩
  · show wpAnyH _ _ _ _ _ 5 #[true, true, true, true, true, true, true, true, true, true, true, true, true, true, true, true, true, true, true, true, true, true, true, false, false, false, false, false] { tmps := #[.agg #[.int .i64 at0, .int .u64 (n : Nat), .int .u64 (z : Nat), .int .u64 (o : Nat), .string c, .bool wd], .pointer (some ⟨gh, 0, none⟩), .string ⟨#[]⟩, .int .u64 (((o : Int) + (z : Int)) % 18446744073709551616), .pointer (some ⟨gh, 3, none⟩), .int .u64 (o : Nat), .pointer (some ⟨gh, 2, none⟩), .int .u64 (z : Nat), .int .u64 (((o : Int) + (z : Int)) % 18446744073709551616), .string T1, .string ((⟨#[80, 75, 6, 6]⟩ : ByteArray) ++ T1), .slice (some ⟨g1, 0, none⟩) 2 2, .string T2, .string (((⟨#[80, 75, 6, 6]⟩ : ByteArray) ++ T1) ++ T2), .slice (some ⟨g2, 0, none⟩) 2 2, .string T3, .string ((((⟨#[80, 75, 6, 6]⟩ : ByteArray) ++ T1) ++ T2) ++ T3), .pointer (some ⟨gh, 1, none⟩), .int .u64 (n : Nat), .pointer (some ⟨gh, 1, none⟩), .int .u64 (n : Nat), .pointer (some ⟨gh, 2, none⟩), .int .u64 (z : Nat), .pointer (some ⟨gh, 3, none⟩), .int .u64 (o : Nat), .slice (some ⟨g3, 0, none⟩) 4 4, .string T4, .string (((((⟨#[80, 75, 6, 6]⟩ : ByteArray) ++ T1) ++ T2) ++ T3) ++ T4), .string ((((((⟨#[80, 75, 6, 6]⟩ : ByteArray) ++ T1) ++ T2) ++ T3) ++ T4) ++ (⟨#[80, 75, 6, 7]⟩ : ByteArray)), .string T5, .string (((((((⟨#[80, 75, 6, 6]⟩ : ByteArray) ++ T1) ++ T2) ++ T3) ++ T4) ++ (⟨#[80, 75, 6, 7]⟩ : ByteArray)) ++ T5), .int .u64 (((o : Int) + (z : Int)) % 18446744073709551616), undef, undef, undef, undef], defers := [] } w1
    refine wpAnyH_ready (rs := [23]) (by kernel_rfl) (by simp) ?_
    refine AllReadyH.cons rfl (fun K hK => ?_) (AllReadyH.nil)
    · go_simp
      refine (HC6.out w1).mono ?_
      rintro e w2 ⟨rfl, HBX⟩
      refine hK.out _ _ ⟨(HBX.block _ (lt_of_some hS1.1)).trans hS1.1, hS1.2.trans (HBX.mono (Nat.le_of_lt (lt_of_some hS1.1)))⟩ (fun hS2 => ?_)
      clear hK K
      try simp only [Act.put, List.setIfInBounds_toArray, List.set_cons_zero, List.set_cons_succ, List.getElem_toArray, List.getElem_cons_succ, List.getElem_cons_zero]
      refine wpAnyH_take (i := 24) (v := .string ((((((((⟨#[80, 75, 6, 6]⟩ : ByteArray) ++ T1) ++ T2) ++ T3) ++ T4) ++ (⟨#[80, 75, 6, 7]⟩ : ByteArray)) ++ T5) ++ T6)) rfl (by kernel_rfl) (by kernel_rfl) (by kernel_rfl) (fun _ _ _ h => h) (Or.inl ⟨by kernel_rfl, ?_⟩) (by assumption) ?_
      · intro ww hSw
        clear hSw
        go_simp
        all_goals (try omega)
        all_goals (try rfl)
      try simp only [Act.put, List.setIfInBounds_toArray, List.set_cons_zero, List.set_cons_succ, List.getElem_toArray, List.getElem_cons_succ, List.getElem_cons_zero]
      exact IH ⟨24, g1, g2, g3, 0⟩ _ (show (1 : Nat) < 2 by decide) ⟨hS2, (show (24 : Nat) < 26 by decide), fun h => absurd (show false = true from h) (by decide), fun h => absurd (show false = true from h) (by decide), fun h => absurd (show false = true from h) (by decide)⟩
  · show wpAnyH _ _ _ _ _ 3 #[true, true, true, true, true, true, true, true, true, true, true, true, true, true, true, true, true, true, true, true, true, true, true, true, true, false, false, false] { tmps := #[.agg #[.int .i64 at0, .int .u64 (n : Nat), .int .u64 (z : Nat), .int .u64 (o : Nat), .string c, .bool wd], .pointer (some ⟨gh, 0, none⟩), .string ⟨#[]⟩, .int .u64 (((o : Int) + (z : Int)) % 18446744073709551616), .pointer (some ⟨gh, 3, none⟩), .int .u64 (o : Nat), .pointer (some ⟨gh, 2, none⟩), .int .u64 (z : Nat), .int .u64 (((o : Int) + (z : Int)) % 18446744073709551616), .string T1, .string ((⟨#[80, 75, 6, 6]⟩ : ByteArray) ++ T1), .slice (some ⟨g1, 0, none⟩) 2 2, .string T2, .string (((⟨#[80, 75, 6, 6]⟩ : ByteArray) ++ T1) ++ T2), .slice (some ⟨g2, 0, none⟩) 2 2, .string T3, .string ((((⟨#[80, 75, 6, 6]⟩ : ByteArray) ++ T1) ++ T2) ++ T3), .pointer (some ⟨gh, 1, none⟩), .int .u64 (n : Nat), .pointer (some ⟨gh, 1, none⟩), .int .u64 (n : Nat), .pointer (some ⟨gh, 2, none⟩), .int .u64 (z : Nat), .pointer (some ⟨gh, 3, none⟩), .int .u64 (o : Nat), .slice (some ⟨g3, 0, none⟩) 4 4, .string T4, .string (((((⟨#[80, 75, 6, 6]⟩ : ByteArray) ++ T1) ++ T2) ++ T3) ++ T4), .string ((((((⟨#[80, 75, 6, 6]⟩ : ByteArray) ++ T1) ++ T2) ++ T3) ++ T4) ++ (⟨#[80, 75, 6, 7]⟩ : ByteArray)), .string T5, .string (((((((⟨#[80, 75, 6, 6]⟩ : ByteArray) ++ T1) ++ T2) ++ T3) ++ T4) ++ (⟨#[80, 75, 6, 7]⟩ : ByteArray)) ++ T5), .int .u64 (((o : Int) + (z : Int)) % 18446744073709551616), .string T6, .string ((((((((⟨#[80, 75, 6, 6]⟩ : ByteArray) ++ T1) ++ T2) ++ T3) ++ T4) ++ (⟨#[80, 75, 6, 7]⟩ : ByteArray)) ++ T5) ++ T6), undef, undef], defers := [] } w1
    refine wpAnyH_ready (rs := [25]) (by kernel_rfl) (by simp) ?_
    refine AllReadyH.cons rfl (fun K hK => ?_) (AllReadyH.nil)
    · go_simp
      refine (HC7.out w1).mono ?_
      rintro e w2 ⟨rfl, HBX⟩
      refine hK.out _ _ ⟨(HBX.block _ (lt_of_some hS1.1)).trans hS1.1, hS1.2.trans (HBX.mono (Nat.le_of_lt (lt_of_some hS1.1)))⟩ (fun hS2 => ?_)
      clear hK K
      try simp only [Act.put, List.setIfInBounds_toArray, List.set_cons_zero, List.set_cons_succ, List.getElem_toArray, List.getElem_cons_succ, List.getElem_cons_zero]
      refine wpAnyH_take (i := 26) (v := .string (((((((((⟨#[80, 75, 6, 6]⟩ : ByteArray) ++ T1) ++ T2) ++ T3) ++ T4) ++ (⟨#[80, 75, 6, 7]⟩ : ByteArray)) ++ T5) ++ T6) ++ T7)) rfl (by kernel_rfl) (by kernel_rfl) (by kernel_rfl) (fun _ _ _ h => h) (Or.inl ⟨by kernel_rfl, ?_⟩) (by assumption) ?_
      · intro ww hSw
        clear hSw
        go_simp
        all_goals (try omega)
        all_goals (try rfl)
      try simp only [Act.put, List.setIfInBounds_toArray, List.set_cons_zero, List.set_cons_succ, List.getElem_toArray, List.getElem_cons_succ, List.getElem_cons_zero]
      exact IH ⟨25, g1, g2, g3, 0⟩ _ (show (0 : Nat) < 1 by decide) ⟨hS2, (show (25 : Nat) < 26 by decide), fun h => absurd (show false = true from h) (by decide), fun h => absurd (show false = true from h) (by decide), fun h => absurd (show false = true from h) (by decide)⟩
  · show wpAnyH _ _ _ _ _ 1 #[true, true, true, true, true, true, true, true, true, true, true, true, true, true, true, true, true, true, true, true, true, true, true, true, true, true, true, false] { tmps := #[.agg #[.int .i64 at0, .int .u64 (n : Nat), .int .u64 (z : Nat), .int .u64 (o : Nat), .string c, .bool wd], .pointer (some ⟨gh, 0, none⟩), .string ⟨#[]⟩, .int .u64 (((o : Int) + (z : Int)) % 18446744073709551616), .pointer (some ⟨gh, 3, none⟩), .int .u64 (o : Nat), .pointer (some ⟨gh, 2, none⟩), .int .u64 (z : Nat), .int .u64 (((o : Int) + (z : Int)) % 18446744073709551616), .string T1, .string ((⟨#[80, 75, 6, 6]⟩ : ByteArray) ++ T1), .slice (some ⟨g1, 0, none⟩) 2 2, .string T2, .string (((⟨#[80, 75, 6, 6]⟩ : ByteArray) ++ T1) ++ T2), .slice (some ⟨g2, 0, none⟩) 2 2, .string T3, .string ((((⟨#[80, 75, 6, 6]⟩ : ByteArray) ++ T1) ++ T2) ++ T3), .pointer (some ⟨gh, 1, none⟩), .int .u64 (n : Nat), .pointer (some ⟨gh, 1, none⟩), .int .u64 (n : Nat), .pointer (some ⟨gh, 2, none⟩), .int .u64 (z : Nat), .pointer (some ⟨gh, 3, none⟩), .int .u64 (o : Nat), .slice (some ⟨g3, 0, none⟩) 4 4, .string T4, .string (((((⟨#[80, 75, 6, 6]⟩ : ByteArray) ++ T1) ++ T2) ++ T3) ++ T4), .string ((((((⟨#[80, 75, 6, 6]⟩ : ByteArray) ++ T1) ++ T2) ++ T3) ++ T4) ++ (⟨#[80, 75, 6, 7]⟩ : ByteArray)), .string T5, .string (((((((⟨#[80, 75, 6, 6]⟩ : ByteArray) ++ T1) ++ T2) ++ T3) ++ T4) ++ (⟨#[80, 75, 6, 7]⟩ : ByteArray)) ++ T5), .int .u64 (((o : Int) + (z : Int)) % 18446744073709551616), .string T6, .string ((((((((⟨#[80, 75, 6, 6]⟩ : ByteArray) ++ T1) ++ T2) ++ T3) ++ T4) ++ (⟨#[80, 75, 6, 7]⟩ : ByteArray)) ++ T5) ++ T6), .string T7, .string (((((((((⟨#[80, 75, 6, 6]⟩ : ByteArray) ++ T1) ++ T2) ++ T3) ++ T4) ++ (⟨#[80, 75, 6, 7]⟩ : ByteArray)) ++ T5) ++ T6) ++ T7)], defers := [] } w1
    refine wpAnyH_take (i := 27) (v := .string (((((((((⟨#[80, 75, 6, 6]⟩ : ByteArray) ++ T1) ++ T2) ++ T3) ++ T4) ++ (⟨#[80, 75, 6, 7]⟩ : ByteArray)) ++ T5) ++ T6) ++ T7)) rfl (by kernel_rfl) (by kernel_rfl) (by kernel_rfl) (fun _ _ _ h => h) (Or.inl ⟨by kernel_rfl, ?_⟩) (by assumption) ?_
    · intro ww hSw
      clear hSw
      go_simp
      all_goals (try omega)
      all_goals (try rfl)
    try simp only [Act.put, List.setIfInBounds_toArray, List.set_cons_zero, List.set_cons_succ, List.getElem_toArray, List.getElem_cons_succ, List.getElem_cons_zero]
    refine wpAnyH_done (by kernel_rfl) ?_ _
    obtain ⟨_, hfin⟩ := hS1
    have HFIN := Lib.hid hfin
    clear hfin IH
    go_wp2_with fail
    go_ret
    rw [← HE.out]
    exact ⟨rfl, by rw [HGH.out]; exact HFIN.out⟩
end Go.Proofs.Ytlojhklhhdgkcaa
