/-
  Contracts of package tail: Print.
-/
import Derived.Test.YtlojhklhhdgkcaaTlC
import Derived.Lib.MinMax
namespace Go.Proofs.Ytlojhklhhdgkcaa
set_option maxRecDepth 100000
set_option linter.unusedSimpArgs false
set_option linter.unusedVariables false
open Go.RowKit Go.Joins Go.Deep Go.Op
theorem endT_size (n z o : Nat) (c : ByteArray) : (endT n z o c).size = 22 + c.size := by
  unfold endT
  rw [ByteArray.size_append, text_size, prN_len [101010256, 0, 0, n, n, z, o, c.size] wsE rfl]
  rfl
theorem wideT_size (n z o : Nat) : (wideT n z o).size = 76 := by
  unfold wideT
  rw [ByteArray.size_append, text_size, text_size, prN_len [101075792, 44, 45, 45, 0, 0, n, n, z, o] wsW rfl, prN_len [117853008, 0, (o + z) % 18446744073709551616, 1] wsLo rfl]
  rfl
/-- Is a number too great for an end record? -/
def bigB (n z o : Nat) : Bool := decide (65535 ≤ n ∨ 4294967295 ≤ z ∨ 4294967295 ≤ o)
/-- What Print answers. -/
def prE (n z o : Nat) (c : ByteArray) (wd : Bool) : Value := if 65535 < c.size then .tuple #[.string ⟨#[]⟩, .int .i64 5] else if wd = true then .tuple #[.string (wideT n z o ++ endT 65535 4294967295 4294967295 c), .int .i64 0] else if bigB n z o = true then .tuple #[.string ⟨#[]⟩, .int .i64 8] else .tuple #[.string (endT n z o c), .int .i64 0]
set_option maxHeartbeats 8000000 in
theorem printT_any (at0 : Int) (n z o : Nat) (hn : n < 18446744073709551616) (hz : z < 18446744073709551616) (ho : o < 18446744073709551616) (c : ByteArray) (hc : c.size ≤ 1000000) (wd : Bool) (w : World) :
    Calls Try.prog 5 #[.agg #[.int .i64 at0, .int .u64 (n : Nat), .int .u64 (z : Nat), .int .u64 (o : Nat), .string c, .bool wd]] w fun e w' => e = .returned (prE n z o c wd) ∧ Below w.heap.size w w' := by
  have HH : Hid ((w.alloc (.cells #[.int .i64 at0, .int .u64 (n : Nat), .int .u64 (z : Nat), .int .u64 (o : Nat), .string c, .bool wd] 29)).heap[w.heap.size]? = some (.cells #[.int .i64 at0, .int .u64 (n : Nat), .int .u64 (z : Nat), .int .u64 (o : Nat), .string c, .bool wd] 29 (0, 0))) := heap_alloc_new _ _
  have HB : Hid (Below w.heap.size w (w.alloc (.cells #[.int .i64 at0, .int .u64 (n : Nat), .int .u64 (z : Nat), .int .u64 (o : Nat), .string c, .bool wd] 29))) := (Below.refl _ _).alloc (Nat.le_refl _) _
  obtain ⟨wx, hwx⟩ : ∃ x, x = w.alloc (.cells #[.int .i64 at0, .int .u64 (n : Nat), .int .u64 (z : Nat), .int .u64 (o : Nat), .string c, .bool wd] 29) := ⟨_, rfl⟩
  rw [← hwx] at HH HB
  have k0 : wx.cell? ⟨w.heap.size, 0, none⟩ = some (.int .i64 at0) := by rw [Lib.cell_of_heap HH.out]; rfl
  have k1 : wx.cell? ⟨w.heap.size, 1, none⟩ = some (.int .u64 (n : Nat)) := by rw [Lib.cell_of_heap HH.out]; rfl
  have k2 : wx.cell? ⟨w.heap.size, 2, none⟩ = some (.int .u64 (z : Nat)) := by rw [Lib.cell_of_heap HH.out]; rfl
  have k3 : wx.cell? ⟨w.heap.size, 3, none⟩ = some (.int .u64 (o : Nat)) := by rw [Lib.cell_of_heap HH.out]; rfl
  have k4 : wx.cell? ⟨w.heap.size, 4, none⟩ = some (.string c) := by rw [Lib.cell_of_heap HH.out]; rfl
  have k5 : wx.cell? ⟨w.heap.size, 5, none⟩ = some (.bool wd) := by rw [Lib.cell_of_heap HH.out]; rfl
  rw [hwx] at k0 k1 k2 k3 k4 k5
  have HWX := Lib.hid hwx
  clear hwx
  by_cases hbig : 65535 < c.size
  · have hd : decide ((65535 : Int) < (c.size : Int)) = true := decide_eq_true (by omega)
    have HA : Hid (prE n z o c wd = .tuple #[.string ⟨#[]⟩, .int .i64 5]) := if_pos hbig
    go_enter Try.func5, Try.ntmps5
    go_wp2_with fail
    go_ret2
    rw [HA.out, ← HWX.out]
    exact ⟨rfl, HB.out⟩
  have hd : decide ((65535 : Int) < (c.size : Int)) = false := decide_eq_false (by omega)
  cases wd with
  | true =>
    have HA : Hid (prE n z o c true = .tuple #[.string (wideT n z o ++ endT 65535 4294967295 4294967295 c), .int .i64 0]) := by
      show _ = _
      unfold prE
      rw [if_neg hbig, if_pos rfl]
    have HPW := Lib.hid (fun w => printWide_any at0 n z o hn hz ho c true w)
    have HPE : Hid (∀ w : World, Calls Try.prog 9 #[.int .u16 65535, .int .u32 4294967295, .int .u32 4294967295, .string c] w fun e w' => e = .returned (.string (endT 65535 4294967295 4294967295 c)) ∧ Below w.heap.size w w') := fun w => printEnd_any 65535 4294967295 4294967295 (by omega) (by omega) (by omega) c (by omega) w
    have z1 : (wideT n z o).size = 76 := wideT_size n z o
    have z2 : (endT 65535 4294967295 4294967295 c).size = 22 + c.size := endT_size _ _ _ c
    generalize wideT n z o = TW at *
    generalize endT 65535 4294967295 4294967295 c = TN at *
    go_enter Try.func5, Try.ntmps5
    go_upto_region 4 with fail
    clear k0 k1 k2 k3 k4 k5
    rw [← HWX.out]
    have hS0 : (fun ww => ww.heap[w.heap.size]? = some (.cells #[.int .i64 at0, .int .u64 (n : Nat), .int .u64 (z : Nat), .int .u64 (o : Nat), .string c, .bool true] 29 (0, 0)) ∧ Below w.heap.size w ww) wx.drew := ⟨HH.out, HB.out.drew⟩
    refine wp_region_held_drew (S := fun ww => ww.heap[w.heap.size]? = some (.cells #[.int .i64 at0, .int .u64 (n : Nat), .int .u64 (z : Nat), .int .u64 (o : Nat), .string c, .bool true] 29 (0, 0)) ∧ Below w.heap.size w ww) (by kernel_rfl) hS0 (fun hSA => ?_)
    clear hS0 HH HB
    generalize wx.drew = q0 at *
    refine wpAnyH_take (i := 0) (v := .agg #[.int .i64 at0, .int .u64 (n : Nat), .int .u64 (z : Nat), .int .u64 (o : Nat), .string c, .bool true]) rfl (by kernel_rfl) (by kernel_rfl) (by kernel_rfl) (fun _ _ _ h => h) (Or.inl ⟨by kernel_rfl, ?_⟩) (by assumption) ?_
    · intro ww hSw
      have hc0 : ww.cell? ⟨w.heap.size, 0, none⟩ = some (.int .i64 at0) := by rw [Lib.cell_of_heap hSw.1]; rfl
      have hc1 : ww.cell? ⟨w.heap.size, 1, none⟩ = some (.int .u64 (n : Nat)) := by rw [Lib.cell_of_heap hSw.1]; rfl
      have hc2 : ww.cell? ⟨w.heap.size, 2, none⟩ = some (.int .u64 (z : Nat)) := by rw [Lib.cell_of_heap hSw.1]; rfl
      have hc3 : ww.cell? ⟨w.heap.size, 3, none⟩ = some (.int .u64 (o : Nat)) := by rw [Lib.cell_of_heap hSw.1]; rfl
      have hc4 : ww.cell? ⟨w.heap.size, 4, none⟩ = some (.string c) := by rw [Lib.cell_of_heap hSw.1]; rfl
      have hc5 : ww.cell? ⟨w.heap.size, 5, none⟩ = some (.bool true) := by rw [Lib.cell_of_heap hSw.1]; rfl
      clear hSw
      go_simp
      all_goals (try omega)
      all_goals (try assumption)
      all_goals (try rfl)
    try simp only [Act.put, List.setIfInBounds_toArray, List.set_cons_zero, List.set_cons_succ, List.getElem_toArray, List.getElem_cons_succ, List.getElem_cons_zero]
    refine wpAnyH_take (i := 2) (v := .pointer (some ⟨w.heap.size, 4, none⟩)) rfl (by kernel_rfl) (by kernel_rfl) (by kernel_rfl) (fun _ _ _ h => h) (Or.inl ⟨by kernel_rfl, ?_⟩) (by assumption) ?_
    · intro ww hSw
      clear hSw
      go_simp
      all_goals (try omega)
      all_goals (try assumption)
      all_goals (try rfl)
    try simp only [Act.put, List.setIfInBounds_toArray, List.set_cons_zero, List.set_cons_succ, List.getElem_toArray, List.getElem_cons_succ, List.getElem_cons_zero]
    refine wpAnyH_take (i := 3) (v := .string c) rfl (by kernel_rfl) (by kernel_rfl) (by kernel_rfl) (fun _ _ _ h => h) (Or.inl ⟨by kernel_rfl, ?_⟩) (by assumption) ?_
    · intro ww hSw
      have hcc : ww.cell? ⟨w.heap.size, 4, none⟩ = some (.string c) := by rw [Lib.cell_of_heap hSw.1]; rfl
      clear hSw
      go_simp
      all_goals (try omega)
      all_goals (try assumption)
      all_goals (try rfl)
    try simp only [Act.put, List.setIfInBounds_toArray, List.set_cons_zero, List.set_cons_succ, List.getElem_toArray, List.getElem_cons_succ, List.getElem_cons_zero]
    refine wpAnyH_ready (rs := [1]) (by kernel_rfl) (by simp) ?_
    refine AllReadyH.cons rfl (fun K hK => ?_) AllReadyH.nil
    go_simp
    refine (HPW.out _).mono ?_
    rintro e q1 ⟨rfl, hb1⟩
    have hS1 : (fun ww => ww.heap[w.heap.size]? = some (.cells #[.int .i64 at0, .int .u64 (n : Nat), .int .u64 (z : Nat), .int .u64 (o : Nat), .string c, .bool true] 29 (0, 0)) ∧ Below w.heap.size w ww) q1 := ⟨(hb1.block _ (lt_of_some hSA.1)).trans hSA.1, hSA.2.trans (hb1.mono hSA.2.size)⟩
    refine hK.out _ _ hS1 (fun hT1 => ?_)
    clear hK K
    try simp only [Act.put, List.setIfInBounds_toArray, List.set_cons_zero, List.set_cons_succ, List.getElem_toArray, List.getElem_cons_succ, List.getElem_cons_zero]
    refine wpAnyH_ready (rs := [4]) (by kernel_rfl) (by simp) ?_
    refine AllReadyH.cons rfl (fun K hK => ?_) AllReadyH.nil
    go_simp
    refine (HPE.out _).mono ?_
    rintro e q2 ⟨rfl, hb2⟩
    have hS2 : (fun ww => ww.heap[w.heap.size]? = some (.cells #[.int .i64 at0, .int .u64 (n : Nat), .int .u64 (z : Nat), .int .u64 (o : Nat), .string c, .bool true] 29 (0, 0)) ∧ Below w.heap.size w ww) q2 := ⟨(hb2.block _ (lt_of_some hS1.1)).trans hS1.1, hS1.2.trans (hb2.mono hS1.2.size)⟩
    refine hK.out _ _ hS2 (fun hT2 => ?_)
    clear hK K
    try simp only [Act.put, List.setIfInBounds_toArray, List.set_cons_zero, List.set_cons_succ, List.getElem_toArray, List.getElem_cons_succ, List.getElem_cons_zero]
    refine wpAnyH_take (i := 5) (v := .string (TW ++ TN)) rfl (by kernel_rfl) (by kernel_rfl) (by kernel_rfl) (fun _ _ _ h => h) (Or.inl ⟨by kernel_rfl, ?_⟩) (by assumption) ?_
    · intro ww hSw
      clear hSw
      go_simp
      all_goals (try omega)
      all_goals (try assumption)
      all_goals (try rfl)
    try simp only [Act.put, List.setIfInBounds_toArray, List.set_cons_zero, List.set_cons_succ, List.getElem_toArray, List.getElem_cons_succ, List.getElem_cons_zero]
    refine wpAnyH_take (i := 6) (v := .string (TW ++ TN)) rfl (by kernel_rfl) (by kernel_rfl) (by kernel_rfl) (fun _ _ _ h => h) (Or.inl ⟨by kernel_rfl, ?_⟩) (by assumption) ?_
    · intro ww hSw
      clear hSw
      go_simp
      all_goals (try omega)
      all_goals (try assumption)
      all_goals (try rfl)
    try simp only [Act.put, List.setIfInBounds_toArray, List.set_cons_zero, List.set_cons_succ, List.getElem_toArray, List.getElem_cons_succ, List.getElem_cons_zero]
    refine wpAnyH_take (i := 7) (v := .int .i64 0) rfl (by kernel_rfl) (by kernel_rfl) (by kernel_rfl) (fun _ _ _ h => h) (Or.inl ⟨by kernel_rfl, ?_⟩) (by assumption) ?_
    · intro ww hSw
      clear hSw
      go_simp
      all_goals (try omega)
      all_goals (try assumption)
      all_goals (try rfl)
    try simp only [Act.put, List.setIfInBounds_toArray, List.set_cons_zero, List.set_cons_succ, List.getElem_toArray, List.getElem_cons_succ, List.getElem_cons_zero]
    have HFB := Lib.hid hS2.2
    clear hS1 hT1 hS2 hT2 hSA hb1 hb2
    refine wpAnyH_done (by kernel_rfl) ?_ _
    go_wp2_with fail
    go_ret2
    rw [HA.out]
    exact ⟨rfl, HFB.out⟩
  | false =>
    obtain ⟨M, hM, hMM⟩ : ∃ M : Nat, max (z : Int) (o : Int) = (M : Int) ∧ M = max z o := ⟨max z o, by omega, rfl⟩
    by_cases hb : bigB n z o = true
    · have HA : Hid (prE n z o c false = .tuple #[.string ⟨#[]⟩, .int .i64 8]) := by
        show _ = _
        unfold prE
        rw [if_neg hbig, if_neg (by decide), if_pos hb]
      have hbb := of_decide_eq_true hb
      by_cases h1 : 65535 ≤ n
      · have d1 : decide ((65535 : Int) ≤ (n : Int)) = true := decide_eq_true (by omega)
        go_enter Try.func5, Try.ntmps5
        go_wp2_with fail
        go_ret2
        rw [HA.out, ← HWX.out]
        exact ⟨rfl, HB.out⟩
      · have d1 : decide ((65535 : Int) ≤ (n : Int)) = false := decide_eq_false (by omega)
        have d2 : decide ((4294967295 : Int) ≤ (M : Int)) = true := decide_eq_true (by omega)
        have d3 : 4294967295 ≤ M := by omega
        clear hMM
        go_enter Try.func5, Try.ntmps5
        go_wp2_with fail
        go_ret2
        rw [HA.out, ← HWX.out]
        exact ⟨rfl, HB.out⟩
    · have hbb : ¬ (65535 ≤ n ∨ 4294967295 ≤ z ∨ 4294967295 ≤ o) := fun h => hb (decide_eq_true h)
      have HA : Hid (prE n z o c false = .tuple #[.string (endT n z o c), .int .i64 0]) := by
        show _ = _
        unfold prE
        rw [if_neg hbig, if_neg (by decide), if_neg hb]
      have d1 : decide ((65535 : Int) ≤ (n : Int)) = false := decide_eq_false (by omega)
      have d2 : decide ((4294967295 : Int) ≤ (M : Int)) = false := decide_eq_false (by omega)
      have d3 : ¬ 4294967295 ≤ M := by omega
      have d4 : ¬ 65535 ≤ n := by omega
      have w1 : IntKind.u16.wrap (n : Int) = n := by rw [IntKind.wrap_u16]; omega
      have w2 : IntKind.u32.wrap (z : Int) = z := by rw [IntKind.wrap_u32]; omega
      have w3 : IntKind.u32.wrap (o : Int) = o := by rw [IntKind.wrap_u32]; omega
      have HPE := Lib.hid (fun w => printEnd_any n z o (by omega) (by omega) (by omega) c (by omega) w)
      clear hMM hbb hb
      go_enter Try.func5, Try.ntmps5
      go_wp2_with fail
      refine (HPE.out _).mono ?_; rintro r w1 ⟨rfl, hb1⟩
      rw [← HWX.out] at hb1
      have HB1 := Lib.hid (HB.out.trans (hb1.mono HB.out.size))
      clear hb1
      go_wp2_with fail
      go_ret2
      rw [HA.out]
      exact ⟨rfl, HB1.out⟩
end Go.Proofs.Ytlojhklhhdgkcaa
