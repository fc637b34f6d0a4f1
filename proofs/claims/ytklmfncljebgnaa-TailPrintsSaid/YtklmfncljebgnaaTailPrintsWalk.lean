/-
  The walk of TailPrints.
-/
import Derived.Test.YtklmfncljebgnaaTlK
namespace Go.Proofs.Ytklmfncljebgnaa
set_option maxRecDepth 100000
set_option linter.unusedSimpArgs false
set_option linter.unusedVariables false
open Go.RowKit Go.Joins Go.Deep Go.Op
theorem prE_form (n z o : Nat) (c : ByteArray) (wd : Bool) : ∃ (X : ByteArray) (f : Nat), prE n z o c wd = .tuple #[.string X, .int .i64 (f : Nat)] := by
  unfold prE
  split
  · exact ⟨_, 5, rfl⟩
  · split
    · exact ⟨_, 0, rfl⟩
    · split
      · exact ⟨_, 8, rfl⟩
      · exact ⟨_, 0, rfl⟩
theorem rep_len (l : List UInt8) (c : Nat) : (Lib.repeatL l c).length = l.length * c := by
  induction c with
  | zero => simp [Lib.repeatL]
  | succ c ih => simp [Lib.repeatL, ih, Nat.mul_succ, Nat.add_comm]
theorem long_rep : ∃ LG : ByteArray, LG.size = 65536 ∧ ∀ w : World, Calls Try.prog 29 #[.string ⟨#[97]⟩, .int .i64 65536] w fun e w' => e = .returned (.string LG) ∧ Below w.heap.size w w' := by
  have hsz : ∀ c : Nat, (⟨(Lib.repeatL (⟨#[97]⟩ : ByteArray).data.toList c).toArray⟩ : ByteArray).size = c := fun c => by
    show (Lib.repeatL (⟨#[97]⟩ : ByteArray).data.toList c).toArray.size = c
    rw [List.size_toArray, rep_len]
    show 1 * c = c
    omega
  exact ⟨_, hsz 65536, fun w => sh_strings_Repeat_main ⟨#[97]⟩ 65536 w (by omega) (by omega) (by show 1 * 65536 ≤ _; omega) (by decide)⟩
set_option maxHeartbeats 8000000 in
theorem tailPrints_walk (at0 : Int) (iN iZ iO : Int) (c : ByteArray) (wd more : Bool) (fa : (Lit.int .i64 at0).wf = true) (fn : (Lit.int .u64 iN).wf = true) (fz : (Lit.int .u64 iZ).wf = true) (fo : (Lit.int .u64 iO).wf = true) (fc : c.size ≤ maxLen) (w : World) :
    Calls Try.prog 7 #[.agg #[.int .i64 at0, .int .u64 iN, .int .u64 iZ, .int .u64 iO, .string c, .bool wd], .bool more] w fun e w' => e = .returned (.bool true) ∧ Below w.heap.size w w' := by
  obtain ⟨n, rfl, ln⟩ := nat_u64 fn
  obtain ⟨z, rfl, lz⟩ := nat_u64 fz
  obtain ⟨o, rfl, lo⟩ := nat_u64 fo
  unfold maxLen at fc
  have HH : Hid ((w.alloc (.cells #[.int .i64 at0, .int .u64 (n : Nat), .int .u64 (z : Nat), .int .u64 (o : Nat), .string c, .bool wd] 61)).heap[w.heap.size]? = some (.cells #[.int .i64 at0, .int .u64 (n : Nat), .int .u64 (z : Nat), .int .u64 (o : Nat), .string c, .bool wd] 61 (0, 0))) := heap_alloc_new _ _
  have HB : Hid (Below w.heap.size w (w.alloc (.cells #[.int .i64 at0, .int .u64 (n : Nat), .int .u64 (z : Nat), .int .u64 (o : Nat), .string c, .bool wd] 61))) := (Below.refl _ _).alloc (Nat.le_refl _) _
  clear fn fz fo fa
  go_enter Try.func7, Try.ntmps7
  go_wp2_with fail
  generalize w.alloc (.cells #[.int .i64 at0, .int .u64 (n : Nat), .int .u64 (z : Nat), .int .u64 (o : Nat), .string c, .bool wd] 61) = w0 at *
  refine (awake18_any _).mono ?_; rintro r w1 ⟨rfl, hb⟩
  replace HH := Lib.hid ((hb.block _ (lt_of_some HH.out)).trans HH.out)
  replace HB := Lib.hid (below_then HB.out hb)
  have k4 : w1.cell? ⟨w.heap.size, 4, none⟩ = some (.string c) := by rw [Lib.cell_of_heap HH.out]; rfl
  clear hb
  by_cases hbig : 3000 < c.size
  · have hd : decide ((3000 : Int) < (c.size : Int)) = true := decide_eq_true (by omega)
    go_wp2_with fail
    go_ret
    exact ⟨rfl, HB.out⟩
  have hd : decide ((3000 : Int) < (c.size : Int)) = false := decide_eq_false (by omega)
  cases more with
  | true =>
    obtain ⟨LG, hLG, hrep⟩ := long_rep
    have HREP := Lib.hid hrep
    obtain ⟨X, f, hX⟩ := prE_form n z o LG wd
    have HP := Lib.hid (fun w => printT_any at0 n z o ln lz lo LG (by omega) wd w)
    have HQ := Lib.hid (fun w => rprintT_any at0 n z o ln lz lo LG (by omega) wd w)
    rw [hX] at HP HQ
    clear hrep hX
    go_wp2_with fail
    refine (HREP.out _).mono ?_; rintro r w2 ⟨rfl, hb⟩
    have u0 := (hb.block _ (lt_of_some HH.out)).trans HH.out
    have k0 : w2.cell? ⟨w.heap.size, 4, none⟩ = some (.string c) := by rw [Lib.cell_of_heap u0]; rfl
    have q0 := Lib.frozen_of_heap u0 4
    have u1 : (w2.setCell ⟨w.heap.size, 4, none⟩ (.string LG)).heap[w.heap.size]? = some (.cells #[.int .i64 at0, .int .u64 (n : Nat), .int .u64 (z : Nat), .int .u64 (o : Nat), .string LG, .bool wd] 61 (0, 0)) := Go.heap_setCell_same w2 w.heap.size 4 _ _ _ u0
    have HH2 := Lib.hid u1
    have HB2 : Hid (Below w.heap.size w (w2.setCell ⟨w.heap.size, 4, none⟩ (.string LG))) := (HB.out.trans (hb.mono HB.out.size)).setCell (Nat.le_refl _) _
    clear u0 u1 hb HH HB k4 HREP
    go_wp2_with (refine wpList_load_row rfl 61 (.tmp 2) rfl w.heap.size rfl 61 _ (0, 0) _ HH2.out Try.underlying61 rfl info_endv ?_)
    generalize w2.setCell ⟨w.heap.size, 4, none⟩ (.string LG) = w3 at *
    refine (HP.out _).mono ?_; rintro r w4 ⟨rfl, hb⟩
    have HH3 := Lib.hid ((hb.block _ (lt_of_some HH2.out)).trans HH2.out)
    have HB3 := Lib.hid (HB2.out.trans (hb.mono HB2.out.size))
    clear hb HH2 HB2 HP
    go_wp2_with (refine wpList_load_row rfl 61 (.tmp 2) rfl w.heap.size rfl 61 _ (0, 0) _ HH3.out Try.underlying61 rfl info_endv ?_)
    refine (HQ.out _).mono ?_; rintro r w5 ⟨rfl, hb⟩
    have HB4 := Lib.hid (HB3.out.trans (hb.mono HB3.out.size))
    clear hb HH3 HB3 HQ
    have hself : (X.toList == X.toList) = true := beq_self_eq_true _
    go_wp2_with fail
    go_ret
    exact ⟨rfl, HB4.out⟩
  | false =>
    obtain ⟨X, f, hX⟩ := prE_form n z o c wd
    have HP := Lib.hid (fun w => printT_any at0 n z o ln lz lo c (by omega) wd w)
    have HQ := Lib.hid (fun w => rprintT_any at0 n z o ln lz lo c (by omega) wd w)
    rw [hX] at HP HQ
    have HH2 := HH; have HB2 := HB
    clear hX HH HB
    go_wp2_with (refine wpList_load_row rfl 61 (.tmp 2) rfl w.heap.size rfl 61 _ (0, 0) _ HH2.out Try.underlying61 rfl info_endv ?_)
    clear k4
    generalize w1 = w3 at *
    refine (HP.out _).mono ?_; rintro r w4 ⟨rfl, hb⟩
    have HH3 := Lib.hid ((hb.block _ (lt_of_some HH2.out)).trans HH2.out)
    have HB3 := Lib.hid (HB2.out.trans (hb.mono HB2.out.size))
    clear hb HH2 HB2 HP
    go_wp2_with (refine wpList_load_row rfl 61 (.tmp 2) rfl w.heap.size rfl 61 _ (0, 0) _ HH3.out Try.underlying61 rfl info_endv ?_)
    refine (HQ.out _).mono ?_; rintro r w5 ⟨rfl, hb⟩
    have HB4 := Lib.hid (HB3.out.trans (hb.mono HB3.out.size))
    clear hb HH3 HB3 HQ
    have hself : (X.toList == X.toList) = true := beq_self_eq_true _
    go_wp2_with fail
    go_ret
    exact ⟨rfl, HB4.out⟩
end Go.Proofs.Ytklmfncljebgnaa
