/-
  The chapter's example of tail; the document's Print of an end.
-/
import Derived.Test.YtklmfncljebgnaaTlJ
import Derived.Test.YtklmfncljebgnaaTlD
namespace Go.Proofs.Ytklmfncljebgnaa
set_option maxRecDepth 100000
set_option linter.unusedSimpArgs false
set_option linter.unusedVariables false
open Go.RowKit Go.Joins Go.Deep Go.Op
theorem fd0 : fdE (endT 0 0 0 ⟨#[]⟩) = ((0, 0, 0, 0, ⟨#[]⟩, false), 0) := by decide +kernel
theorem find0 (w : World) : Calls Try.prog 27 #[.string (endT 0 0 0 ⟨#[]⟩)] w fun e w' => e = .returned (.tuple #[.agg #[.int .i64 0, .int .u64 0, .int .u64 0, .int .u64 0, .string ⟨#[]⟩, .bool false], .int .i64 0]) ∧ Below w.heap.size w w' :=
  (find_any (endT 0 0 0 ⟨#[]⟩) (by rw [endT_size]; decide) w).mono fun r w' ⟨hr, hb⟩ => ⟨by rw [hr, fd0]; rfl, hb⟩
theorem print0 (w : World) : Calls Try.prog 30 #[.agg #[.int .i64 0, .int .u64 0, .int .u64 0, .int .u64 0, .string ⟨#[]⟩, .bool false]] w fun e w' => e = .returned (.tuple #[.string (endT 0 0 0 ⟨#[]⟩), .int .i64 0]) ∧ Below w.heap.size w w' :=
  (printT_any 0 0 0 0 (by omega) (by omega) (by omega) ⟨#[]⟩ (by decide) false w).mono fun r w' ⟨hr, hb⟩ => ⟨by rw [hr]; rfl, hb⟩
set_option maxHeartbeats 4000000 in
theorem awake18_any (w : World) : Calls Try.prog 26 #[] w fun e w' => e = .returned (.bool true) ∧ Below w.heap.size w w' := by
  have hz : (endT 0 0 0 ⟨#[]⟩).size = 22 := endT_size 0 0 0 ⟨#[]⟩
  have HF := Lib.hid find0
  have HP := Lib.hid print0
  generalize endT 0 0 0 ⟨#[]⟩ = E at *
  have HEQ : ∀ w, (Op.equalIn 9999 61 (.agg #[.int .i64 0, .int .u64 0, .int .u64 0, .int .u64 0, .string ⟨#[]⟩, .bool false]) (.agg #[.int .i64 0, .int .u64 0, .int .u64 0, .int .u64 0, .string ⟨#[]⟩, .bool false])).run Try.prog w = .ok true w := fun w => by kernel_rfl
  go_enter Try.func26, Try.ntmps26
  go_wp2_with fail
  refine (HP.out _).mono ?_; rintro r w1 ⟨rfl, hb⟩
  have H1 := Lib.hid hb
  clear hb
  go_wp2_with fail
  refine (HF.out _).mono ?_; rintro r w2 ⟨rfl, hb⟩
  have hh := heap_alloc_new w2 (.cells #[.int .i64 0, .int .u64 0, .int .u64 0, .int .u64 0, .string ⟨#[]⟩, .bool false] 61)
  have H2 := Lib.hid ((below_then H1.out hb).alloc (Nat.le_trans H1.out.size hb.size) (.cells #[.int .i64 0, .int .u64 0, .int .u64 0, .int .u64 0, .string ⟨#[]⟩, .bool false] 61))
  have k0 : (w2.alloc (.cells #[.int .i64 0, .int .u64 0, .int .u64 0, .int .u64 0, .string ⟨#[]⟩, .bool false] 61)).cell? ⟨w2.heap.size, 0, none⟩ = some (.int .i64 0) := by rw [Lib.cell_of_heap hh]; rfl
  have k1 : (w2.alloc (.cells #[.int .i64 0, .int .u64 0, .int .u64 0, .int .u64 0, .string ⟨#[]⟩, .bool false] 61)).cell? ⟨w2.heap.size, 1, none⟩ = some (.int .u64 0) := by rw [Lib.cell_of_heap hh]; rfl
  have k2 : (w2.alloc (.cells #[.int .i64 0, .int .u64 0, .int .u64 0, .int .u64 0, .string ⟨#[]⟩, .bool false] 61)).cell? ⟨w2.heap.size, 2, none⟩ = some (.int .u64 0) := by rw [Lib.cell_of_heap hh]; rfl
  have k3 : (w2.alloc (.cells #[.int .i64 0, .int .u64 0, .int .u64 0, .int .u64 0, .string ⟨#[]⟩, .bool false] 61)).cell? ⟨w2.heap.size, 3, none⟩ = some (.int .u64 0) := by rw [Lib.cell_of_heap hh]; rfl
  have k4 : (w2.alloc (.cells #[.int .i64 0, .int .u64 0, .int .u64 0, .int .u64 0, .string ⟨#[]⟩, .bool false] 61)).cell? ⟨w2.heap.size, 4, none⟩ = some (.string ⟨#[]⟩) := by rw [Lib.cell_of_heap hh]; rfl
  have k5 : (w2.alloc (.cells #[.int .i64 0, .int .u64 0, .int .u64 0, .int .u64 0, .string ⟨#[]⟩, .bool false] 61)).cell? ⟨w2.heap.size, 5, none⟩ = some (.bool false) := by rw [Lib.cell_of_heap hh]; rfl
  clear hb H1 hh
  go_wp2_with fail
  go_ret
  exact ⟨rfl, H2.out⟩
theorem rends_any (w : World) : Calls Try.prog 61 #[] w fun e w' => e = .returned (.slice (some ⟨w.heap.size, 0, none⟩) 8 8) ∧ RdI w' .i64 (some ⟨w.heap.size, 0, none⟩) wsE ∧ Below w.heap.size w w' := by
  have hh := heap_alloc_new w (.cells #[.int .i64 4, .int .i64 2, .int .i64 2, .int .i64 2, .int .i64 2, .int .i64 4, .int .i64 4, .int .i64 2] 3)
  have HR : Hid (RdI (w.alloc (.cells #[.int .i64 4, .int .i64 2, .int .i64 2, .int .i64 2, .int .i64 2, .int .i64 4, .int .i64 4, .int .i64 2] 3)) .i64 (some ⟨w.heap.size, 0, none⟩) wsE) := RdI.of_heap hh rfl
  have HB : Hid (Below w.heap.size w (w.alloc (.cells #[.int .i64 4, .int .i64 2, .int .i64 2, .int .i64 2, .int .i64 2, .int .i64 4, .int .i64 4, .int .i64 2] 3))) := (Below.refl _ _).alloc (Nat.le_refl _) _
  clear hh
  go_enter Try.func61, Try.ntmps61
  go_wp2_with fail
  go_ret
  exact ⟨rfl, HR.out, HB.out⟩
theorem rwides_any (w : World) : Calls Try.prog 63 #[] w fun e w' => e = .returned (.slice (some ⟨w.heap.size, 0, none⟩) 10 10) ∧ RdI w' .i64 (some ⟨w.heap.size, 0, none⟩) wsW ∧ Below w.heap.size w w' := by
  have hh := heap_alloc_new w (.cells #[.int .i64 4, .int .i64 8, .int .i64 2, .int .i64 2, .int .i64 4, .int .i64 4, .int .i64 8, .int .i64 8, .int .i64 8, .int .i64 8] 3)
  have HR : Hid (RdI (w.alloc (.cells #[.int .i64 4, .int .i64 8, .int .i64 2, .int .i64 2, .int .i64 4, .int .i64 4, .int .i64 8, .int .i64 8, .int .i64 8, .int .i64 8] 3)) .i64 (some ⟨w.heap.size, 0, none⟩) wsW) := RdI.of_heap hh rfl
  have HB : Hid (Below w.heap.size w (w.alloc (.cells #[.int .i64 4, .int .i64 8, .int .i64 2, .int .i64 2, .int .i64 4, .int .i64 4, .int .i64 8, .int .i64 8, .int .i64 8, .int .i64 8] 3))) := (Below.refl _ _).alloc (Nat.le_refl _) _
  clear hh
  go_enter Try.func63, Try.ntmps63
  go_wp2_with fail
  go_ret
  exact ⟨rfl, HR.out, HB.out⟩
theorem rlocators_any (w : World) : Calls Try.prog 62 #[] w fun e w' => e = .returned (.slice (some ⟨w.heap.size, 0, none⟩) 4 4) ∧ RdI w' .i64 (some ⟨w.heap.size, 0, none⟩) wsLo ∧ Below w.heap.size w w' := by
  have hh := heap_alloc_new w (.cells #[.int .i64 4, .int .i64 4, .int .i64 8, .int .i64 4] 3)
  have HR : Hid (RdI (w.alloc (.cells #[.int .i64 4, .int .i64 4, .int .i64 8, .int .i64 4] 3)) .i64 (some ⟨w.heap.size, 0, none⟩) wsLo) := RdI.of_heap hh rfl
  have HB : Hid (Below w.heap.size w (w.alloc (.cells #[.int .i64 4, .int .i64 4, .int .i64 8, .int .i64 4] 3))) := (Below.refl _ _).alloc (Nat.le_refl _) _
  clear hh
  go_enter Try.func62, Try.ntmps62
  go_wp2_with fail
  go_ret
  exact ⟨rfl, HR.out, HB.out⟩
set_option maxHeartbeats 40000000 in
theorem rprintT_any (at0 : Int) (n z o : Nat) (hn : n < 18446744073709551616) (hz : z < 18446744073709551616) (ho : o < 18446744073709551616) (c : ByteArray) (hc : c.size ≤ 1000000) (wd : Bool) (w : World) :
    Calls Try.prog 31 #[.agg #[.int .i64 at0, .int .u64 (n : Nat), .int .u64 (z : Nat), .int .u64 (o : Nat), .string c, .bool wd]] w fun e w' => e = .returned (prE n z o c wd) ∧ Below w.heap.size w w' := by
  have HH : Hid ((w.alloc (.cells #[.int .i64 at0, .int .u64 (n : Nat), .int .u64 (z : Nat), .int .u64 (o : Nat), .string c, .bool wd] 64)).heap[w.heap.size]? = some (.cells #[.int .i64 at0, .int .u64 (n : Nat), .int .u64 (z : Nat), .int .u64 (o : Nat), .string c, .bool wd] 64 (0, 0))) := heap_alloc_new _ _
  have HB : Hid (Below w.heap.size w (w.alloc (.cells #[.int .i64 at0, .int .u64 (n : Nat), .int .u64 (z : Nat), .int .u64 (o : Nat), .string c, .bool wd] 64))) := (Below.refl _ _).alloc (Nat.le_refl _) _
  have k0 : (w.alloc (.cells #[.int .i64 at0, .int .u64 (n : Nat), .int .u64 (z : Nat), .int .u64 (o : Nat), .string c, .bool wd] 64)).cell? ⟨w.heap.size, 0, none⟩ = some (.int .i64 at0) := by rw [Lib.cell_of_heap HH.out]; rfl
  have k1 : (w.alloc (.cells #[.int .i64 at0, .int .u64 (n : Nat), .int .u64 (z : Nat), .int .u64 (o : Nat), .string c, .bool wd] 64)).cell? ⟨w.heap.size, 1, none⟩ = some (.int .u64 (n : Nat)) := by rw [Lib.cell_of_heap HH.out]; rfl
  have k2 : (w.alloc (.cells #[.int .i64 at0, .int .u64 (n : Nat), .int .u64 (z : Nat), .int .u64 (o : Nat), .string c, .bool wd] 64)).cell? ⟨w.heap.size, 2, none⟩ = some (.int .u64 (z : Nat)) := by rw [Lib.cell_of_heap HH.out]; rfl
  have k3 : (w.alloc (.cells #[.int .i64 at0, .int .u64 (n : Nat), .int .u64 (z : Nat), .int .u64 (o : Nat), .string c, .bool wd] 64)).cell? ⟨w.heap.size, 3, none⟩ = some (.int .u64 (o : Nat)) := by rw [Lib.cell_of_heap HH.out]; rfl
  have k4 : (w.alloc (.cells #[.int .i64 at0, .int .u64 (n : Nat), .int .u64 (z : Nat), .int .u64 (o : Nat), .string c, .bool wd] 64)).cell? ⟨w.heap.size, 4, none⟩ = some (.string c) := by rw [Lib.cell_of_heap HH.out]; rfl
  have k5 : (w.alloc (.cells #[.int .i64 at0, .int .u64 (n : Nat), .int .u64 (z : Nat), .int .u64 (o : Nat), .string c, .bool wd] 64)).cell? ⟨w.heap.size, 5, none⟩ = some (.bool wd) := by rw [Lib.cell_of_heap HH.out]; rfl
  have hcw : IntKind.u64.wrap (c.size : Int) = c.size := by rw [IntKind.wrap_u64]; omega
  by_cases hbig : 65535 < c.size
  · have hd : decide ((65535 : Int) < (c.size : Int)) = true := decide_eq_true (by omega)
    have HA : Hid (prE n z o c wd = .tuple #[.string ⟨#[]⟩, .int .i64 5]) := if_pos hbig
    go_enter Try.func31, Try.ntmps31
    go_wp2_with fail
    go_ret2
    rw [HA.out]
    exact ⟨rfl, HB.out⟩
  have hd : decide ((65535 : Int) < (c.size : Int)) = false := decide_eq_false (by omega)
  go_enter Try.func31, Try.ntmps31
  go_upto_region 4 with fail
  generalize w.alloc (.cells #[.int .i64 at0, .int .u64 (n : Nat), .int .u64 (z : Nat), .int .u64 (o : Nat), .string c, .bool wd] 64) = wq0 at *
  go_quiet (fail)
  replace HH : Hid ((wq0.drewN nq).heap[w.heap.size]? = some (.cells #[.int .i64 at0, .int .u64 (n : Nat), .int .u64 (z : Nat), .int .u64 (o : Nat), .string c, .bool wd] 64 (0, 0))) := HH
  replace HB : Hid (Below w.heap.size w (wq0.drewN nq)) := below_drewN HB.out nq
  have m0 : (wq0.drewN nq).cell? ⟨w.heap.size, 0, none⟩ = some (.int .i64 at0) := by rw [Lib.cell_of_heap HH.out]; rfl
  have m1 : (wq0.drewN nq).cell? ⟨w.heap.size, 1, none⟩ = some (.int .u64 (n : Nat)) := by rw [Lib.cell_of_heap HH.out]; rfl
  have m2 : (wq0.drewN nq).cell? ⟨w.heap.size, 2, none⟩ = some (.int .u64 (z : Nat)) := by rw [Lib.cell_of_heap HH.out]; rfl
  have m3 : (wq0.drewN nq).cell? ⟨w.heap.size, 3, none⟩ = some (.int .u64 (o : Nat)) := by rw [Lib.cell_of_heap HH.out]; rfl
  have m4 : (wq0.drewN nq).cell? ⟨w.heap.size, 4, none⟩ = some (.string c) := by rw [Lib.cell_of_heap HH.out]; rfl
  have m5 : (wq0.drewN nq).cell? ⟨w.heap.size, 5, none⟩ = some (.bool wd) := by rw [Lib.cell_of_heap HH.out]; rfl
  clear k0 k1 k2 k3 k4 k5
  generalize wq0.drewN nq = wq1 at *
  cases wd with
  | true =>
    have HA : Hid (prE n z o c true = .tuple #[.string (wideT n z o ++ endT 65535 4294967295 4294967295 c), .int .i64 0]) := by
      show _ = _
      unfold prE
      rw [if_neg hbig, if_pos rfl]
    obtain ⟨pl, hpl⟩ : ∃ p, p = (o + z) % 18446744073709551616 := ⟨_, rfl⟩
    have hpi : ((o : Int) + (z : Int)) % 18446744073709551616 = pl := by omega
    have hplt : pl < 18446744073709551616 := by omega
    have HW : Hid (wideT n z o = text (prN [101075792, 44, 45, 45, 0, 0, n, n, z, o] wsW) ++ text (prN [117853008, 0, pl, 1] wsLo)) := by show _ = _; unfold wideT; rw [hpl]
    have HP1 := Lib.hid (fun g g2 w hr hrw => rprint_any (some ⟨g, 0, none⟩) 10 [101075792, 44, 45, 45, 0, 0, n, n, z, o] (some ⟨g2, 0, none⟩) 10 wsW rfl (by decide) (by decide) (by intro x hx; simp at hx; omega) w hr hrw)
    have HP2 := Lib.hid (fun g g2 w hr hrw => rprint_any (some ⟨g, 0, none⟩) 4 [117853008, 0, pl, 1] (some ⟨g2, 0, none⟩) 4 wsLo rfl (by decide) (by decide) (by intro x hx; simp at hx; omega) w hr hrw)
    have z1 : (text (prN [101075792, 44, 45, 45, 0, 0, n, n, z, o] wsW)).size = 56 := by rw [text_size, prN_len [101075792, 44, 45, 45, 0, 0, n, n, z, o] wsW rfl]; rfl
    have z2 : (text (prN [117853008, 0, pl, 1] wsLo)).size = 20 := by rw [text_size, prN_len [117853008, 0, pl, 1] wsLo rfl]; rfl
    generalize text (prN [101075792, 44, 45, 45, 0, 0, n, n, z, o] wsW) = W1 at *
    generalize text (prN [117853008, 0, pl, 1] wsLo) = W2 at *
    have HWP : Hid (IntKind.u64.wrap ((o : Int) + (z : Int)) = pl) := by show _ = _; rw [IntKind.wrap_u64]; omega
    clear hpl hpi
    have HR1 : Hid (RdI (wq1.alloc (.cells #[.int .u64 101075792, .int .u64 44, .int .u64 45, .int .u64 45, .int .u64 0, .int .u64 0, .int .u64 (n : Nat), .int .u64 (n : Nat), .int .u64 (z : Nat), .int .u64 (o : Nat)] 36)) .u64 (some ⟨wq1.heap.size, 0, none⟩) [101075792, 44, 45, 45, 0, 0, n, n, z, o]) := RdI.of_heap (heap_alloc_new _ _) rfl
    replace HH : Hid ((wq1.alloc (.cells #[.int .u64 101075792, .int .u64 44, .int .u64 45, .int .u64 45, .int .u64 0, .int .u64 0, .int .u64 (n : Nat), .int .u64 (n : Nat), .int .u64 (z : Nat), .int .u64 (o : Nat)] 36)).heap[w.heap.size]? = some (.cells #[.int .i64 at0, .int .u64 (n : Nat), .int .u64 (z : Nat), .int .u64 (o : Nat), .string c, .bool true] 64 (0, 0))) := (Below.heap_alloc _ _ _ (lt_of_some HH.out)).trans HH.out
    replace HB : Hid (Below w.heap.size w (wq1.alloc (.cells #[.int .u64 101075792, .int .u64 44, .int .u64 45, .int .u64 45, .int .u64 0, .int .u64 0, .int .u64 (n : Nat), .int .u64 (n : Nat), .int .u64 (z : Nat), .int .u64 (o : Nat)] 36))) := HB.out.alloc HB.out.size _
    go_wp2_with fail
    generalize wq1.alloc (.cells #[.int .u64 101075792, .int .u64 44, .int .u64 45, .int .u64 45, .int .u64 0, .int .u64 0, .int .u64 (n : Nat), .int .u64 (n : Nat), .int .u64 (z : Nat), .int .u64 (o : Nat)] 36) = wq2 at *
    refine (rwides_any _).mono ?_; rintro r wq3 ⟨rfl, hr2, hb⟩
    have HRX := Lib.hid (HP1.out _ _ _ (HR1.out.below hb) hr2)
    replace HH := Lib.hid ((hb.block _ (lt_of_some HH.out)).trans HH.out)
    replace HB := Lib.hid (HB.out.trans (hb.mono HB.out.size))
    clear hb hr2 HR1 HP1
    go_wp2_with fail
    refine (HRX.out).mono ?_; rintro r wq4 ⟨rfl, hb⟩
    replace HH := Lib.hid ((hb.block _ (lt_of_some HH.out)).trans HH.out)
    replace HB := Lib.hid (HB.out.trans (hb.mono HB.out.size))
    clear hb HRX
    have HR1 : Hid (RdI (wq4.alloc (.cells #[.int .u64 117853008, .int .u64 0, .int .u64 (IntKind.u64.wrap ((o : Int) + (z : Int))), .int .u64 1] 36)) .u64 (some ⟨wq4.heap.size, 0, none⟩) [117853008, 0, pl, 1]) := RdI.of_heap (heap_alloc_new _ _) (by rw [HWP.out]; rfl)
    replace HH : Hid ((wq4.alloc (.cells #[.int .u64 117853008, .int .u64 0, .int .u64 (IntKind.u64.wrap ((o : Int) + (z : Int))), .int .u64 1] 36)).heap[w.heap.size]? = some (.cells #[.int .i64 at0, .int .u64 (n : Nat), .int .u64 (z : Nat), .int .u64 (o : Nat), .string c, .bool true] 64 (0, 0))) := (Below.heap_alloc _ _ _ (lt_of_some HH.out)).trans HH.out
    replace HB : Hid (Below w.heap.size w (wq4.alloc (.cells #[.int .u64 117853008, .int .u64 0, .int .u64 (IntKind.u64.wrap ((o : Int) + (z : Int))), .int .u64 1] 36))) := HB.out.alloc HB.out.size _
    go_wp2_with fail
    generalize wq4.alloc (.cells #[.int .u64 117853008, .int .u64 0, .int .u64 (IntKind.u64.wrap ((o : Int) + (z : Int))), .int .u64 1] 36) = wq5 at *
    refine (rlocators_any _).mono ?_; rintro r wq6 ⟨rfl, hr2, hb⟩
    have HRX := Lib.hid (HP2.out _ _ _ (HR1.out.below hb) hr2)
    replace HH := Lib.hid ((hb.block _ (lt_of_some HH.out)).trans HH.out)
    replace HB := Lib.hid (HB.out.trans (hb.mono HB.out.size))
    clear hb hr2 HR1 HP2
    go_wp2_with fail
    refine (HRX.out).mono ?_; rintro r wq ⟨rfl, hb⟩
    replace HH := Lib.hid ((hb.block _ (lt_of_some HH.out)).trans HH.out)
    replace HB := Lib.hid (HB.out.trans (hb.mono HB.out.size))
    clear hb HRX
    have zW : (W1 ++ W2).size = 76 := by rw [ByteArray.size_append]; omega
    go_upto_region 13 with fail
    generalize hghg : w.heap.size = gh at *
    have HGH := Lib.hid hghg
    clear hghg
    unfold endT at HA
    rw [HW.out] at HA
    generalize W1 ++ W2 = W3 at *
    clear z1 z2 HW
    have HPR : Hid (∀ (g g2 : Nat) (w : World), RdI w .u64 (some ⟨g, 0, none⟩) [101010256, 0, 0, 65535, 65535, 4294967295, 4294967295, c.size] → RdI w .i64 (some ⟨g2, 0, none⟩) wsE → Calls Try.prog 24 #[.slice (some ⟨g, 0, none⟩) 8 8, .slice (some ⟨g2, 0, none⟩) 8 8] w fun e w' => e = .returned (.string (text (prN [101010256, 0, 0, 65535, 65535, 4294967295, 4294967295, c.size] wsE))) ∧ Below w.heap.size w w') := fun g g2 w hr hrw => rprint_any (some ⟨g, 0, none⟩) 8 [101010256, 0, 0, 65535, 65535, 4294967295, 4294967295, c.size] (some ⟨g2, 0, none⟩) 8 wsE rfl (by decide) (by decide) (by intro x hx; simp at hx; omega) w hr hrw
    have zPE : (text (prN [101010256, 0, 0, 65535, 65535, 4294967295, 4294967295, c.size] wsE)).size = 22 := by rw [text_size, prN_len [101010256, 0, 0, 65535, 65535, 4294967295, 4294967295, c.size] wsE rfl]; rfl
    have hov1 : ¬ 9223372036854775807 < 22 + c.size := by omega
    have hov2 : ¬ 9223372036854775807 < 98 + c.size := by omega
    have hov3 : ¬ 9223372036854775807 < 76 + 22 + c.size := by omega
    generalize text (prN [101010256, 0, 0, 65535, 65535, 4294967295, 4294967295, c.size] wsE) = PE at *
    have hS0 : (fun ww => ww.heap[gh]? = some (.cells #[.int .i64 at0, .int .u64 (n : Nat), .int .u64 (z : Nat), .int .u64 (o : Nat), .string c, .bool true] 64 (0, 0)) ∧ Below gh w ww) wq.drew := ⟨HH.out, HB.out.drew⟩
    refine wp_region_held_drew (S := fun ww => ww.heap[gh]? = some (.cells #[.int .i64 at0, .int .u64 (n : Nat), .int .u64 (z : Nat), .int .u64 (o : Nat), .string c, .bool true] 64 (0, 0)) ∧ Below gh w ww) (by kernel_rfl) hS0 (fun hSA => ?_)
    clear hS0 HH HB
    generalize wq.drew = q0 at *
    refine wpAnyH_take (i := 0) (v := .string W3) rfl (by kernel_rfl) (by kernel_rfl) (by kernel_rfl) (fun _ _ _ h => h) (Or.inl ⟨by kernel_rfl, ?_⟩) (by assumption) ?_
    · intro ww hSw
      clear hSw
      go_simp
      all_goals (try omega)
      all_goals (try assumption)
      all_goals (try rfl)
    try simp only [Act.put, List.setIfInBounds_toArray, List.set_cons_zero, List.set_cons_succ, List.getElem_toArray, List.getElem_cons_succ, List.getElem_cons_zero]
    refine wpAnyH_take (i := 1) (v := .int .u64 65535) rfl (by kernel_rfl) (by kernel_rfl) (by kernel_rfl) (fun _ _ _ h => h) (Or.inl ⟨by kernel_rfl, ?_⟩) (by assumption) ?_
    · intro ww hSw
      clear hSw
      go_simp
      all_goals (try omega)
      all_goals (try assumption)
      all_goals (try rfl)
    try simp only [Act.put, List.setIfInBounds_toArray, List.set_cons_zero, List.set_cons_succ, List.getElem_toArray, List.getElem_cons_succ, List.getElem_cons_zero]
    refine wpAnyH_take (i := 2) (v := .int .u64 65535) rfl (by kernel_rfl) (by kernel_rfl) (by kernel_rfl) (fun _ _ _ h => h) (Or.inl ⟨by kernel_rfl, ?_⟩) (by assumption) ?_
    · intro ww hSw
      clear hSw
      go_simp
      all_goals (try omega)
      all_goals (try assumption)
      all_goals (try rfl)
    try simp only [Act.put, List.setIfInBounds_toArray, List.set_cons_zero, List.set_cons_succ, List.getElem_toArray, List.getElem_cons_succ, List.getElem_cons_zero]
    refine wpAnyH_take (i := 3) (v := .int .u64 4294967295) rfl (by kernel_rfl) (by kernel_rfl) (by kernel_rfl) (fun _ _ _ h => h) (Or.inl ⟨by kernel_rfl, ?_⟩) (by assumption) ?_
    · intro ww hSw
      clear hSw
      go_simp
      all_goals (try omega)
      all_goals (try assumption)
      all_goals (try rfl)
    try simp only [Act.put, List.setIfInBounds_toArray, List.set_cons_zero, List.set_cons_succ, List.getElem_toArray, List.getElem_cons_succ, List.getElem_cons_zero]
    refine wpAnyH_take (i := 4) (v := .int .u64 4294967295) rfl (by kernel_rfl) (by kernel_rfl) (by kernel_rfl) (fun _ _ _ h => h) (Or.inl ⟨by kernel_rfl, ?_⟩) (by assumption) ?_
    · intro ww hSw
      clear hSw
      go_simp
      all_goals (try omega)
      all_goals (try assumption)
      all_goals (try rfl)
    try simp only [Act.put, List.setIfInBounds_toArray, List.set_cons_zero, List.set_cons_succ, List.getElem_toArray, List.getElem_cons_succ, List.getElem_cons_zero]
    refine wpAnyH_take (i := 5) (v := .pointer (some ⟨gh, 4, none⟩)) rfl (by kernel_rfl) (by kernel_rfl) (by kernel_rfl) (fun _ _ _ h => h) (Or.inl ⟨by kernel_rfl, ?_⟩) (by assumption) ?_
    · intro ww hSw
      clear hSw
      go_simp
      all_goals (try omega)
      all_goals (try assumption)
      all_goals (try rfl)
    try simp only [Act.put, List.setIfInBounds_toArray, List.set_cons_zero, List.set_cons_succ, List.getElem_toArray, List.getElem_cons_succ, List.getElem_cons_zero]
    refine wpAnyH_take (i := 6) (v := .string c) rfl (by kernel_rfl) (by kernel_rfl) (by kernel_rfl) (fun _ _ _ h => h) (Or.inl ⟨by kernel_rfl, ?_⟩) (by assumption) ?_
    · intro ww hSw
      have hcc : ww.cell? ⟨gh, 4, none⟩ = some (.string c) := by rw [Lib.cell_of_heap hSw.1]; rfl
      clear hSw
      go_simp
      all_goals (try omega)
      all_goals (try assumption)
      all_goals (try rfl)
    try simp only [Act.put, List.setIfInBounds_toArray, List.set_cons_zero, List.set_cons_succ, List.getElem_toArray, List.getElem_cons_succ, List.getElem_cons_zero]
    refine wpAnyH_take (i := 7) (v := .int .i64 (c.size : Nat)) rfl (by kernel_rfl) (by kernel_rfl) (by kernel_rfl) (fun _ _ _ h => h) (Or.inl ⟨by kernel_rfl, ?_⟩) (by assumption) ?_
    · intro ww hSw
      clear hSw
      go_simp
      all_goals (try omega)
      all_goals (try assumption)
      all_goals (try rfl)
    try simp only [Act.put, List.setIfInBounds_toArray, List.set_cons_zero, List.set_cons_succ, List.getElem_toArray, List.getElem_cons_succ, List.getElem_cons_zero]
    refine wpAnyH_take (i := 8) (v := .int .u64 (c.size : Nat)) rfl (by kernel_rfl) (by kernel_rfl) (by kernel_rfl) (fun _ _ _ h => h) (Or.inl ⟨by kernel_rfl, ?_⟩) (by assumption) ?_
    · intro ww hSw
      clear hSw
      go_simp
      all_goals (try omega)
      all_goals (try assumption)
      all_goals (try rfl)
    try simp only [Act.put, List.setIfInBounds_toArray, List.set_cons_zero, List.set_cons_succ, List.getElem_toArray, List.getElem_cons_succ, List.getElem_cons_zero]
    refine wpAnyH_take (i := 13) (v := .pointer (some ⟨gh, 4, none⟩)) rfl (by kernel_rfl) (by kernel_rfl) (by kernel_rfl) (fun _ _ _ h => h) (Or.inl ⟨by kernel_rfl, ?_⟩) (by assumption) ?_
    · intro ww hSw
      clear hSw
      go_simp
      all_goals (try omega)
      all_goals (try assumption)
      all_goals (try rfl)
    try simp only [Act.put, List.setIfInBounds_toArray, List.set_cons_zero, List.set_cons_succ, List.getElem_toArray, List.getElem_cons_succ, List.getElem_cons_zero]
    refine wpAnyH_take (i := 14) (v := .string c) rfl (by kernel_rfl) (by kernel_rfl) (by kernel_rfl) (fun _ _ _ h => h) (Or.inl ⟨by kernel_rfl, ?_⟩) (by assumption) ?_
    · intro ww hSw
      have hcc : ww.cell? ⟨gh, 4, none⟩ = some (.string c) := by rw [Lib.cell_of_heap hSw.1]; rfl
      clear hSw
      go_simp
      all_goals (try omega)
      all_goals (try assumption)
      all_goals (try rfl)
    try simp only [Act.put, List.setIfInBounds_toArray, List.set_cons_zero, List.set_cons_succ, List.getElem_toArray, List.getElem_cons_succ, List.getElem_cons_zero]
    refine wpAnyH_ready (rs := [9, 10]) (by kernel_rfl) (by simp) ?_
    refine AllReadyH.cons rfl (fun K hK => ?_) (AllReadyH.cons rfl (fun K hK => ?_) AllReadyH.nil)
    · go_simp
      have hbb : Below q0.heap.size q0 (q0.alloc (.cells #[.int .u64 101010256, .int .u64 0, .int .u64 0, .int .u64 65535, .int .u64 65535, .int .u64 4294967295, .int .u64 4294967295, .int .u64 (c.size : Nat)] 36)) := (Below.refl _ _).alloc (Nat.le_refl _) _
      have HRA : Hid (RdI (q0.alloc (.cells #[.int .u64 101010256, .int .u64 0, .int .u64 0, .int .u64 65535, .int .u64 65535, .int .u64 4294967295, .int .u64 4294967295, .int .u64 (c.size : Nat)] 36)) .u64 (some ⟨q0.heap.size, 0, none⟩) [101010256, 0, 0, 65535, 65535, 4294967295, 4294967295, c.size]) := RdI.of_heap (heap_alloc_new _ _) rfl
      have hS1 : (fun ww => ww.heap[gh]? = some (.cells #[.int .i64 at0, .int .u64 (n : Nat), .int .u64 (z : Nat), .int .u64 (o : Nat), .string c, .bool true] 64 (0, 0)) ∧ Below gh w ww) (q0.alloc (.cells #[.int .u64 101010256, .int .u64 0, .int .u64 0, .int .u64 65535, .int .u64 65535, .int .u64 4294967295, .int .u64 4294967295, .int .u64 (c.size : Nat)] 36)) := ⟨(hbb.block _ (lt_of_some hSA.1)).trans hSA.1, hSA.2.trans (hbb.mono (Nat.le_of_lt (lt_of_some hSA.1)))⟩
      refine hK.out _ _ hS1 (fun hTb => ?_)
      clear hK K
      try simp only [Act.put, List.setIfInBounds_toArray, List.set_cons_zero, List.set_cons_succ, List.getElem_toArray, List.getElem_cons_succ, List.getElem_cons_zero]
      generalize q0.alloc (.cells #[.int .u64 101010256, .int .u64 0, .int .u64 0, .int .u64 65535, .int .u64 65535, .int .u64 4294967295, .int .u64 4294967295, .int .u64 (c.size : Nat)] 36) = q1 at *
      refine wpAnyH_ready (rs := [10]) (by kernel_rfl) (by simp) ?_
      refine AllReadyH.cons rfl (fun K hK => ?_) AllReadyH.nil
      go_simp
      refine (rends_any _).mono ?_
      rintro e q2 ⟨rfl, hrb, hb2⟩
      have HRB := Lib.hid hrb
      replace HRA := Lib.hid (HRA.out.below hb2)
      have hS2 : (fun ww => ww.heap[gh]? = some (.cells #[.int .i64 at0, .int .u64 (n : Nat), .int .u64 (z : Nat), .int .u64 (o : Nat), .string c, .bool true] 64 (0, 0)) ∧ Below gh w ww) q2 := ⟨(hb2.block _ (lt_of_some hS1.1)).trans hS1.1, hS1.2.trans (hb2.mono (Nat.le_of_lt (lt_of_some hS1.1)))⟩
      refine hK.out _ _ hS2 (fun hT2 => ?_)
      clear hK K hrb
      try simp only [Act.put, List.setIfInBounds_toArray, List.set_cons_zero, List.set_cons_succ, List.getElem_toArray, List.getElem_cons_succ, List.getElem_cons_zero]
      refine wpAnyH_ready (rs := [11]) (by kernel_rfl) (by simp) ?_
      refine AllReadyH.cons rfl (fun K hK => ?_) AllReadyH.nil
      go_simp
      refine (HPR.out _ _ _ HRA.out HRB.out).mono ?_
      rintro e q5 ⟨rfl, hb5⟩
      have hS5 : (fun ww => ww.heap[gh]? = some (.cells #[.int .i64 at0, .int .u64 (n : Nat), .int .u64 (z : Nat), .int .u64 (o : Nat), .string c, .bool true] 64 (0, 0)) ∧ Below gh w ww) q5 := ⟨(hb5.block _ (lt_of_some hS2.1)).trans hS2.1, hS2.2.trans (hb5.mono (Nat.le_of_lt (lt_of_some hS2.1)))⟩
      refine hK.out _ _ hS5 (fun hT5 => ?_)
      clear hK K
      try simp only [Act.put, List.setIfInBounds_toArray, List.set_cons_zero, List.set_cons_succ, List.getElem_toArray, List.getElem_cons_succ, List.getElem_cons_zero]
      refine wpAnyH_take (i := 12) (v := ?_) rfl (by kernel_rfl) (by kernel_rfl) (by kernel_rfl) (fun _ _ _ h => h) (Or.inl ⟨by kernel_rfl, ?_⟩) (by assumption) ?_
      rotate_left
      · intro ww hSw
        clear hSw
        go_simp
        try with_reducible rfl
      try simp only [Act.put, List.setIfInBounds_toArray, List.set_cons_zero, List.set_cons_succ, List.getElem_toArray, List.getElem_cons_succ, List.getElem_cons_zero]
      refine wpAnyH_take (i := 15) (v := ?_) rfl (by kernel_rfl) (by kernel_rfl) (by kernel_rfl) (fun _ _ _ h => h) (Or.inl ⟨by kernel_rfl, ?_⟩) (by assumption) ?_
      rotate_left
      · intro ww hSw
        clear hSw
        go_simp
        try with_reducible rfl
      try simp only [Act.put, List.setIfInBounds_toArray, List.set_cons_zero, List.set_cons_succ, List.getElem_toArray, List.getElem_cons_succ, List.getElem_cons_zero]
      refine wpAnyH_take (i := 16) (v := ?_) rfl (by kernel_rfl) (by kernel_rfl) (by kernel_rfl) (fun _ _ _ h => h) (Or.inl ⟨by kernel_rfl, ?_⟩) (by assumption) ?_
      rotate_left
      · intro ww hSw
        clear hSw
        go_simp
        try with_reducible rfl
      try simp only [Act.put, List.setIfInBounds_toArray, List.set_cons_zero, List.set_cons_succ, List.getElem_toArray, List.getElem_cons_succ, List.getElem_cons_zero]
      refine wpAnyH_take (i := 17) (v := .int .i64 0) rfl (by kernel_rfl) (by kernel_rfl) (by kernel_rfl) (fun _ _ _ h => h) (Or.inl ⟨by kernel_rfl, ?_⟩) (by assumption) ?_
      · intro ww hSw
        clear hSw
        go_simp
        all_goals (try omega)
        all_goals (try assumption)
        all_goals (try rfl)
      try simp only [Act.put, List.setIfInBounds_toArray, List.set_cons_zero, List.set_cons_succ, List.getElem_toArray, List.getElem_cons_succ, List.getElem_cons_zero]
      have HFB := Lib.hid hS5.2
      refine wpAnyH_done (by kernel_rfl) ?_ _
      go_wp2_with fail
      go_ret2
      rw [HA.out]
      exact ⟨by first | rfl | (simp [ByteArray.append_assoc, ByteArray.empty_append]) | (rw [ByteArray.append_assoc]), by rw [HGH.out]; exact HFB.out⟩
    · go_simp
      refine (rends_any _).mono ?_
      rintro e q2 ⟨rfl, hrb, hb2⟩
      have HRB := Lib.hid hrb
      have hS2 : (fun ww => ww.heap[gh]? = some (.cells #[.int .i64 at0, .int .u64 (n : Nat), .int .u64 (z : Nat), .int .u64 (o : Nat), .string c, .bool true] 64 (0, 0)) ∧ Below gh w ww) q2 := ⟨(hb2.block _ (lt_of_some hSA.1)).trans hSA.1, hSA.2.trans (hb2.mono (Nat.le_of_lt (lt_of_some hSA.1)))⟩
      refine hK.out _ _ hS2 (fun hT2 => ?_)
      clear hK K hrb
      try simp only [Act.put, List.setIfInBounds_toArray, List.set_cons_zero, List.set_cons_succ, List.getElem_toArray, List.getElem_cons_succ, List.getElem_cons_zero]
      refine wpAnyH_ready (rs := [9]) (by kernel_rfl) (by simp) ?_
      refine AllReadyH.cons rfl (fun K hK => ?_) AllReadyH.nil
      go_simp
      have hbb : Below q2.heap.size q2 (q2.alloc (.cells #[.int .u64 101010256, .int .u64 0, .int .u64 0, .int .u64 65535, .int .u64 65535, .int .u64 4294967295, .int .u64 4294967295, .int .u64 (c.size : Nat)] 36)) := (Below.refl _ _).alloc (Nat.le_refl _) _
      have HRA : Hid (RdI (q2.alloc (.cells #[.int .u64 101010256, .int .u64 0, .int .u64 0, .int .u64 65535, .int .u64 65535, .int .u64 4294967295, .int .u64 4294967295, .int .u64 (c.size : Nat)] 36)) .u64 (some ⟨q2.heap.size, 0, none⟩) [101010256, 0, 0, 65535, 65535, 4294967295, 4294967295, c.size]) := RdI.of_heap (heap_alloc_new _ _) rfl
      have hS3 : (fun ww => ww.heap[gh]? = some (.cells #[.int .i64 at0, .int .u64 (n : Nat), .int .u64 (z : Nat), .int .u64 (o : Nat), .string c, .bool true] 64 (0, 0)) ∧ Below gh w ww) (q2.alloc (.cells #[.int .u64 101010256, .int .u64 0, .int .u64 0, .int .u64 65535, .int .u64 65535, .int .u64 4294967295, .int .u64 4294967295, .int .u64 (c.size : Nat)] 36)) := ⟨(hbb.block _ (lt_of_some hS2.1)).trans hS2.1, hS2.2.trans (hbb.mono (Nat.le_of_lt (lt_of_some hS2.1)))⟩
      refine hK.out _ _ hS3 (fun hTb => ?_)
      clear hK K
      try simp only [Act.put, List.setIfInBounds_toArray, List.set_cons_zero, List.set_cons_succ, List.getElem_toArray, List.getElem_cons_succ, List.getElem_cons_zero]
      replace HRB := Lib.hid (HRB.out.below hbb)
      generalize q2.alloc (.cells #[.int .u64 101010256, .int .u64 0, .int .u64 0, .int .u64 65535, .int .u64 65535, .int .u64 4294967295, .int .u64 4294967295, .int .u64 (c.size : Nat)] 36) = q3 at *
      refine wpAnyH_ready (rs := [11]) (by kernel_rfl) (by simp) ?_
      refine AllReadyH.cons rfl (fun K hK => ?_) AllReadyH.nil
      go_simp
      refine (HPR.out _ _ _ HRA.out HRB.out).mono ?_
      rintro e q5 ⟨rfl, hb5⟩
      have hS5 : (fun ww => ww.heap[gh]? = some (.cells #[.int .i64 at0, .int .u64 (n : Nat), .int .u64 (z : Nat), .int .u64 (o : Nat), .string c, .bool true] 64 (0, 0)) ∧ Below gh w ww) q5 := ⟨(hb5.block _ (lt_of_some hS3.1)).trans hS3.1, hS3.2.trans (hb5.mono (Nat.le_of_lt (lt_of_some hS3.1)))⟩
      refine hK.out _ _ hS5 (fun hT5 => ?_)
      clear hK K
      try simp only [Act.put, List.setIfInBounds_toArray, List.set_cons_zero, List.set_cons_succ, List.getElem_toArray, List.getElem_cons_succ, List.getElem_cons_zero]
      refine wpAnyH_take (i := 12) (v := ?_) rfl (by kernel_rfl) (by kernel_rfl) (by kernel_rfl) (fun _ _ _ h => h) (Or.inl ⟨by kernel_rfl, ?_⟩) (by assumption) ?_
      rotate_left
      · intro ww hSw
        clear hSw
        go_simp
        try with_reducible rfl
      try simp only [Act.put, List.setIfInBounds_toArray, List.set_cons_zero, List.set_cons_succ, List.getElem_toArray, List.getElem_cons_succ, List.getElem_cons_zero]
      refine wpAnyH_take (i := 15) (v := ?_) rfl (by kernel_rfl) (by kernel_rfl) (by kernel_rfl) (fun _ _ _ h => h) (Or.inl ⟨by kernel_rfl, ?_⟩) (by assumption) ?_
      rotate_left
      · intro ww hSw
        clear hSw
        go_simp
        try with_reducible rfl
      try simp only [Act.put, List.setIfInBounds_toArray, List.set_cons_zero, List.set_cons_succ, List.getElem_toArray, List.getElem_cons_succ, List.getElem_cons_zero]
      refine wpAnyH_take (i := 16) (v := ?_) rfl (by kernel_rfl) (by kernel_rfl) (by kernel_rfl) (fun _ _ _ h => h) (Or.inl ⟨by kernel_rfl, ?_⟩) (by assumption) ?_
      rotate_left
      · intro ww hSw
        clear hSw
        go_simp
        try with_reducible rfl
      try simp only [Act.put, List.setIfInBounds_toArray, List.set_cons_zero, List.set_cons_succ, List.getElem_toArray, List.getElem_cons_succ, List.getElem_cons_zero]
      refine wpAnyH_take (i := 17) (v := .int .i64 0) rfl (by kernel_rfl) (by kernel_rfl) (by kernel_rfl) (fun _ _ _ h => h) (Or.inl ⟨by kernel_rfl, ?_⟩) (by assumption) ?_
      · intro ww hSw
        clear hSw
        go_simp
        all_goals (try omega)
        all_goals (try assumption)
        all_goals (try rfl)
      try simp only [Act.put, List.setIfInBounds_toArray, List.set_cons_zero, List.set_cons_succ, List.getElem_toArray, List.getElem_cons_succ, List.getElem_cons_zero]
      have HFB := Lib.hid hS5.2
      refine wpAnyH_done (by kernel_rfl) ?_ _
      go_wp2_with fail
      go_ret2
      rw [HA.out]
      exact ⟨by first | rfl | (simp [ByteArray.append_assoc, ByteArray.empty_append]) | (rw [ByteArray.append_assoc]), by rw [HGH.out]; exact HFB.out⟩
  | false =>
    by_cases hb : bigB n z o = true
    · have HA : Hid (prE n z o c false = .tuple #[.string ⟨#[]⟩, .int .i64 8]) := by
        show _ = _
        unfold prE
        rw [if_neg hbig, if_neg (by decide), if_pos hb]
      have hbb := of_decide_eq_true hb
      by_cases h1 : 65535 ≤ n
      · have d1 : decide ((65535 : Int) ≤ (n : Int)) = true := decide_eq_true (by omega)
        go_wp2_with fail
        go_ret2
        rw [HA.out]
        exact ⟨rfl, HB.out⟩
      · have d1 : decide ((65535 : Int) ≤ (n : Int)) = false := decide_eq_false (by omega)
        by_cases h2 : 4294967295 ≤ z
        · have d2 : decide ((4294967295 : Int) ≤ (z : Int)) = true := decide_eq_true (by omega)
          go_wp2_with fail
          go_ret2
          rw [HA.out]
          exact ⟨rfl, HB.out⟩
        · have d2 : decide ((4294967295 : Int) ≤ (z : Int)) = false := decide_eq_false (by omega)
          have h3 : 4294967295 ≤ o := by omega
          have d3 : decide ((4294967295 : Int) ≤ (o : Int)) = true := decide_eq_true (by omega)
          go_wp2_with fail
          go_ret2
          rw [HA.out]
          exact ⟨rfl, HB.out⟩
    · have hbb : ¬ (65535 ≤ n ∨ 4294967295 ≤ z ∨ 4294967295 ≤ o) := fun h => hb (decide_eq_true h)
      have HA : Hid (prE n z o c false = .tuple #[.string (endT n z o c), .int .i64 0]) := by
        show _ = _
        unfold prE
        rw [if_neg hbig, if_neg (by decide), if_neg hb]
      have d1 : decide ((65535 : Int) ≤ (n : Int)) = false := decide_eq_false (by omega)
      have d2 : decide ((4294967295 : Int) ≤ (z : Int)) = false := decide_eq_false (by omega)
      have d3 : decide ((4294967295 : Int) ≤ (o : Int)) = false := decide_eq_false (by omega)
      have h1 : ¬ 65535 ≤ n := by omega
      have h2 : ¬ 4294967295 ≤ z := by omega
      have h3 : ¬ 4294967295 ≤ o := by omega
      clear hbb hb
      go_upto_region 13 with fail
      generalize hghg : w.heap.size = gh at *
      have HGH := Lib.hid hghg
      clear hghg
      generalize wq1 = wq at *
      unfold endT at HA
      have HPR : Hid (∀ (g g2 : Nat) (w : World), RdI w .u64 (some ⟨g, 0, none⟩) [101010256, 0, 0, n, n, z, o, c.size] → RdI w .i64 (some ⟨g2, 0, none⟩) wsE → Calls Try.prog 24 #[.slice (some ⟨g, 0, none⟩) 8 8, .slice (some ⟨g2, 0, none⟩) 8 8] w fun e w' => e = .returned (.string (text (prN [101010256, 0, 0, n, n, z, o, c.size] wsE))) ∧ Below w.heap.size w w') := fun g g2 w hr hrw => rprint_any (some ⟨g, 0, none⟩) 8 [101010256, 0, 0, n, n, z, o, c.size] (some ⟨g2, 0, none⟩) 8 wsE rfl (by decide) (by decide) (by intro x hx; simp at hx; omega) w hr hrw
      have zPE : (text (prN [101010256, 0, 0, n, n, z, o, c.size] wsE)).size = 22 := by rw [text_size, prN_len [101010256, 0, 0, n, n, z, o, c.size] wsE rfl]; rfl
      have hov1 : ¬ 9223372036854775807 < 22 + c.size := by omega
      have hov2 : ¬ 9223372036854775807 < 98 + c.size := by omega
      have hov3 : ¬ 9223372036854775807 < 76 + 22 + c.size := by omega
      generalize text (prN [101010256, 0, 0, n, n, z, o, c.size] wsE) = PE at *
      have hS0 : (fun ww => ww.heap[gh]? = some (.cells #[.int .i64 at0, .int .u64 (n : Nat), .int .u64 (z : Nat), .int .u64 (o : Nat), .string c, .bool false] 64 (0, 0)) ∧ Below gh w ww) wq.drew := ⟨HH.out, HB.out.drew⟩
      refine wp_region_held_drew (S := fun ww => ww.heap[gh]? = some (.cells #[.int .i64 at0, .int .u64 (n : Nat), .int .u64 (z : Nat), .int .u64 (o : Nat), .string c, .bool false] 64 (0, 0)) ∧ Below gh w ww) (by kernel_rfl) hS0 (fun hSA => ?_)
      clear hS0 HH HB
      generalize wq.drew = q0 at *
      refine wpAnyH_take (i := 0) (v := .string ⟨#[]⟩) rfl (by kernel_rfl) (by kernel_rfl) (by kernel_rfl) (fun _ _ _ h => h) (Or.inl ⟨by kernel_rfl, ?_⟩) (by assumption) ?_
      · intro ww hSw
        clear hSw
        go_simp
        all_goals (try omega)
        all_goals (try assumption)
        all_goals (try rfl)
      try simp only [Act.put, List.setIfInBounds_toArray, List.set_cons_zero, List.set_cons_succ, List.getElem_toArray, List.getElem_cons_succ, List.getElem_cons_zero]
      refine wpAnyH_take (i := 1) (v := .int .u64 (n : Nat)) rfl (by kernel_rfl) (by kernel_rfl) (by kernel_rfl) (fun _ _ _ h => h) (Or.inl ⟨by kernel_rfl, ?_⟩) (by assumption) ?_
      · intro ww hSw
        clear hSw
        go_simp
        all_goals (try omega)
        all_goals (try assumption)
        all_goals (try rfl)
      try simp only [Act.put, List.setIfInBounds_toArray, List.set_cons_zero, List.set_cons_succ, List.getElem_toArray, List.getElem_cons_succ, List.getElem_cons_zero]
      refine wpAnyH_take (i := 2) (v := .int .u64 (n : Nat)) rfl (by kernel_rfl) (by kernel_rfl) (by kernel_rfl) (fun _ _ _ h => h) (Or.inl ⟨by kernel_rfl, ?_⟩) (by assumption) ?_
      · intro ww hSw
        clear hSw
        go_simp
        all_goals (try omega)
        all_goals (try assumption)
        all_goals (try rfl)
      try simp only [Act.put, List.setIfInBounds_toArray, List.set_cons_zero, List.set_cons_succ, List.getElem_toArray, List.getElem_cons_succ, List.getElem_cons_zero]
      refine wpAnyH_take (i := 3) (v := .int .u64 (z : Nat)) rfl (by kernel_rfl) (by kernel_rfl) (by kernel_rfl) (fun _ _ _ h => h) (Or.inl ⟨by kernel_rfl, ?_⟩) (by assumption) ?_
      · intro ww hSw
        clear hSw
        go_simp
        all_goals (try omega)
        all_goals (try assumption)
        all_goals (try rfl)
      try simp only [Act.put, List.setIfInBounds_toArray, List.set_cons_zero, List.set_cons_succ, List.getElem_toArray, List.getElem_cons_succ, List.getElem_cons_zero]
      refine wpAnyH_take (i := 4) (v := .int .u64 (o : Nat)) rfl (by kernel_rfl) (by kernel_rfl) (by kernel_rfl) (fun _ _ _ h => h) (Or.inl ⟨by kernel_rfl, ?_⟩) (by assumption) ?_
      · intro ww hSw
        clear hSw
        go_simp
        all_goals (try omega)
        all_goals (try assumption)
        all_goals (try rfl)
      try simp only [Act.put, List.setIfInBounds_toArray, List.set_cons_zero, List.set_cons_succ, List.getElem_toArray, List.getElem_cons_succ, List.getElem_cons_zero]
      refine wpAnyH_take (i := 5) (v := .pointer (some ⟨gh, 4, none⟩)) rfl (by kernel_rfl) (by kernel_rfl) (by kernel_rfl) (fun _ _ _ h => h) (Or.inl ⟨by kernel_rfl, ?_⟩) (by assumption) ?_
      · intro ww hSw
        clear hSw
        go_simp
        all_goals (try omega)
        all_goals (try assumption)
        all_goals (try rfl)
      try simp only [Act.put, List.setIfInBounds_toArray, List.set_cons_zero, List.set_cons_succ, List.getElem_toArray, List.getElem_cons_succ, List.getElem_cons_zero]
      refine wpAnyH_take (i := 6) (v := .string c) rfl (by kernel_rfl) (by kernel_rfl) (by kernel_rfl) (fun _ _ _ h => h) (Or.inl ⟨by kernel_rfl, ?_⟩) (by assumption) ?_
      · intro ww hSw
        have hcc : ww.cell? ⟨gh, 4, none⟩ = some (.string c) := by rw [Lib.cell_of_heap hSw.1]; rfl
        clear hSw
        go_simp
        all_goals (try omega)
        all_goals (try assumption)
        all_goals (try rfl)
      try simp only [Act.put, List.setIfInBounds_toArray, List.set_cons_zero, List.set_cons_succ, List.getElem_toArray, List.getElem_cons_succ, List.getElem_cons_zero]
      refine wpAnyH_take (i := 7) (v := .int .i64 (c.size : Nat)) rfl (by kernel_rfl) (by kernel_rfl) (by kernel_rfl) (fun _ _ _ h => h) (Or.inl ⟨by kernel_rfl, ?_⟩) (by assumption) ?_
      · intro ww hSw
        clear hSw
        go_simp
        all_goals (try omega)
        all_goals (try assumption)
        all_goals (try rfl)
      try simp only [Act.put, List.setIfInBounds_toArray, List.set_cons_zero, List.set_cons_succ, List.getElem_toArray, List.getElem_cons_succ, List.getElem_cons_zero]
      refine wpAnyH_take (i := 8) (v := .int .u64 (c.size : Nat)) rfl (by kernel_rfl) (by kernel_rfl) (by kernel_rfl) (fun _ _ _ h => h) (Or.inl ⟨by kernel_rfl, ?_⟩) (by assumption) ?_
      · intro ww hSw
        clear hSw
        go_simp
        all_goals (try omega)
        all_goals (try assumption)
        all_goals (try rfl)
      try simp only [Act.put, List.setIfInBounds_toArray, List.set_cons_zero, List.set_cons_succ, List.getElem_toArray, List.getElem_cons_succ, List.getElem_cons_zero]
      refine wpAnyH_take (i := 13) (v := .pointer (some ⟨gh, 4, none⟩)) rfl (by kernel_rfl) (by kernel_rfl) (by kernel_rfl) (fun _ _ _ h => h) (Or.inl ⟨by kernel_rfl, ?_⟩) (by assumption) ?_
      · intro ww hSw
        clear hSw
        go_simp
        all_goals (try omega)
        all_goals (try assumption)
        all_goals (try rfl)
      try simp only [Act.put, List.setIfInBounds_toArray, List.set_cons_zero, List.set_cons_succ, List.getElem_toArray, List.getElem_cons_succ, List.getElem_cons_zero]
      refine wpAnyH_take (i := 14) (v := .string c) rfl (by kernel_rfl) (by kernel_rfl) (by kernel_rfl) (fun _ _ _ h => h) (Or.inl ⟨by kernel_rfl, ?_⟩) (by assumption) ?_
      · intro ww hSw
        have hcc : ww.cell? ⟨gh, 4, none⟩ = some (.string c) := by rw [Lib.cell_of_heap hSw.1]; rfl
        clear hSw
        go_simp
        all_goals (try omega)
        all_goals (try assumption)
        all_goals (try rfl)
      try simp only [Act.put, List.setIfInBounds_toArray, List.set_cons_zero, List.set_cons_succ, List.getElem_toArray, List.getElem_cons_succ, List.getElem_cons_zero]
      refine wpAnyH_ready (rs := [9, 10]) (by kernel_rfl) (by simp) ?_
      refine AllReadyH.cons rfl (fun K hK => ?_) (AllReadyH.cons rfl (fun K hK => ?_) AllReadyH.nil)
      · go_simp
        have hbb : Below q0.heap.size q0 (q0.alloc (.cells #[.int .u64 101010256, .int .u64 0, .int .u64 0, .int .u64 (n : Nat), .int .u64 (n : Nat), .int .u64 (z : Nat), .int .u64 (o : Nat), .int .u64 (c.size : Nat)] 36)) := (Below.refl _ _).alloc (Nat.le_refl _) _
        have HRA : Hid (RdI (q0.alloc (.cells #[.int .u64 101010256, .int .u64 0, .int .u64 0, .int .u64 (n : Nat), .int .u64 (n : Nat), .int .u64 (z : Nat), .int .u64 (o : Nat), .int .u64 (c.size : Nat)] 36)) .u64 (some ⟨q0.heap.size, 0, none⟩) [101010256, 0, 0, n, n, z, o, c.size]) := RdI.of_heap (heap_alloc_new _ _) rfl
        have hS1 : (fun ww => ww.heap[gh]? = some (.cells #[.int .i64 at0, .int .u64 (n : Nat), .int .u64 (z : Nat), .int .u64 (o : Nat), .string c, .bool false] 64 (0, 0)) ∧ Below gh w ww) (q0.alloc (.cells #[.int .u64 101010256, .int .u64 0, .int .u64 0, .int .u64 (n : Nat), .int .u64 (n : Nat), .int .u64 (z : Nat), .int .u64 (o : Nat), .int .u64 (c.size : Nat)] 36)) := ⟨(hbb.block _ (lt_of_some hSA.1)).trans hSA.1, hSA.2.trans (hbb.mono (Nat.le_of_lt (lt_of_some hSA.1)))⟩
        refine hK.out _ _ hS1 (fun hTb => ?_)
        clear hK K
        try simp only [Act.put, List.setIfInBounds_toArray, List.set_cons_zero, List.set_cons_succ, List.getElem_toArray, List.getElem_cons_succ, List.getElem_cons_zero]
        generalize q0.alloc (.cells #[.int .u64 101010256, .int .u64 0, .int .u64 0, .int .u64 (n : Nat), .int .u64 (n : Nat), .int .u64 (z : Nat), .int .u64 (o : Nat), .int .u64 (c.size : Nat)] 36) = q1 at *
        refine wpAnyH_ready (rs := [10]) (by kernel_rfl) (by simp) ?_
        refine AllReadyH.cons rfl (fun K hK => ?_) AllReadyH.nil
        go_simp
        refine (rends_any _).mono ?_
        rintro e q2 ⟨rfl, hrb, hb2⟩
        have HRB := Lib.hid hrb
        replace HRA := Lib.hid (HRA.out.below hb2)
        have hS2 : (fun ww => ww.heap[gh]? = some (.cells #[.int .i64 at0, .int .u64 (n : Nat), .int .u64 (z : Nat), .int .u64 (o : Nat), .string c, .bool false] 64 (0, 0)) ∧ Below gh w ww) q2 := ⟨(hb2.block _ (lt_of_some hS1.1)).trans hS1.1, hS1.2.trans (hb2.mono (Nat.le_of_lt (lt_of_some hS1.1)))⟩
        refine hK.out _ _ hS2 (fun hT2 => ?_)
        clear hK K hrb
        try simp only [Act.put, List.setIfInBounds_toArray, List.set_cons_zero, List.set_cons_succ, List.getElem_toArray, List.getElem_cons_succ, List.getElem_cons_zero]
        refine wpAnyH_ready (rs := [11]) (by kernel_rfl) (by simp) ?_
        refine AllReadyH.cons rfl (fun K hK => ?_) AllReadyH.nil
        go_simp
        refine (HPR.out _ _ _ HRA.out HRB.out).mono ?_
        rintro e q5 ⟨rfl, hb5⟩
        have hS5 : (fun ww => ww.heap[gh]? = some (.cells #[.int .i64 at0, .int .u64 (n : Nat), .int .u64 (z : Nat), .int .u64 (o : Nat), .string c, .bool false] 64 (0, 0)) ∧ Below gh w ww) q5 := ⟨(hb5.block _ (lt_of_some hS2.1)).trans hS2.1, hS2.2.trans (hb5.mono (Nat.le_of_lt (lt_of_some hS2.1)))⟩
        refine hK.out _ _ hS5 (fun hT5 => ?_)
        clear hK K
        try simp only [Act.put, List.setIfInBounds_toArray, List.set_cons_zero, List.set_cons_succ, List.getElem_toArray, List.getElem_cons_succ, List.getElem_cons_zero]
        refine wpAnyH_take (i := 12) (v := ?_) rfl (by kernel_rfl) (by kernel_rfl) (by kernel_rfl) (fun _ _ _ h => h) (Or.inl ⟨by kernel_rfl, ?_⟩) (by assumption) ?_
        rotate_left
        · intro ww hSw
          clear hSw
          go_simp
          try with_reducible rfl
        try simp only [Act.put, List.setIfInBounds_toArray, List.set_cons_zero, List.set_cons_succ, List.getElem_toArray, List.getElem_cons_succ, List.getElem_cons_zero]
        refine wpAnyH_take (i := 15) (v := ?_) rfl (by kernel_rfl) (by kernel_rfl) (by kernel_rfl) (fun _ _ _ h => h) (Or.inl ⟨by kernel_rfl, ?_⟩) (by assumption) ?_
        rotate_left
        · intro ww hSw
          clear hSw
          go_simp
          try with_reducible rfl
        try simp only [Act.put, List.setIfInBounds_toArray, List.set_cons_zero, List.set_cons_succ, List.getElem_toArray, List.getElem_cons_succ, List.getElem_cons_zero]
        refine wpAnyH_take (i := 16) (v := ?_) rfl (by kernel_rfl) (by kernel_rfl) (by kernel_rfl) (fun _ _ _ h => h) (Or.inl ⟨by kernel_rfl, ?_⟩) (by assumption) ?_
        rotate_left
        · intro ww hSw
          clear hSw
          go_simp
          try with_reducible rfl
        try simp only [Act.put, List.setIfInBounds_toArray, List.set_cons_zero, List.set_cons_succ, List.getElem_toArray, List.getElem_cons_succ, List.getElem_cons_zero]
        refine wpAnyH_take (i := 17) (v := .int .i64 0) rfl (by kernel_rfl) (by kernel_rfl) (by kernel_rfl) (fun _ _ _ h => h) (Or.inl ⟨by kernel_rfl, ?_⟩) (by assumption) ?_
        · intro ww hSw
          clear hSw
          go_simp
          all_goals (try omega)
          all_goals (try assumption)
          all_goals (try rfl)
        try simp only [Act.put, List.setIfInBounds_toArray, List.set_cons_zero, List.set_cons_succ, List.getElem_toArray, List.getElem_cons_succ, List.getElem_cons_zero]
        have HFB := Lib.hid hS5.2
        refine wpAnyH_done (by kernel_rfl) ?_ _
        go_wp2_with fail
        go_ret2
        rw [HA.out]
        exact ⟨by first | rfl | (simp [ByteArray.append_assoc, ByteArray.empty_append]) | (rw [ByteArray.append_assoc]), by rw [HGH.out]; exact HFB.out⟩
      · go_simp
        refine (rends_any _).mono ?_
        rintro e q2 ⟨rfl, hrb, hb2⟩
        have HRB := Lib.hid hrb
        have hS2 : (fun ww => ww.heap[gh]? = some (.cells #[.int .i64 at0, .int .u64 (n : Nat), .int .u64 (z : Nat), .int .u64 (o : Nat), .string c, .bool false] 64 (0, 0)) ∧ Below gh w ww) q2 := ⟨(hb2.block _ (lt_of_some hSA.1)).trans hSA.1, hSA.2.trans (hb2.mono (Nat.le_of_lt (lt_of_some hSA.1)))⟩
        refine hK.out _ _ hS2 (fun hT2 => ?_)
        clear hK K hrb
        try simp only [Act.put, List.setIfInBounds_toArray, List.set_cons_zero, List.set_cons_succ, List.getElem_toArray, List.getElem_cons_succ, List.getElem_cons_zero]
        refine wpAnyH_ready (rs := [9]) (by kernel_rfl) (by simp) ?_
        refine AllReadyH.cons rfl (fun K hK => ?_) AllReadyH.nil
        go_simp
        have hbb : Below q2.heap.size q2 (q2.alloc (.cells #[.int .u64 101010256, .int .u64 0, .int .u64 0, .int .u64 (n : Nat), .int .u64 (n : Nat), .int .u64 (z : Nat), .int .u64 (o : Nat), .int .u64 (c.size : Nat)] 36)) := (Below.refl _ _).alloc (Nat.le_refl _) _
        have HRA : Hid (RdI (q2.alloc (.cells #[.int .u64 101010256, .int .u64 0, .int .u64 0, .int .u64 (n : Nat), .int .u64 (n : Nat), .int .u64 (z : Nat), .int .u64 (o : Nat), .int .u64 (c.size : Nat)] 36)) .u64 (some ⟨q2.heap.size, 0, none⟩) [101010256, 0, 0, n, n, z, o, c.size]) := RdI.of_heap (heap_alloc_new _ _) rfl
        have hS3 : (fun ww => ww.heap[gh]? = some (.cells #[.int .i64 at0, .int .u64 (n : Nat), .int .u64 (z : Nat), .int .u64 (o : Nat), .string c, .bool false] 64 (0, 0)) ∧ Below gh w ww) (q2.alloc (.cells #[.int .u64 101010256, .int .u64 0, .int .u64 0, .int .u64 (n : Nat), .int .u64 (n : Nat), .int .u64 (z : Nat), .int .u64 (o : Nat), .int .u64 (c.size : Nat)] 36)) := ⟨(hbb.block _ (lt_of_some hS2.1)).trans hS2.1, hS2.2.trans (hbb.mono (Nat.le_of_lt (lt_of_some hS2.1)))⟩
        refine hK.out _ _ hS3 (fun hTb => ?_)
        clear hK K
        try simp only [Act.put, List.setIfInBounds_toArray, List.set_cons_zero, List.set_cons_succ, List.getElem_toArray, List.getElem_cons_succ, List.getElem_cons_zero]
        replace HRB := Lib.hid (HRB.out.below hbb)
        generalize q2.alloc (.cells #[.int .u64 101010256, .int .u64 0, .int .u64 0, .int .u64 (n : Nat), .int .u64 (n : Nat), .int .u64 (z : Nat), .int .u64 (o : Nat), .int .u64 (c.size : Nat)] 36) = q3 at *
        refine wpAnyH_ready (rs := [11]) (by kernel_rfl) (by simp) ?_
        refine AllReadyH.cons rfl (fun K hK => ?_) AllReadyH.nil
        go_simp
        refine (HPR.out _ _ _ HRA.out HRB.out).mono ?_
        rintro e q5 ⟨rfl, hb5⟩
        have hS5 : (fun ww => ww.heap[gh]? = some (.cells #[.int .i64 at0, .int .u64 (n : Nat), .int .u64 (z : Nat), .int .u64 (o : Nat), .string c, .bool false] 64 (0, 0)) ∧ Below gh w ww) q5 := ⟨(hb5.block _ (lt_of_some hS3.1)).trans hS3.1, hS3.2.trans (hb5.mono (Nat.le_of_lt (lt_of_some hS3.1)))⟩
        refine hK.out _ _ hS5 (fun hT5 => ?_)
        clear hK K
        try simp only [Act.put, List.setIfInBounds_toArray, List.set_cons_zero, List.set_cons_succ, List.getElem_toArray, List.getElem_cons_succ, List.getElem_cons_zero]
        refine wpAnyH_take (i := 12) (v := ?_) rfl (by kernel_rfl) (by kernel_rfl) (by kernel_rfl) (fun _ _ _ h => h) (Or.inl ⟨by kernel_rfl, ?_⟩) (by assumption) ?_
        rotate_left
        · intro ww hSw
          clear hSw
          go_simp
          try with_reducible rfl
        try simp only [Act.put, List.setIfInBounds_toArray, List.set_cons_zero, List.set_cons_succ, List.getElem_toArray, List.getElem_cons_succ, List.getElem_cons_zero]
        refine wpAnyH_take (i := 15) (v := ?_) rfl (by kernel_rfl) (by kernel_rfl) (by kernel_rfl) (fun _ _ _ h => h) (Or.inl ⟨by kernel_rfl, ?_⟩) (by assumption) ?_
        rotate_left
        · intro ww hSw
          clear hSw
          go_simp
          try with_reducible rfl
        try simp only [Act.put, List.setIfInBounds_toArray, List.set_cons_zero, List.set_cons_succ, List.getElem_toArray, List.getElem_cons_succ, List.getElem_cons_zero]
        refine wpAnyH_take (i := 16) (v := ?_) rfl (by kernel_rfl) (by kernel_rfl) (by kernel_rfl) (fun _ _ _ h => h) (Or.inl ⟨by kernel_rfl, ?_⟩) (by assumption) ?_
        rotate_left
        · intro ww hSw
          clear hSw
          go_simp
          try with_reducible rfl
        try simp only [Act.put, List.setIfInBounds_toArray, List.set_cons_zero, List.set_cons_succ, List.getElem_toArray, List.getElem_cons_succ, List.getElem_cons_zero]
        refine wpAnyH_take (i := 17) (v := .int .i64 0) rfl (by kernel_rfl) (by kernel_rfl) (by kernel_rfl) (fun _ _ _ h => h) (Or.inl ⟨by kernel_rfl, ?_⟩) (by assumption) ?_
        · intro ww hSw
          clear hSw
          go_simp
          all_goals (try omega)
          all_goals (try assumption)
          all_goals (try rfl)
        try simp only [Act.put, List.setIfInBounds_toArray, List.set_cons_zero, List.set_cons_succ, List.getElem_toArray, List.getElem_cons_succ, List.getElem_cons_zero]
        have HFB := Lib.hid hS5.2
        refine wpAnyH_done (by kernel_rfl) ?_ _
        go_wp2_with fail
        go_ret2
        rw [HA.out]
        exact ⟨by first | rfl | (simp [ByteArray.append_assoc, ByteArray.empty_append]) | (rw [ByteArray.append_assoc]), by rw [HGH.out]; exact HFB.out⟩
end Go.Proofs.Ytklmfncljebgnaa
