/-
  The walk of HeaderBack.
-/
import Derived.Test.YtklmfncljebgnaaHdW
import Derived.Test.YtklmfncljebgnaaHdY
import Derived.Lib.MinMax
namespace Go.Proofs.Ytklmfncljebgnaa
set_option maxRecDepth 100000
set_option linter.unusedSimpArgs false
set_option linter.unusedVariables false
open Go.RowKit Go.Joins Go.Deep Go.Op
theorem max7 (P : Program) (ts : Array TypeId) (t : TypeId) (a b c d e f g : Nat) : ∃ M : Nat, (∀ w, (Builtin.max_ ts t #[.int .i64 (a : Nat), .int .i64 (b : Nat), .int .i64 (c : Nat), .int .i64 (d : Nat), .int .i64 (e : Nat), .int .i64 (f : Nat), .int .i64 (g : Nat)]).run P w = .ok (.int .i64 (M : Nat)) w) ∧ a ≤ M ∧ b ≤ M ∧ c ≤ M ∧ d ≤ M ∧ e ≤ M ∧ f ≤ M ∧ g ≤ M := by
  refine ⟨max (max (max (max (max (max a b) c) d) e) f) g, fun w => ?_, by omega, by omega, by omega, by omega, by omega, by omega, by omega⟩
  have e2 : ∀ x y : Nat, max (x : Int) (y : Int) = ((max x y : Nat) : Int) := fun x y => by omega
  simp only [Builtin.max_, List.foldlM]
  simp [max2_run, e2, Sem.run_bind]
theorem ext_zero_size (s : ByteArray) (n : Nat) (h : n ≤ s.size) : (s.extract 0 n).size = n := by rw [ByteArray.size_extract]; omega
theorem eqvL (a0 a1 a2 a3 a4 a5 a6 : Nat) (as7 as8 : ByteArray) (w : World) : (Op.equalIn 9999 26 (.agg #[.int .u16 (a0 : Nat), .int .u16 (a1 : Nat), .int .u16 (a2 : Nat), .int .u32 (a3 : Nat), .int .u32 (a4 : Nat), .int .u32 (a5 : Nat), .int .u32 (a6 : Nat), .string as7, .string as8]) (.agg #[.int .u16 (a0 : Nat), .int .u16 (a1 : Nat), .int .u16 (a2 : Nat), .int .u32 (a3 : Nat), .int .u32 (a4 : Nat), .int .u32 (a5 : Nat), .int .u32 (a6 : Nat), .string as7, .string as8])).run Try.prog w = .ok true w := by
  rw [run_equalIn_struct w 9998 26 _ _ (by kernel_rfl) (by kernel_rfl)]
  simp [go_sem, Program.fieldsOf, Try.underlying26]
theorem eqvC (b0 b1 b2 b3 b4 b5 b6 b7 b8 b9 b10 b11 : Nat) (bs12 bs13 bs14 : ByteArray) (w : World) : (Op.equalIn 9999 40 (.agg #[.int .u16 (b0 : Nat), .int .u16 (b1 : Nat), .int .u16 (b2 : Nat), .int .u16 (b3 : Nat), .int .u32 (b4 : Nat), .int .u32 (b5 : Nat), .int .u32 (b6 : Nat), .int .u32 (b7 : Nat), .int .u16 (b8 : Nat), .int .u16 (b9 : Nat), .int .u32 (b10 : Nat), .int .u32 (b11 : Nat), .string bs12, .string bs13, .string bs14]) (.agg #[.int .u16 (b0 : Nat), .int .u16 (b1 : Nat), .int .u16 (b2 : Nat), .int .u16 (b3 : Nat), .int .u32 (b4 : Nat), .int .u32 (b5 : Nat), .int .u32 (b6 : Nat), .int .u32 (b7 : Nat), .int .u16 (b8 : Nat), .int .u16 (b9 : Nat), .int .u32 (b10 : Nat), .int .u32 (b11 : Nat), .string bs12, .string bs13, .string bs14])).run Try.prog w = .ok true w := by
  rw [run_equalIn_struct w 9998 40 _ _ (by kernel_rfl) (by kernel_rfl)]
  simp [go_sem, Program.fieldsOf, Try.underlying40]
theorem eqvD (d0 d1 d2 : Nat) (w : World) : (Op.equalIn 9999 45 (.agg #[.int .u32 (d0 : Nat), .int .u64 (d1 : Nat), .int .u64 (d2 : Nat)]) (.agg #[.int .u32 (d0 : Nat), .int .u64 (d1 : Nat), .int .u64 (d2 : Nat)])).run Try.prog w = .ok true w := by
  rw [run_equalIn_struct w 9998 45 _ _ (by kernel_rfl) (by kernel_rfl)]
  simp [go_sem, Program.fieldsOf, Try.underlying45]
theorem cutP (a0 a1 a2 a3 a4 a5 a6 : Nat) (la0 : a0 < 65536) (la1 : a1 < 65536) (la2 : a2 < 65536) (la3 : a3 < 4294967296) (la4 : a4 < 4294967296) (la5 : a5 < 4294967296) (la6 : a6 < 4294967296) (as7 as8 : ByteArray) (zas7 : as7.size ≤ 65535) (zas8 : as8.size ≤ 65535) (c : Nat) (hc : c < (txL a0 a1 a2 a3 a4 a5 a6 as7 as8).size) (w : World) :
    Calls Try.prog 11 #[.string ((txL a0 a1 a2 a3 a4 a5 a6 as7 as8).extract 0 c)] w fun e w' => e = .returned (.tuple #[.agg #[.int .u16 0, .int .u16 0, .int .u16 0, .int .u32 0, .int .u32 0, .int .u32 0, .int .u32 0, .string ⟨#[]⟩, .string ⟨#[]⟩], .int .i64 0, .int .i64 3]) ∧ Below w.heap.size w w' := by
  have hz : (txL a0 a1 a2 a3 a4 a5 a6 as7 as8).size = 30 + as7.size + as8.size := by
    rw [tx_L]
    simp only [ByteArray.size_append, text_size]
    rw [prN_len (rowLocal a0 a1 a2 a3 a4 a5 a6 as7 as8) wsLocals rfl]
    rfl
  have h := parseL_any ((txL a0 a1 a2 a3 a4 a5 a6 as7 as8).extract 0 c) (by rw [ByteArray.size_extract]; omega) w
  rw [cutL a0 a1 a2 a3 a4 a5 a6 la0 la1 la2 la3 la4 la5 la6 as7 as8 zas7 zas8 _ rfl c hc] at h
  exact h
set_option maxHeartbeats 40000000 in
theorem headerBack_walk (ia0 : Int) (ia1 : Int) (ia2 : Int) (ia3 : Int) (ia4 : Int) (ia5 : Int) (ia6 : Int) (as7 : ByteArray) (as8 : ByteArray) (ib0 : Int) (ib1 : Int) (ib2 : Int) (ib3 : Int) (ib4 : Int) (ib5 : Int) (ib6 : Int) (ib7 : Int) (ib8 : Int) (ib9 : Int) (ib10 : Int) (ib11 : Int) (bs12 : ByteArray) (bs13 : ByteArray) (bs14 : ByteArray) (id0 : Int) (id1 : Int) (id2 : Int) (t s : ByteArray) (cut : Int) (fa0 : (Lit.int .u16 ia0).wf = true) (fa1 : (Lit.int .u16 ia1).wf = true) (fa2 : (Lit.int .u16 ia2).wf = true) (fa3 : (Lit.int .u32 ia3).wf = true) (fa4 : (Lit.int .u32 ia4).wf = true) (fa5 : (Lit.int .u32 ia5).wf = true) (fa6 : (Lit.int .u32 ia6).wf = true) (fas7 : as7.size ≤ maxLen) (fas8 : as8.size ≤ maxLen) (fb0 : (Lit.int .u16 ib0).wf = true) (fb1 : (Lit.int .u16 ib1).wf = true) (fb2 : (Lit.int .u16 ib2).wf = true) (fb3 : (Lit.int .u16 ib3).wf = true) (fb4 : (Lit.int .u32 ib4).wf = true) (fb5 : (Lit.int .u32 ib5).wf = true) (fb6 : (Lit.int .u32 ib6).wf = true) (fb7 : (Lit.int .u32 ib7).wf = true) (fb8 : (Lit.int .u16 ib8).wf = true) (fb9 : (Lit.int .u16 ib9).wf = true) (fb10 : (Lit.int .u32 ib10).wf = true) (fb11 : (Lit.int .u32 ib11).wf = true) (fbs12 : bs12.size ≤ maxLen) (fbs13 : bs13.size ≤ maxLen) (fbs14 : bs14.size ≤ maxLen) (fd0 : (Lit.int .u32 id0).wf = true) (fd1 : (Lit.int .u64 id1).wf = true) (fd2 : (Lit.int .u64 id2).wf = true) (ft : t.size ≤ maxLen) (fs : s.size ≤ maxLen) (fcut : (Lit.int .i64 cut).wf = true) (w : World) :
    Calls Try.prog 5 #[.agg #[.int .u16 ia0, .int .u16 ia1, .int .u16 ia2, .int .u32 ia3, .int .u32 ia4, .int .u32 ia5, .int .u32 ia6, .string as7, .string as8], .agg #[.int .u16 ib0, .int .u16 ib1, .int .u16 ib2, .int .u16 ib3, .int .u32 ib4, .int .u32 ib5, .int .u32 ib6, .int .u32 ib7, .int .u16 ib8, .int .u16 ib9, .int .u32 ib10, .int .u32 ib11, .string bs12, .string bs13, .string bs14], .agg #[.int .u32 id0, .int .u64 id1, .int .u64 id2], .string t, .string s, .int .i64 cut] w fun e w' => e = .returned (.bool true) ∧ Below w.heap.size w w' := by
  obtain ⟨a0, rfl, la0⟩ := nat_u16 fa0
  obtain ⟨a1, rfl, la1⟩ := nat_u16 fa1
  obtain ⟨a2, rfl, la2⟩ := nat_u16 fa2
  obtain ⟨a3, rfl, la3⟩ := nat_u32 fa3
  obtain ⟨a4, rfl, la4⟩ := nat_u32 fa4
  obtain ⟨a5, rfl, la5⟩ := nat_u32 fa5
  obtain ⟨a6, rfl, la6⟩ := nat_u32 fa6
  obtain ⟨b0, rfl, lb0⟩ := nat_u16 fb0
  obtain ⟨b1, rfl, lb1⟩ := nat_u16 fb1
  obtain ⟨b2, rfl, lb2⟩ := nat_u16 fb2
  obtain ⟨b3, rfl, lb3⟩ := nat_u16 fb3
  obtain ⟨b4, rfl, lb4⟩ := nat_u32 fb4
  obtain ⟨b5, rfl, lb5⟩ := nat_u32 fb5
  obtain ⟨b6, rfl, lb6⟩ := nat_u32 fb6
  obtain ⟨b7, rfl, lb7⟩ := nat_u32 fb7
  obtain ⟨b8, rfl, lb8⟩ := nat_u16 fb8
  obtain ⟨b9, rfl, lb9⟩ := nat_u16 fb9
  obtain ⟨b10, rfl, lb10⟩ := nat_u32 fb10
  obtain ⟨b11, rfl, lb11⟩ := nat_u32 fb11
  obtain ⟨d0, rfl, ld0⟩ := nat_u32 fd0
  obtain ⟨d1, rfl, ld1⟩ := nat_u64 fd1
  obtain ⟨d2, rfl, ld2⟩ := nat_u64 fd2
  have hcb := bounds_i64 fcut
  unfold maxLen at *
  obtain ⟨M, hmx, hM7, hM8, hM12, hM13, hM14, hMt, hMs⟩ := max7 Try.prog #[3, 3, 3, 3, 3, 3, 3] 3 as7.size as8.size bs12.size bs13.size bs14.size t.size s.size
  have hA0 : (((w.alloc (.cells #[.int .u16 (a0 : Nat), .int .u16 (a1 : Nat), .int .u16 (a2 : Nat), .int .u32 (a3 : Nat), .int .u32 (a4 : Nat), .int .u32 (a5 : Nat), .int .u32 (a6 : Nat), .string as7, .string as8] 26)).alloc (.cells #[.int .u16 (b0 : Nat), .int .u16 (b1 : Nat), .int .u16 (b2 : Nat), .int .u16 (b3 : Nat), .int .u32 (b4 : Nat), .int .u32 (b5 : Nat), .int .u32 (b6 : Nat), .int .u32 (b7 : Nat), .int .u16 (b8 : Nat), .int .u16 (b9 : Nat), .int .u32 (b10 : Nat), .int .u32 (b11 : Nat), .string bs12, .string bs13, .string bs14] 40)).alloc (.cells #[.int .u32 (d0 : Nat), .int .u64 (d1 : Nat), .int .u64 (d2 : Nat)] 45)).heap[w.heap.size]? = some (.cells #[.int .u16 (a0 : Nat), .int .u16 (a1 : Nat), .int .u16 (a2 : Nat), .int .u32 (a3 : Nat), .int .u32 (a4 : Nat), .int .u32 (a5 : Nat), .int .u32 (a6 : Nat), .string as7, .string as8] 26 (0, 0)) := (Below.heap_alloc _ _ _ (by simp; omega)).trans ((Below.heap_alloc _ _ _ (by simp)).trans (heap_alloc_new _ _))
  have hB0 : (((w.alloc (.cells #[.int .u16 (a0 : Nat), .int .u16 (a1 : Nat), .int .u16 (a2 : Nat), .int .u32 (a3 : Nat), .int .u32 (a4 : Nat), .int .u32 (a5 : Nat), .int .u32 (a6 : Nat), .string as7, .string as8] 26)).alloc (.cells #[.int .u16 (b0 : Nat), .int .u16 (b1 : Nat), .int .u16 (b2 : Nat), .int .u16 (b3 : Nat), .int .u32 (b4 : Nat), .int .u32 (b5 : Nat), .int .u32 (b6 : Nat), .int .u32 (b7 : Nat), .int .u16 (b8 : Nat), .int .u16 (b9 : Nat), .int .u32 (b10 : Nat), .int .u32 (b11 : Nat), .string bs12, .string bs13, .string bs14] 40)).alloc (.cells #[.int .u32 (d0 : Nat), .int .u64 (d1 : Nat), .int .u64 (d2 : Nat)] 45)).heap[w.heap.size + 1]? = some (.cells #[.int .u16 (b0 : Nat), .int .u16 (b1 : Nat), .int .u16 (b2 : Nat), .int .u16 (b3 : Nat), .int .u32 (b4 : Nat), .int .u32 (b5 : Nat), .int .u32 (b6 : Nat), .int .u32 (b7 : Nat), .int .u16 (b8 : Nat), .int .u16 (b9 : Nat), .int .u32 (b10 : Nat), .int .u32 (b11 : Nat), .string bs12, .string bs13, .string bs14] 40 (0, 0)) := (Below.heap_alloc _ _ _ (by simp)).trans (heap_alloc_at (alloc_size _ _).symm)
  have hD0 : (((w.alloc (.cells #[.int .u16 (a0 : Nat), .int .u16 (a1 : Nat), .int .u16 (a2 : Nat), .int .u32 (a3 : Nat), .int .u32 (a4 : Nat), .int .u32 (a5 : Nat), .int .u32 (a6 : Nat), .string as7, .string as8] 26)).alloc (.cells #[.int .u16 (b0 : Nat), .int .u16 (b1 : Nat), .int .u16 (b2 : Nat), .int .u16 (b3 : Nat), .int .u32 (b4 : Nat), .int .u32 (b5 : Nat), .int .u32 (b6 : Nat), .int .u32 (b7 : Nat), .int .u16 (b8 : Nat), .int .u16 (b9 : Nat), .int .u32 (b10 : Nat), .int .u32 (b11 : Nat), .string bs12, .string bs13, .string bs14] 40)).alloc (.cells #[.int .u32 (d0 : Nat), .int .u64 (d1 : Nat), .int .u64 (d2 : Nat)] 45)).heap[w.heap.size + 2]? = some (.cells #[.int .u32 (d0 : Nat), .int .u64 (d1 : Nat), .int .u64 (d2 : Nat)] 45 (0, 0)) := heap_alloc_at (by simp)
  have HA := Lib.hid hA0
  have HBB := Lib.hid hB0
  have HD := Lib.hid hD0
  have HB : Hid (Below w.heap.size w (((w.alloc (.cells #[.int .u16 (a0 : Nat), .int .u16 (a1 : Nat), .int .u16 (a2 : Nat), .int .u32 (a3 : Nat), .int .u32 (a4 : Nat), .int .u32 (a5 : Nat), .int .u32 (a6 : Nat), .string as7, .string as8] 26)).alloc (.cells #[.int .u16 (b0 : Nat), .int .u16 (b1 : Nat), .int .u16 (b2 : Nat), .int .u16 (b3 : Nat), .int .u32 (b4 : Nat), .int .u32 (b5 : Nat), .int .u32 (b6 : Nat), .int .u32 (b7 : Nat), .int .u16 (b8 : Nat), .int .u16 (b9 : Nat), .int .u32 (b10 : Nat), .int .u32 (b11 : Nat), .string bs12, .string bs13, .string bs14] 40)).alloc (.cells #[.int .u32 (d0 : Nat), .int .u64 (d1 : Nat), .int .u64 (d2 : Nat)] 45))) := (((Below.refl _ _).alloc (Nat.le_refl _) _).alloc (by simp) _).alloc (by simp; omega) _
  have HMX := Lib.hid hmx
  clear hA0 hB0 hD0 hmx fcut
  go_enter Try.func5, Try.ntmps5
  go_wp2_with fail
  generalize ((w.alloc (.cells #[.int .u16 (a0 : Nat), .int .u16 (a1 : Nat), .int .u16 (a2 : Nat), .int .u32 (a3 : Nat), .int .u32 (a4 : Nat), .int .u32 (a5 : Nat), .int .u32 (a6 : Nat), .string as7, .string as8] 26)).alloc (.cells #[.int .u16 (b0 : Nat), .int .u16 (b1 : Nat), .int .u16 (b2 : Nat), .int .u16 (b3 : Nat), .int .u32 (b4 : Nat), .int .u32 (b5 : Nat), .int .u32 (b6 : Nat), .int .u32 (b7 : Nat), .int .u16 (b8 : Nat), .int .u16 (b9 : Nat), .int .u32 (b10 : Nat), .int .u32 (b11 : Nat), .string bs12, .string bs13, .string bs14] 40)).alloc (.cells #[.int .u32 (d0 : Nat), .int .u64 (d1 : Nat), .int .u64 (d2 : Nat)] 45) = w0 at *
  rw [show w.heap.size + 1 + 1 = w.heap.size + 2 from rfl]
  generalize w.heap.size + 1 = gB at *
  generalize w.heap.size + 2 = gD at *
  refine (awake17_any _).mono ?_; rintro r wa ⟨rfl, hb⟩
  replace HB := Lib.hid (below_then HB.out hb)
  replace HA := Lib.hid ((hb.block _ (lt_of_some HA.out)).trans HA.out)
  replace HBB := Lib.hid ((hb.block _ (lt_of_some HBB.out)).trans HBB.out)
  replace HD := Lib.hid ((hb.block _ (lt_of_some HD.out)).trans HD.out)
  clear hb
  have hmx := HMX.out
  have c7 : wa.cell? ⟨w.heap.size, 7, none⟩ = some (.string as7) := by rw [Lib.cell_of_heap HA.out]; rfl
  have c8 : wa.cell? ⟨w.heap.size, 8, none⟩ = some (.string as8) := by rw [Lib.cell_of_heap HA.out]; rfl
  have d12 : wa.cell? ⟨gB, 12, none⟩ = some (.string bs12) := by rw [Lib.cell_of_heap HBB.out]; rfl
  have d13 : wa.cell? ⟨gB, 13, none⟩ = some (.string bs13) := by rw [Lib.cell_of_heap HBB.out]; rfl
  have d14 : wa.cell? ⟨gB, 14, none⟩ = some (.string bs14) := by rw [Lib.cell_of_heap HBB.out]; rfl
  by_cases hbig : 3000 < M
  · have hdd : decide ((3000 : Int) < (M : Int)) = true := decide_eq_true (by omega)
    go_wp2_with fail
    go_ret
    exact ⟨rfl, HB.out⟩
  have hdd : decide ((3000 : Int) < (M : Int)) = false := decide_eq_false (by omega)
  have hM3 : M ≤ 3000 := by omega
  have hfA : prL a0 a1 a2 a3 a4 a5 a6 as7 as8 = .tuple #[.string (txL a0 a1 a2 a3 a4 a5 a6 as7 as8), .int .i64 0] := if_pos (fits_yes (by intro x hx; simp at hx; rcases hx with rfl | rfl <;> omega))
  have hfB : prC b0 b1 b2 b3 b4 b5 b6 b7 b8 b9 b10 b11 bs12 bs13 bs14 = .tuple #[.string (txC b0 b1 b2 b3 b4 b5 b6 b7 b8 b9 b10 b11 bs12 bs13 bs14), .int .i64 0] := if_pos (fits_yes (by intro x hx; simp at hx; rcases hx with rfl | rfl | rfl <;> omega))
  have HPL := Lib.hid (fun w => printL_any a0 a1 a2 a3 a4 a5 a6 la0 la1 la2 la3 la4 la5 la6 as7 as8 (by omega) (by omega) w)
  have HPC := Lib.hid (fun w => printC_any b0 b1 b2 b3 b4 b5 b6 b7 b8 b9 b10 b11 lb0 lb1 lb2 lb3 lb4 lb5 lb6 lb7 lb8 lb9 lb10 lb11 bs12 bs13 bs14 (by omega) (by omega) (by omega) w)
  have HPD := Lib.hid (fun w => printD_any d0 d1 d2 ld0 ld1 ld2 true w)
  rw [hfA] at HPL
  rw [hfB] at HPC
  have hzX : (txL a0 a1 a2 a3 a4 a5 a6 as7 as8).size = 30 + as7.size + as8.size := by
    rw [tx_L]
    simp only [ByteArray.size_append, text_size]
    rw [prN_len (rowLocal a0 a1 a2 a3 a4 a5 a6 as7 as8) wsLocals rfl]
    rfl
  have hzY : (txC b0 b1 b2 b3 b4 b5 b6 b7 b8 b9 b10 b11 bs12 bs13 bs14).size = 46 + bs12.size + bs13.size + bs14.size := by
    rw [tx_C]
    simp only [ByteArray.size_append, text_size]
    rw [prN_len (rowCentral b0 b1 b2 b3 b4 b5 b6 b7 b8 b9 b10 b11 bs12 bs13 bs14) wsCentrals rfl]
    rfl
  have hzZ : (txD d0 d1 d2 true).size = 24 := by
    rw [tx_D, text_size, prN_len (rowDescriptor d0 d1 d2) (wsD true) rfl]
    rfl
  have HKL := Lib.hid (fun w => parseL_any (txL a0 a1 a2 a3 a4 a5 a6 as7 as8 ++ t) (by rw [ByteArray.size_append]; omega) w)
  rw [backL a0 a1 a2 a3 a4 a5 a6 la0 la1 la2 la3 la4 la5 la6 as7 as8 t (by omega) (by omega)] at HKL
  have HKC := Lib.hid (fun w => parseC_any (txC b0 b1 b2 b3 b4 b5 b6 b7 b8 b9 b10 b11 bs12 bs13 bs14 ++ t) (by rw [ByteArray.size_append]; omega) w)
  rw [backC b0 b1 b2 b3 b4 b5 b6 b7 b8 b9 b10 b11 lb0 lb1 lb2 lb3 lb4 lb5 lb6 lb7 lb8 lb9 lb10 lb11 bs12 bs13 bs14 t (by omega) (by omega) (by omega)] at HKC
  have HKD := Lib.hid (fun w => parseD_any (txD d0 d1 d2 true ++ t) true (by rw [ByteArray.size_append]; omega) w)
  rw [gotD d0 d1 d2 ld0 ld1 ld2 t] at HKD
  have HCT := Lib.hid (fun c hc w => cutP a0 a1 a2 a3 a4 a5 a6 la0 la1 la2 la3 la4 la5 la6 as7 as8 (by omega) (by omega) c hc w)
  have HEL := Lib.hid (eqvL a0 a1 a2 a3 a4 a5 a6 as7 as8)
  have HEC := Lib.hid (eqvC b0 b1 b2 b3 b4 b5 b6 b7 b8 b9 b10 b11 bs12 bs13 bs14)
  have HED := Lib.hid (eqvD d0 d1 d2)
  generalize txL a0 a1 a2 a3 a4 a5 a6 as7 as8 = X at *
  generalize txC b0 b1 b2 b3 b4 b5 b6 b7 b8 b9 b10 b11 bs12 bs13 bs14 = Y at *
  generalize txD d0 d1 d2 true = Z at *
  have hX0 : 0 < X.size := by omega
  have hcu : ∃ C : Nat, IntKind.u64.wrap cut = (C : Int) ∧ C < 18446744073709551616 := ⟨(cut % 18446744073709551616).toNat, by rw [IntKind.wrap_u64]; omega, by omega⟩
  obtain ⟨C, hC, hClt⟩ := hcu
  have hwX : IntKind.u64.wrap (X.size : Int) = X.size := by rw [IntKind.wrap_u64]; omega
  have hcm : C % X.size < X.size := Nat.mod_lt _ hX0
  have HCM : Hid (∃ c, c = C % X.size) := ⟨_, rfl⟩
  obtain ⟨c, hc⟩ := HCM.out
  have hcI : ((C : Int) % (X.size : Int)) = (c : Int) := by rw [hc]; omega
  have hclt : c < X.size := by omega
  have hXs : X.size ≤ 100000 := by omega
  have hci : IntKind.i64.wrap (c : Int) = c := by rw [IntKind.wrap_i64]; omega
  have HCC := Lib.hid (HCT.out c hclt)
  have HhC := Lib.hid hC
  have HcI := Lib.hid hcI
  have HwX := Lib.hid hwX
  have Hci := Lib.hid hci
  clear hc HCM HCT hfA hfB hC hcI hwX hcm hci
  go_wp2_with (refine wpList_load_row rfl 26 (.tmp 6) rfl w.heap.size rfl 26 _ (0, 0) _ HA.out Try.underlying26 rfl info_L ?_)
  clear hmx HMX c7 c8 d12 d13 d14 hdd hbig
  refine (HPL.out _).mono ?_; rintro r w1 ⟨rfl, hb⟩
  replace HA := Lib.hid ((hb.block _ (lt_of_some HA.out)).trans HA.out)
  replace HBB := Lib.hid ((hb.block _ (lt_of_some HBB.out)).trans HBB.out)
  replace HD := Lib.hid ((hb.block _ (lt_of_some HD.out)).trans HD.out)
  replace HB := Lib.hid (HB.out.trans (hb.mono HB.out.size))
  clear hb
  clear HPL
  go_wp2_with (refine wpList_load_row rfl 40 (.tmp 7) rfl gB rfl 40 _ (0, 0) _ HBB.out Try.underlying40 rfl info_C ?_)
  refine (HPC.out _).mono ?_; rintro r w2 ⟨rfl, hb⟩
  replace HA := Lib.hid ((hb.block _ (lt_of_some HA.out)).trans HA.out)
  replace HBB := Lib.hid ((hb.block _ (lt_of_some HBB.out)).trans HBB.out)
  replace HD := Lib.hid ((hb.block _ (lt_of_some HD.out)).trans HD.out)
  replace HB := Lib.hid (HB.out.trans (hb.mono HB.out.size))
  clear hb
  clear HPC
  go_wp2_with (refine wpList_load_row rfl 45 (.tmp 8) rfl gD rfl 45 _ (0, 0) _ HD.out Try.underlying45 rfl info_D ?_)
  refine (HPD.out _).mono ?_; rintro r w3 ⟨rfl, hb⟩
  replace HA := Lib.hid ((hb.block _ (lt_of_some HA.out)).trans HA.out)
  replace HBB := Lib.hid ((hb.block _ (lt_of_some HBB.out)).trans HBB.out)
  replace HD := Lib.hid ((hb.block _ (lt_of_some HD.out)).trans HD.out)
  replace HB := Lib.hid (HB.out.trans (hb.mono HB.out.size))
  clear hb
  clear HPD
  go_wp2_with fail
  refine (HKL.out _).mono ?_; rintro r w4 ⟨rfl, hb⟩
  replace HA := Lib.hid ((hb.block _ (lt_of_some HA.out)).trans HA.out)
  replace HBB := Lib.hid ((hb.block _ (lt_of_some HBB.out)).trans HBB.out)
  replace HD := Lib.hid ((hb.block _ (lt_of_some HD.out)).trans HD.out)
  replace HB := Lib.hid (HB.out.trans (hb.mono HB.out.size))
  clear hb
  clear HKL
  have hsz_HK := HB.out.size
  replace HA := Lib.hid ((Below.heap_alloc w4 (.cells #[.int .u16 (a0 : Nat), .int .u16 (a1 : Nat), .int .u16 (a2 : Nat), .int .u32 (a3 : Nat), .int .u32 (a4 : Nat), .int .u32 (a5 : Nat), .int .u32 (a6 : Nat), .string as7, .string as8] 26) _ (lt_of_some HA.out)).trans HA.out)
  replace HBB := Lib.hid ((Below.heap_alloc w4 (.cells #[.int .u16 (a0 : Nat), .int .u16 (a1 : Nat), .int .u16 (a2 : Nat), .int .u32 (a3 : Nat), .int .u32 (a4 : Nat), .int .u32 (a5 : Nat), .int .u32 (a6 : Nat), .string as7, .string as8] 26) _ (lt_of_some HBB.out)).trans HBB.out)
  replace HD := Lib.hid ((Below.heap_alloc w4 (.cells #[.int .u16 (a0 : Nat), .int .u16 (a1 : Nat), .int .u16 (a2 : Nat), .int .u32 (a3 : Nat), .int .u32 (a4 : Nat), .int .u32 (a5 : Nat), .int .u32 (a6 : Nat), .string as7, .string as8] 26) _ (lt_of_some HD.out)).trans HD.out)
  replace HB := Lib.hid (HB.out.alloc HB.out.size (.cells #[.int .u16 (a0 : Nat), .int .u16 (a1 : Nat), .int .u16 (a2 : Nat), .int .u32 (a3 : Nat), .int .u32 (a4 : Nat), .int .u32 (a5 : Nat), .int .u32 (a6 : Nat), .string as7, .string as8] 26))
  have HK : Hid ((w4.alloc (.cells #[.int .u16 (a0 : Nat), .int .u16 (a1 : Nat), .int .u16 (a2 : Nat), .int .u32 (a3 : Nat), .int .u32 (a4 : Nat), .int .u32 (a5 : Nat), .int .u32 (a6 : Nat), .string as7, .string as8] 26)).heap[w4.heap.size]? = some (.cells #[.int .u16 (a0 : Nat), .int .u16 (a1 : Nat), .int .u16 (a2 : Nat), .int .u32 (a3 : Nat), .int .u32 (a4 : Nat), .int .u32 (a5 : Nat), .int .u32 (a6 : Nat), .string as7, .string as8] 26)) := heap_alloc_new _ _
  clear hsz_HK
  go_wp2_with fail
  generalize w4.alloc (.cells #[.int .u16 (a0 : Nat), .int .u16 (a1 : Nat), .int .u16 (a2 : Nat), .int .u32 (a3 : Nat), .int .u32 (a4 : Nat), .int .u32 (a5 : Nat), .int .u32 (a6 : Nat), .string as7, .string as8] 26) = w5 at *
  generalize w4.heap.size = gK at *
  refine (HKC.out _).mono ?_; rintro r w6 ⟨rfl, hb⟩
  replace HA := Lib.hid ((hb.block _ (lt_of_some HA.out)).trans HA.out)
  replace HBB := Lib.hid ((hb.block _ (lt_of_some HBB.out)).trans HBB.out)
  replace HD := Lib.hid ((hb.block _ (lt_of_some HD.out)).trans HD.out)
  replace HK := Lib.hid ((hb.block _ (lt_of_some HK.out)).trans HK.out)
  replace HB := Lib.hid (HB.out.trans (hb.mono HB.out.size))
  clear hb
  clear HKC
  have hsz_HLL := HB.out.size
  replace HA := Lib.hid ((Below.heap_alloc w6 (.cells #[.int .u16 (b0 : Nat), .int .u16 (b1 : Nat), .int .u16 (b2 : Nat), .int .u16 (b3 : Nat), .int .u32 (b4 : Nat), .int .u32 (b5 : Nat), .int .u32 (b6 : Nat), .int .u32 (b7 : Nat), .int .u16 (b8 : Nat), .int .u16 (b9 : Nat), .int .u32 (b10 : Nat), .int .u32 (b11 : Nat), .string bs12, .string bs13, .string bs14] 40) _ (lt_of_some HA.out)).trans HA.out)
  replace HBB := Lib.hid ((Below.heap_alloc w6 (.cells #[.int .u16 (b0 : Nat), .int .u16 (b1 : Nat), .int .u16 (b2 : Nat), .int .u16 (b3 : Nat), .int .u32 (b4 : Nat), .int .u32 (b5 : Nat), .int .u32 (b6 : Nat), .int .u32 (b7 : Nat), .int .u16 (b8 : Nat), .int .u16 (b9 : Nat), .int .u32 (b10 : Nat), .int .u32 (b11 : Nat), .string bs12, .string bs13, .string bs14] 40) _ (lt_of_some HBB.out)).trans HBB.out)
  replace HD := Lib.hid ((Below.heap_alloc w6 (.cells #[.int .u16 (b0 : Nat), .int .u16 (b1 : Nat), .int .u16 (b2 : Nat), .int .u16 (b3 : Nat), .int .u32 (b4 : Nat), .int .u32 (b5 : Nat), .int .u32 (b6 : Nat), .int .u32 (b7 : Nat), .int .u16 (b8 : Nat), .int .u16 (b9 : Nat), .int .u32 (b10 : Nat), .int .u32 (b11 : Nat), .string bs12, .string bs13, .string bs14] 40) _ (lt_of_some HD.out)).trans HD.out)
  replace HK := Lib.hid ((Below.heap_alloc w6 (.cells #[.int .u16 (b0 : Nat), .int .u16 (b1 : Nat), .int .u16 (b2 : Nat), .int .u16 (b3 : Nat), .int .u32 (b4 : Nat), .int .u32 (b5 : Nat), .int .u32 (b6 : Nat), .int .u32 (b7 : Nat), .int .u16 (b8 : Nat), .int .u16 (b9 : Nat), .int .u32 (b10 : Nat), .int .u32 (b11 : Nat), .string bs12, .string bs13, .string bs14] 40) _ (lt_of_some HK.out)).trans HK.out)
  replace HB := Lib.hid (HB.out.alloc HB.out.size (.cells #[.int .u16 (b0 : Nat), .int .u16 (b1 : Nat), .int .u16 (b2 : Nat), .int .u16 (b3 : Nat), .int .u32 (b4 : Nat), .int .u32 (b5 : Nat), .int .u32 (b6 : Nat), .int .u32 (b7 : Nat), .int .u16 (b8 : Nat), .int .u16 (b9 : Nat), .int .u32 (b10 : Nat), .int .u32 (b11 : Nat), .string bs12, .string bs13, .string bs14] 40))
  have HLL : Hid ((w6.alloc (.cells #[.int .u16 (b0 : Nat), .int .u16 (b1 : Nat), .int .u16 (b2 : Nat), .int .u16 (b3 : Nat), .int .u32 (b4 : Nat), .int .u32 (b5 : Nat), .int .u32 (b6 : Nat), .int .u32 (b7 : Nat), .int .u16 (b8 : Nat), .int .u16 (b9 : Nat), .int .u32 (b10 : Nat), .int .u32 (b11 : Nat), .string bs12, .string bs13, .string bs14] 40)).heap[w6.heap.size]? = some (.cells #[.int .u16 (b0 : Nat), .int .u16 (b1 : Nat), .int .u16 (b2 : Nat), .int .u16 (b3 : Nat), .int .u32 (b4 : Nat), .int .u32 (b5 : Nat), .int .u32 (b6 : Nat), .int .u32 (b7 : Nat), .int .u16 (b8 : Nat), .int .u16 (b9 : Nat), .int .u32 (b10 : Nat), .int .u32 (b11 : Nat), .string bs12, .string bs13, .string bs14] 40)) := heap_alloc_new _ _
  clear hsz_HLL
  go_wp2_with fail
  generalize w6.alloc (.cells #[.int .u16 (b0 : Nat), .int .u16 (b1 : Nat), .int .u16 (b2 : Nat), .int .u16 (b3 : Nat), .int .u32 (b4 : Nat), .int .u32 (b5 : Nat), .int .u32 (b6 : Nat), .int .u32 (b7 : Nat), .int .u16 (b8 : Nat), .int .u16 (b9 : Nat), .int .u32 (b10 : Nat), .int .u32 (b11 : Nat), .string bs12, .string bs13, .string bs14] 40) = w7 at *
  generalize w6.heap.size = gL at *
  refine (HKD.out _).mono ?_; rintro r w8 ⟨rfl, hb⟩
  replace HA := Lib.hid ((hb.block _ (lt_of_some HA.out)).trans HA.out)
  replace HBB := Lib.hid ((hb.block _ (lt_of_some HBB.out)).trans HBB.out)
  replace HD := Lib.hid ((hb.block _ (lt_of_some HD.out)).trans HD.out)
  replace HK := Lib.hid ((hb.block _ (lt_of_some HK.out)).trans HK.out)
  replace HLL := Lib.hid ((hb.block _ (lt_of_some HLL.out)).trans HLL.out)
  replace HB := Lib.hid (HB.out.trans (hb.mono HB.out.size))
  clear hb
  clear HKD
  have hsz_HG := HB.out.size
  replace HA := Lib.hid ((Below.heap_alloc w8 (.cells #[.int .u32 (d0 : Nat), .int .u64 (d1 : Nat), .int .u64 (d2 : Nat)] 45) _ (lt_of_some HA.out)).trans HA.out)
  replace HBB := Lib.hid ((Below.heap_alloc w8 (.cells #[.int .u32 (d0 : Nat), .int .u64 (d1 : Nat), .int .u64 (d2 : Nat)] 45) _ (lt_of_some HBB.out)).trans HBB.out)
  replace HD := Lib.hid ((Below.heap_alloc w8 (.cells #[.int .u32 (d0 : Nat), .int .u64 (d1 : Nat), .int .u64 (d2 : Nat)] 45) _ (lt_of_some HD.out)).trans HD.out)
  replace HK := Lib.hid ((Below.heap_alloc w8 (.cells #[.int .u32 (d0 : Nat), .int .u64 (d1 : Nat), .int .u64 (d2 : Nat)] 45) _ (lt_of_some HK.out)).trans HK.out)
  replace HLL := Lib.hid ((Below.heap_alloc w8 (.cells #[.int .u32 (d0 : Nat), .int .u64 (d1 : Nat), .int .u64 (d2 : Nat)] 45) _ (lt_of_some HLL.out)).trans HLL.out)
  replace HB := Lib.hid (HB.out.alloc HB.out.size (.cells #[.int .u32 (d0 : Nat), .int .u64 (d1 : Nat), .int .u64 (d2 : Nat)] 45))
  have HG : Hid ((w8.alloc (.cells #[.int .u32 (d0 : Nat), .int .u64 (d1 : Nat), .int .u64 (d2 : Nat)] 45)).heap[w8.heap.size]? = some (.cells #[.int .u32 (d0 : Nat), .int .u64 (d1 : Nat), .int .u64 (d2 : Nat)] 45)) := heap_alloc_new _ _
  clear hsz_HG
  go_upto_region 11 with fail
  generalize w8.alloc (.cells #[.int .u32 (d0 : Nat), .int .u64 (d1 : Nat), .int .u64 (d2 : Nat)] 45) = w9 at *
  generalize w8.heap.size = gG at *
  have hel := HEL.out
  have hec := HEC.out
  have hed := HED.out
  have vHA0 : w9.cell? ⟨w.heap.size, 0, none⟩ = some (.int .u16 (a0 : Nat)) := by rw [Lib.cell_of_heap HA.out]; rfl
  have vHA1 : w9.cell? ⟨w.heap.size, 1, none⟩ = some (.int .u16 (a1 : Nat)) := by rw [Lib.cell_of_heap HA.out]; rfl
  have vHA2 : w9.cell? ⟨w.heap.size, 2, none⟩ = some (.int .u16 (a2 : Nat)) := by rw [Lib.cell_of_heap HA.out]; rfl
  have vHA3 : w9.cell? ⟨w.heap.size, 3, none⟩ = some (.int .u32 (a3 : Nat)) := by rw [Lib.cell_of_heap HA.out]; rfl
  have vHA4 : w9.cell? ⟨w.heap.size, 4, none⟩ = some (.int .u32 (a4 : Nat)) := by rw [Lib.cell_of_heap HA.out]; rfl
  have vHA5 : w9.cell? ⟨w.heap.size, 5, none⟩ = some (.int .u32 (a5 : Nat)) := by rw [Lib.cell_of_heap HA.out]; rfl
  have vHA6 : w9.cell? ⟨w.heap.size, 6, none⟩ = some (.int .u32 (a6 : Nat)) := by rw [Lib.cell_of_heap HA.out]; rfl
  have vHA7 : w9.cell? ⟨w.heap.size, 7, none⟩ = some (.string as7) := by rw [Lib.cell_of_heap HA.out]; rfl
  have vHA8 : w9.cell? ⟨w.heap.size, 8, none⟩ = some (.string as8) := by rw [Lib.cell_of_heap HA.out]; rfl
  have vHK0 : w9.cell? ⟨gK, 0, none⟩ = some (.int .u16 (a0 : Nat)) := by rw [Lib.cell_of_heap HK.out]; rfl
  have vHK1 : w9.cell? ⟨gK, 1, none⟩ = some (.int .u16 (a1 : Nat)) := by rw [Lib.cell_of_heap HK.out]; rfl
  have vHK2 : w9.cell? ⟨gK, 2, none⟩ = some (.int .u16 (a2 : Nat)) := by rw [Lib.cell_of_heap HK.out]; rfl
  have vHK3 : w9.cell? ⟨gK, 3, none⟩ = some (.int .u32 (a3 : Nat)) := by rw [Lib.cell_of_heap HK.out]; rfl
  have vHK4 : w9.cell? ⟨gK, 4, none⟩ = some (.int .u32 (a4 : Nat)) := by rw [Lib.cell_of_heap HK.out]; rfl
  have vHK5 : w9.cell? ⟨gK, 5, none⟩ = some (.int .u32 (a5 : Nat)) := by rw [Lib.cell_of_heap HK.out]; rfl
  have vHK6 : w9.cell? ⟨gK, 6, none⟩ = some (.int .u32 (a6 : Nat)) := by rw [Lib.cell_of_heap HK.out]; rfl
  have vHK7 : w9.cell? ⟨gK, 7, none⟩ = some (.string as7) := by rw [Lib.cell_of_heap HK.out]; rfl
  have vHK8 : w9.cell? ⟨gK, 8, none⟩ = some (.string as8) := by rw [Lib.cell_of_heap HK.out]; rfl
  have vHBB0 : w9.cell? ⟨gB, 0, none⟩ = some (.int .u16 (b0 : Nat)) := by rw [Lib.cell_of_heap HBB.out]; rfl
  have vHBB1 : w9.cell? ⟨gB, 1, none⟩ = some (.int .u16 (b1 : Nat)) := by rw [Lib.cell_of_heap HBB.out]; rfl
  have vHBB2 : w9.cell? ⟨gB, 2, none⟩ = some (.int .u16 (b2 : Nat)) := by rw [Lib.cell_of_heap HBB.out]; rfl
  have vHBB3 : w9.cell? ⟨gB, 3, none⟩ = some (.int .u16 (b3 : Nat)) := by rw [Lib.cell_of_heap HBB.out]; rfl
  have vHBB4 : w9.cell? ⟨gB, 4, none⟩ = some (.int .u32 (b4 : Nat)) := by rw [Lib.cell_of_heap HBB.out]; rfl
  have vHBB5 : w9.cell? ⟨gB, 5, none⟩ = some (.int .u32 (b5 : Nat)) := by rw [Lib.cell_of_heap HBB.out]; rfl
  have vHBB6 : w9.cell? ⟨gB, 6, none⟩ = some (.int .u32 (b6 : Nat)) := by rw [Lib.cell_of_heap HBB.out]; rfl
  have vHBB7 : w9.cell? ⟨gB, 7, none⟩ = some (.int .u32 (b7 : Nat)) := by rw [Lib.cell_of_heap HBB.out]; rfl
  have vHBB8 : w9.cell? ⟨gB, 8, none⟩ = some (.int .u16 (b8 : Nat)) := by rw [Lib.cell_of_heap HBB.out]; rfl
  have vHBB9 : w9.cell? ⟨gB, 9, none⟩ = some (.int .u16 (b9 : Nat)) := by rw [Lib.cell_of_heap HBB.out]; rfl
  have vHBB10 : w9.cell? ⟨gB, 10, none⟩ = some (.int .u32 (b10 : Nat)) := by rw [Lib.cell_of_heap HBB.out]; rfl
  have vHBB11 : w9.cell? ⟨gB, 11, none⟩ = some (.int .u32 (b11 : Nat)) := by rw [Lib.cell_of_heap HBB.out]; rfl
  have vHBB12 : w9.cell? ⟨gB, 12, none⟩ = some (.string bs12) := by rw [Lib.cell_of_heap HBB.out]; rfl
  have vHBB13 : w9.cell? ⟨gB, 13, none⟩ = some (.string bs13) := by rw [Lib.cell_of_heap HBB.out]; rfl
  have vHBB14 : w9.cell? ⟨gB, 14, none⟩ = some (.string bs14) := by rw [Lib.cell_of_heap HBB.out]; rfl
  have vHLL0 : w9.cell? ⟨gL, 0, none⟩ = some (.int .u16 (b0 : Nat)) := by rw [Lib.cell_of_heap HLL.out]; rfl
  have vHLL1 : w9.cell? ⟨gL, 1, none⟩ = some (.int .u16 (b1 : Nat)) := by rw [Lib.cell_of_heap HLL.out]; rfl
  have vHLL2 : w9.cell? ⟨gL, 2, none⟩ = some (.int .u16 (b2 : Nat)) := by rw [Lib.cell_of_heap HLL.out]; rfl
  have vHLL3 : w9.cell? ⟨gL, 3, none⟩ = some (.int .u16 (b3 : Nat)) := by rw [Lib.cell_of_heap HLL.out]; rfl
  have vHLL4 : w9.cell? ⟨gL, 4, none⟩ = some (.int .u32 (b4 : Nat)) := by rw [Lib.cell_of_heap HLL.out]; rfl
  have vHLL5 : w9.cell? ⟨gL, 5, none⟩ = some (.int .u32 (b5 : Nat)) := by rw [Lib.cell_of_heap HLL.out]; rfl
  have vHLL6 : w9.cell? ⟨gL, 6, none⟩ = some (.int .u32 (b6 : Nat)) := by rw [Lib.cell_of_heap HLL.out]; rfl
  have vHLL7 : w9.cell? ⟨gL, 7, none⟩ = some (.int .u32 (b7 : Nat)) := by rw [Lib.cell_of_heap HLL.out]; rfl
  have vHLL8 : w9.cell? ⟨gL, 8, none⟩ = some (.int .u16 (b8 : Nat)) := by rw [Lib.cell_of_heap HLL.out]; rfl
  have vHLL9 : w9.cell? ⟨gL, 9, none⟩ = some (.int .u16 (b9 : Nat)) := by rw [Lib.cell_of_heap HLL.out]; rfl
  have vHLL10 : w9.cell? ⟨gL, 10, none⟩ = some (.int .u32 (b10 : Nat)) := by rw [Lib.cell_of_heap HLL.out]; rfl
  have vHLL11 : w9.cell? ⟨gL, 11, none⟩ = some (.int .u32 (b11 : Nat)) := by rw [Lib.cell_of_heap HLL.out]; rfl
  have vHLL12 : w9.cell? ⟨gL, 12, none⟩ = some (.string bs12) := by rw [Lib.cell_of_heap HLL.out]; rfl
  have vHLL13 : w9.cell? ⟨gL, 13, none⟩ = some (.string bs13) := by rw [Lib.cell_of_heap HLL.out]; rfl
  have vHLL14 : w9.cell? ⟨gL, 14, none⟩ = some (.string bs14) := by rw [Lib.cell_of_heap HLL.out]; rfl
  have vHD0 : w9.cell? ⟨gD, 0, none⟩ = some (.int .u32 (d0 : Nat)) := by rw [Lib.cell_of_heap HD.out]; rfl
  have vHD1 : w9.cell? ⟨gD, 1, none⟩ = some (.int .u64 (d1 : Nat)) := by rw [Lib.cell_of_heap HD.out]; rfl
  have vHD2 : w9.cell? ⟨gD, 2, none⟩ = some (.int .u64 (d2 : Nat)) := by rw [Lib.cell_of_heap HD.out]; rfl
  have vHG0 : w9.cell? ⟨gG, 0, none⟩ = some (.int .u32 (d0 : Nat)) := by rw [Lib.cell_of_heap HG.out]; rfl
  have vHG1 : w9.cell? ⟨gG, 1, none⟩ = some (.int .u64 (d1 : Nat)) := by rw [Lib.cell_of_heap HG.out]; rfl
  have vHG2 : w9.cell? ⟨gG, 2, none⟩ = some (.int .u64 (d2 : Nat)) := by rw [Lib.cell_of_heap HG.out]; rfl
  go_upto_region 13 with fail
  clear hzX hzY hzZ
  clear hel hec hed vHA0 vHA1 vHA2 vHA3 vHA4 vHA5 vHA6 vHA7 vHA8 vHK0 vHK1 vHK2 vHK3 vHK4 vHK5 vHK6 vHK7 vHK8 vHBB0 vHBB1 vHBB2 vHBB3 vHBB4 vHBB5 vHBB6 vHBB7 vHBB8 vHBB9 vHBB10 vHBB11 vHBB12 vHBB13 vHBB14 vHLL0 vHLL1 vHLL2 vHLL3 vHLL4 vHLL5 vHLL6 vHLL7 vHLL8 vHLL9 vHLL10 vHLL11 vHLL12 vHLL13 vHLL14 vHD0 vHD1 vHD2 vHG0 vHG1 vHG2 HA HBB HD HK HLL HG HEL HEC HED
  have hC := HhC.out
  have hcI := HcI.out
  have hwX := HwX.out
  have hci := Hci.out
  have hX1 : ((X.size : Int) == 0) = false := by rw [beq_eq_false_iff_ne]; omega
  go_wp2_with fail
  refine (HCC.out _).mono ?_; rintro r w10 ⟨rfl, hb⟩
  have HB10 := Lib.hid ((HB.out.trans (hb.mono HB.out.size)).alloc (Nat.le_trans HB.out.size hb.size) (.cells #[.int .u16 0, .int .u16 0, .int .u16 0, .int .u32 0, .int .u32 0, .int .u32 0, .int .u32 0, .string ⟨#[]⟩, .string ⟨#[]⟩] 26))
  clear hb HB HCC hC hcI hwX hci HhC HcI HwX Hci
  obtain ⟨x0, x1, x2, x3, x4, x5, x6, xs7, xs8, n, e, hps, hbd, hzs, hcase⟩ := formL s (by omega)
  have HPS := Lib.hid (fun w => parseL_any s (by omega) w)
  rw [hps] at HPS
  obtain ⟨y0, y1, y2, y3, y4, y5, y6, y7, y8, y9, y10, y11, ys12, ys13, ys14, n2, e2, hps2, hbd2, hzs2, hcase2⟩ := formC s (by omega)
  have HPS2 := Lib.hid (fun w => parseC_any s (by omega) w)
  rw [hps2] at HPS2
  clear hps hps2
  have HCASE := Lib.hid hcase
  have HCASE2 := Lib.hid hcase2
  clear hcase hcase2
  obtain ⟨mx0, mx1, mx2, mx3, mx4, mx5, mx6⟩ := hbd
  obtain ⟨mzxs7, mzxs8⟩ := hzs
  obtain ⟨my0, my1, my2, my3, my4, my5, my6, my7, my8, my9, my10, my11⟩ := hbd2
  obtain ⟨mzys12, mzys13, mzys14⟩ := hzs2
  go_wp2_with fail
  generalize w10.alloc (.cells #[.int .u16 0, .int .u16 0, .int .u16 0, .int .u32 0, .int .u32 0, .int .u32 0, .int .u32 0, .string ⟨#[]⟩, .string ⟨#[]⟩] 26) = w11 at *
  refine (HPS.out _).mono ?_; rintro r w12 ⟨rfl, hb⟩
  have hh := heap_alloc_new w12 (.cells #[.int .u16 (x0 : Nat), .int .u16 (x1 : Nat), .int .u16 (x2 : Nat), .int .u32 (x3 : Nat), .int .u32 (x4 : Nat), .int .u32 (x5 : Nat), .int .u32 (x6 : Nat), .string xs7, .string xs8] 26)
  have HB12 := Lib.hid ((HB10.out.trans (hb.mono HB10.out.size)).alloc (Nat.le_trans HB10.out.size hb.size) (.cells #[.int .u16 (x0 : Nat), .int .u16 (x1 : Nat), .int .u16 (x2 : Nat), .int .u32 (x3 : Nat), .int .u32 (x4 : Nat), .int .u32 (x5 : Nat), .int .u32 (x6 : Nat), .string xs7, .string xs8] 26))
  have HH12 := Lib.hid hh
  clear hb hh HB10 HPS
  go_upto_region 17 with fail
  generalize w12.alloc (.cells #[.int .u16 (x0 : Nat), .int .u16 (x1 : Nat), .int .u16 (x2 : Nat), .int .u32 (x3 : Nat), .int .u32 (x4 : Nat), .int .u32 (x5 : Nat), .int .u32 (x6 : Nat), .string xs7, .string xs8] 26) = w13 at *
  generalize w12.heap.size = gk at *
  rcases HCASE.out with ⟨hok, rfl, hn, hrow, htx⟩ | ⟨hno, rfl, rfl, rfl, rfl, rfl, rfl, rfl, rfl, rfl, rfl, rfl⟩
  · obtain ⟨hfit, htxe, hle⟩ := againL s x0 x1 x2 x3 x4 x5 x6 xs7 xs8 n hok hn hrow htx
    have hpr : prL x0 x1 x2 x3 x4 x5 x6 xs7 xs8 = .tuple #[.string (txL x0 x1 x2 x3 x4 x5 x6 xs7 xs8), .int .i64 0] := if_pos hfit
    have HPR := Lib.hid (fun w => printL_any x0 x1 x2 x3 x4 x5 x6 mx0 mx1 mx2 mx3 mx4 mx5 mx6 xs7 xs8 mzxs7 mzxs8 w)
    rw [hpr, htxe] at HPR
    clear hok hn hrow htx hfit htxe hpr HCASE
    have hself : ((s.extract 0 n).toList == (s.extract 0 n).toList) = true := beq_self_eq_true _
    go_upto_region 18 with fail
    go_wp2_with (refine wpList_load_row rfl 26 (.tmp 30) rfl gk rfl 26 _ (0, 0) _ HH12.out Try.underlying26 rfl info_L ?_)
    refine (HPR.out _).mono ?_; rintro r w14 ⟨rfl, hb⟩
    have HB14 := Lib.hid (HB12.out.trans (hb.mono HB12.out.size))
    clear hb HPR
    go_upto_region 21 with fail
    clear hself
    have HBx := Lib.hid (HB14.out)
    go_wp2_with fail
    refine (HPS2.out _).mono ?_; rintro r w22 ⟨rfl, hb⟩
    have hh2 := heap_alloc_new w22 (.cells #[.int .u16 (y0 : Nat), .int .u16 (y1 : Nat), .int .u16 (y2 : Nat), .int .u16 (y3 : Nat), .int .u32 (y4 : Nat), .int .u32 (y5 : Nat), .int .u32 (y6 : Nat), .int .u32 (y7 : Nat), .int .u16 (y8 : Nat), .int .u16 (y9 : Nat), .int .u32 (y10 : Nat), .int .u32 (y11 : Nat), .string ys12, .string ys13, .string ys14] 40)
    have HB22 := Lib.hid ((HBx.out.trans (hb.mono HBx.out.size)).alloc (Nat.le_trans HBx.out.size hb.size) (.cells #[.int .u16 (y0 : Nat), .int .u16 (y1 : Nat), .int .u16 (y2 : Nat), .int .u16 (y3 : Nat), .int .u32 (y4 : Nat), .int .u32 (y5 : Nat), .int .u32 (y6 : Nat), .int .u32 (y7 : Nat), .int .u16 (y8 : Nat), .int .u16 (y9 : Nat), .int .u32 (y10 : Nat), .int .u32 (y11 : Nat), .string ys12, .string ys13, .string ys14] 40))
    have HH22 := Lib.hid hh2
    clear hb hh2 HBx HPS2
    rcases HCASE2.out with ⟨hok2, rfl, hn2, hrow2, htx2⟩ | ⟨hno2, rfl, rfl, rfl, rfl, rfl, rfl, rfl, rfl, rfl, rfl, rfl, rfl, rfl, rfl, rfl, rfl, rfl⟩
    · obtain ⟨hfit2, htxe2, hle2⟩ := againC s y0 y1 y2 y3 y4 y5 y6 y7 y8 y9 y10 y11 ys12 ys13 ys14 n2 hok2 hn2 hrow2 htx2
      have hpr2 : prC y0 y1 y2 y3 y4 y5 y6 y7 y8 y9 y10 y11 ys12 ys13 ys14 = .tuple #[.string (txC y0 y1 y2 y3 y4 y5 y6 y7 y8 y9 y10 y11 ys12 ys13 ys14), .int .i64 0] := if_pos hfit2
      have HPR2 := Lib.hid (fun w => printC_any y0 y1 y2 y3 y4 y5 y6 y7 y8 y9 y10 y11 my0 my1 my2 my3 my4 my5 my6 my7 my8 my9 my10 my11 ys12 ys13 ys14 mzys12 mzys13 mzys14 w)
      rw [hpr2, htxe2] at HPR2
      clear hok2 hn2 hrow2 htx2 hfit2 htxe2 hpr2 HCASE2
      have hself2 : ((s.extract 0 n2).toList == (s.extract 0 n2).toList) = true := beq_self_eq_true _
      go_upto_region 23 with fail
      generalize w22.alloc (.cells #[.int .u16 (y0 : Nat), .int .u16 (y1 : Nat), .int .u16 (y2 : Nat), .int .u16 (y3 : Nat), .int .u32 (y4 : Nat), .int .u32 (y5 : Nat), .int .u32 (y6 : Nat), .int .u32 (y7 : Nat), .int .u16 (y8 : Nat), .int .u16 (y9 : Nat), .int .u32 (y10 : Nat), .int .u32 (y11 : Nat), .string ys12, .string ys13, .string ys14] 40) = w23 at *
      generalize w22.heap.size = gk2 at *
      go_wp2_with (refine wpList_load_row rfl 40 (.tmp 35) rfl gk2 rfl 40 _ (0, 0) _ HH22.out Try.underlying40 rfl info_C ?_)
      refine (HPR2.out _).mono ?_; rintro r w24 ⟨rfl, hb⟩
      have HB24 := Lib.hid (HB22.out.trans (hb.mono HB22.out.size))
      clear hb
      go_wp2_with fail
      go_ret
      exact ⟨rfl, HB24.out⟩
    · have he0 : ((erB s 33639248 : Nat) : Int) ≠ 0 := by unfold erB; split <;> decide
      generalize erB s 33639248 = e2 at *
      have he1 : (((e2 : Nat) : Int) == 0) = false := beq_eq_false_iff_ne.2 he0
      have he2 : ¬ e2 = 0 := by omega
      clear hno2 HCASE2
      go_wp2_with fail
      go_ret
      exact ⟨rfl, HB22.out⟩
  · have he0 : ((erB s 67324752 : Nat) : Int) ≠ 0 := by unfold erB; split <;> decide
    generalize erB s 67324752 = e at *
    have he1 : (((e : Nat) : Int) == 0) = false := beq_eq_false_iff_ne.2 he0
    have he2 : ¬ e = 0 := by omega
    clear hno HCASE
    go_upto_region 21 with fail
    have HBx := Lib.hid (HB12.out)
    go_wp2_with fail
    refine (HPS2.out _).mono ?_; rintro r w22 ⟨rfl, hb⟩
    have hh2 := heap_alloc_new w22 (.cells #[.int .u16 (y0 : Nat), .int .u16 (y1 : Nat), .int .u16 (y2 : Nat), .int .u16 (y3 : Nat), .int .u32 (y4 : Nat), .int .u32 (y5 : Nat), .int .u32 (y6 : Nat), .int .u32 (y7 : Nat), .int .u16 (y8 : Nat), .int .u16 (y9 : Nat), .int .u32 (y10 : Nat), .int .u32 (y11 : Nat), .string ys12, .string ys13, .string ys14] 40)
    have HB22 := Lib.hid ((HBx.out.trans (hb.mono HBx.out.size)).alloc (Nat.le_trans HBx.out.size hb.size) (.cells #[.int .u16 (y0 : Nat), .int .u16 (y1 : Nat), .int .u16 (y2 : Nat), .int .u16 (y3 : Nat), .int .u32 (y4 : Nat), .int .u32 (y5 : Nat), .int .u32 (y6 : Nat), .int .u32 (y7 : Nat), .int .u16 (y8 : Nat), .int .u16 (y9 : Nat), .int .u32 (y10 : Nat), .int .u32 (y11 : Nat), .string ys12, .string ys13, .string ys14] 40))
    have HH22 := Lib.hid hh2
    clear hb hh2 HBx HPS2
    rcases HCASE2.out with ⟨hok2, rfl, hn2, hrow2, htx2⟩ | ⟨hno2, rfl, rfl, rfl, rfl, rfl, rfl, rfl, rfl, rfl, rfl, rfl, rfl, rfl, rfl, rfl, rfl, rfl⟩
    · obtain ⟨hfit2, htxe2, hle2⟩ := againC s y0 y1 y2 y3 y4 y5 y6 y7 y8 y9 y10 y11 ys12 ys13 ys14 n2 hok2 hn2 hrow2 htx2
      have hpr2 : prC y0 y1 y2 y3 y4 y5 y6 y7 y8 y9 y10 y11 ys12 ys13 ys14 = .tuple #[.string (txC y0 y1 y2 y3 y4 y5 y6 y7 y8 y9 y10 y11 ys12 ys13 ys14), .int .i64 0] := if_pos hfit2
      have HPR2 := Lib.hid (fun w => printC_any y0 y1 y2 y3 y4 y5 y6 y7 y8 y9 y10 y11 my0 my1 my2 my3 my4 my5 my6 my7 my8 my9 my10 my11 ys12 ys13 ys14 mzys12 mzys13 mzys14 w)
      rw [hpr2, htxe2] at HPR2
      clear hok2 hn2 hrow2 htx2 hfit2 htxe2 hpr2 HCASE2
      have hself2 : ((s.extract 0 n2).toList == (s.extract 0 n2).toList) = true := beq_self_eq_true _
      go_upto_region 23 with fail
      generalize w22.alloc (.cells #[.int .u16 (y0 : Nat), .int .u16 (y1 : Nat), .int .u16 (y2 : Nat), .int .u16 (y3 : Nat), .int .u32 (y4 : Nat), .int .u32 (y5 : Nat), .int .u32 (y6 : Nat), .int .u32 (y7 : Nat), .int .u16 (y8 : Nat), .int .u16 (y9 : Nat), .int .u32 (y10 : Nat), .int .u32 (y11 : Nat), .string ys12, .string ys13, .string ys14] 40) = w23 at *
      generalize w22.heap.size = gk2 at *
      go_wp2_with (refine wpList_load_row rfl 40 (.tmp 35) rfl gk2 rfl 40 _ (0, 0) _ HH22.out Try.underlying40 rfl info_C ?_)
      refine (HPR2.out _).mono ?_; rintro r w24 ⟨rfl, hb⟩
      have HB24 := Lib.hid (HB22.out.trans (hb.mono HB22.out.size))
      clear hb
      go_wp2_with fail
      go_ret
      exact ⟨rfl, HB24.out⟩
    · have he0 : ((erB s 33639248 : Nat) : Int) ≠ 0 := by unfold erB; split <;> decide
      generalize erB s 33639248 = e2 at *
      have he1 : (((e2 : Nat) : Int) == 0) = false := beq_eq_false_iff_ne.2 he0
      have he2 : ¬ e2 = 0 := by omega
      clear hno2 HCASE2
      go_wp2_with fail
      go_ret
      exact ⟨rfl, HB22.out⟩
end Go.Proofs.Ytklmfncljebgnaa
