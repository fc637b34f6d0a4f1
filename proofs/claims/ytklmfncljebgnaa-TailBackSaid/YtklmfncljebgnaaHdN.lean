/-
  Contracts of package header: done.
-/
import Derived.Test.YtklmfncljebgnaaHdM
import Derived.StillTailTactics
import Derived.Laws.Tables
namespace Go.Proofs.Ytklmfncljebgnaa
set_option maxRecDepth 100000
set_option linter.unusedSimpArgs false
open Go.RowKit Go.Joins Go.Deep Go.Op

/-- What three results come to: a struct that lies in a block, two numbers. -/
theorem results_ctt_row {P : Program} {fn : Func} {p u v : Tmp} {ty : TypeId} (h : fn.results = #[.cell p ty, .tmp u, .tmp v]) (tmps : Array Value) (w : World) (g : Nat) (t : TypeId) (cs : Array Value) (fr : Nat × Nat) (d : TypeDesc)
    (hp : tmps.getD p undef = .pointer (some ⟨g, 0, none⟩)) (hg : w.heap[g]? = some (.cells cs t fr))
    (hu : P.underlying ty = some d) (hd : (match d with | .struct _ | .array _ _ => true | _ => false) = true) (hi : (P.info? ty).map (·.size) = some cs.size) :
    (results fn tmps).run P w = .ok (.tuple #[.agg cs, tmps.getD u undef, tmps.getD v undef]) w := by
  have hp' : tmps[p]?.getD undef = .pointer (some ⟨g, 0, none⟩) := by simpa using hp
  simp [results, h, hp', asAddr, run_loadVar_row w g t ty cs fr d hg hu hd hi]
theorem heap_setRow_same (w : World) (g : Nat) (old cs : Array Value) (t : TypeId) (h : w.heap[g]? = some (.cells old t (0, 0))) : (w.setRow g cs).heap[g]? = some (.cells cs t (0, 0)) := setRow_heap _ _ _ _ _ _ h
theorem alloc_size (w : World) (o : Obj) : (w.alloc o).heap.size = w.heap.size + 1 := by simp
theorem heap_alloc_at {w : World} {o : Obj} {k : Nat} (h : k = w.heap.size) : (w.alloc o).heap[k]? = some o := by subst h; exact heap_alloc_new _ _
theorem info_L : (Try.prog.info? 26).map (·.size) = some 9 := by kernel_rfl
theorem one_L (f0 f1 f2 f3 f4 f5 f6 : Nat) (f7 f8 : ByteArray) : (#[.int .u16 (f0 : Nat), .int .u16 (f1 : Nat), .int .u16 (f2 : Nat), .int .u32 (f3 : Nat), .int .u32 (f4 : Nat), .int .u32 (f5 : Nat), .int .u32 (f6 : Nat), .string f7, .string f8] : Array Value).all (·.oneCell') = true := by simp [Value.oneCell']
set_option maxHeartbeats 4000000 in
theorem doneL_ok (f0 f1 f2 f3 f4 f5 f6 : Nat) (f7 f8 : ByteArray) {w0 w : World} {s : ByteArray} {a : Nat} (h : CI w0 s a 0 w) :
    Calls Try.prog 38 #[.agg #[.int .u16 (f0 : Nat), .int .u16 (f1 : Nat), .int .u16 (f2 : Nat), .int .u32 (f3 : Nat), .int .u32 (f4 : Nat), .int .u32 (f5 : Nat), .int .u32 (f6 : Nat), .string f7, .string f8], .pointer (some ⟨w0.heap.size, 0, none⟩)] w fun r w' => r = .returned (.tuple #[.agg #[.int .u16 (f0 : Nat), .int .u16 (f1 : Nat), .int .u16 (f2 : Nat), .int .u32 (f3 : Nat), .int .u32 (f4 : Nat), .int .u32 (f5 : Nat), .int .u32 (f6 : Nat), .string f7, .string f8], .int .i64 (a : Nat), .int .i64 0]) ∧ Below w.heap.size w w' := by
  have hb := heap_alloc_new w (.cells #[.int .u16 (f0 : Nat), .int .u16 (f1 : Nat), .int .u16 (f2 : Nat), .int .u32 (f3 : Nat), .int .u32 (f4 : Nat), .int .u32 (f5 : Nat), .int .u32 (f6 : Nat), .string f7, .string f8] 26)
  have hb2 := (Below.heap_alloc (w.alloc (.cells #[.int .u16 (f0 : Nat), .int .u16 (f1 : Nat), .int .u16 (f2 : Nat), .int .u32 (f3 : Nat), .int .u32 (f4 : Nat), .int .u32 (f5 : Nat), .int .u32 (f6 : Nat), .string f7, .string f8] 26)) (.cells #[.int .u16 0, .int .u16 0, .int .u16 0, .int .u32 0, .int .u32 0, .int .u32 0, .int .u32 0, .string ⟨#[]⟩, .string ⟨#[]⟩] 26) w.heap.size (by simp)).trans hb
  have HB3 : Hid (((w.alloc (.cells #[.int .u16 (f0 : Nat), .int .u16 (f1 : Nat), .int .u16 (f2 : Nat), .int .u32 (f3 : Nat), .int .u32 (f4 : Nat), .int .u32 (f5 : Nat), .int .u32 (f6 : Nat), .string f7, .string f8] 26)).alloc (.cells #[.int .u16 0, .int .u16 0, .int .u16 0, .int .u32 0, .int .u32 0, .int .u32 0, .int .u32 0, .string ⟨#[]⟩, .string ⟨#[]⟩] 26)).heap[w.heap.size + 1]? = some (.cells #[.int .u16 0, .int .u16 0, .int .u16 0, .int .u32 0, .int .u32 0, .int .u32 0, .int .u32 0, .string ⟨#[]⟩, .string ⟨#[]⟩] 26 (0, 0))) := heap_alloc_at (alloc_size _ _).symm
  have HX : Hid (Below w.heap.size w ((w.alloc (.cells #[.int .u16 (f0 : Nat), .int .u16 (f1 : Nat), .int .u16 (f2 : Nat), .int .u32 (f3 : Nat), .int .u32 (f4 : Nat), .int .u32 (f5 : Nat), .int .u32 (f6 : Nat), .string f7, .string f8] 26)).alloc (.cells #[.int .u16 0, .int .u16 0, .int .u16 0, .int .u32 0, .int .u32 0, .int .u32 0, .int .u32 0, .string ⟨#[]⟩, .string ⟨#[]⟩] 26))) := ((Below.refl _ _).alloc (Nat.le_refl _) _).alloc (by simp) _
  have HC : Hid (CI w0 s a 0 ((w.alloc (.cells #[.int .u16 (f0 : Nat), .int .u16 (f1 : Nat), .int .u16 (f2 : Nat), .int .u32 (f3 : Nat), .int .u32 (f4 : Nat), .int .u32 (f5 : Nat), .int .u32 (f6 : Nat), .string f7, .string f8] 26)).alloc (.cells #[.int .u16 0, .int .u16 0, .int .u16 0, .int .u32 0, .int .u32 0, .int .u32 0, .int .u32 0, .string ⟨#[]⟩, .string ⟨#[]⟩] 26))) := h.below HX.out
  clear h hb
  go_enter Try.func38, Try.ntmps38
  go_wp2_with fail
  generalize (w.alloc (.cells #[.int .u16 (f0 : Nat), .int .u16 (f1 : Nat), .int .u16 (f2 : Nat), .int .u32 (f3 : Nat), .int .u32 (f4 : Nat), .int .u32 (f5 : Nat), .int .u32 (f6 : Nat), .string f7, .string f8] 26)).alloc (.cells #[.int .u16 0, .int .u16 0, .int .u16 0, .int .u32 0, .int .u32 0, .int .u32 0, .int .u32 0, .string ⟨#[]⟩, .string ⟨#[]⟩] 26) = w1 at *
  refine (err_ci HC.out).mono ?_; rintro r wy ⟨rfl, rfl⟩
  go_wp2_with fail
  have x0 : w1.cell? ⟨w.heap.size, 0, none⟩ = some (.int .u16 (f0 : Nat)) := by rw [Lib.cell_of_heap hb2]; rfl
  have x1 : w1.cell? ⟨w.heap.size, 1, none⟩ = some (.int .u16 (f1 : Nat)) := by rw [Lib.cell_of_heap hb2]; rfl
  have x2 : w1.cell? ⟨w.heap.size, 2, none⟩ = some (.int .u16 (f2 : Nat)) := by rw [Lib.cell_of_heap hb2]; rfl
  have x3 : w1.cell? ⟨w.heap.size, 3, none⟩ = some (.int .u32 (f3 : Nat)) := by rw [Lib.cell_of_heap hb2]; rfl
  have x4 : w1.cell? ⟨w.heap.size, 4, none⟩ = some (.int .u32 (f4 : Nat)) := by rw [Lib.cell_of_heap hb2]; rfl
  have x5 : w1.cell? ⟨w.heap.size, 5, none⟩ = some (.int .u32 (f5 : Nat)) := by rw [Lib.cell_of_heap hb2]; rfl
  have x6 : w1.cell? ⟨w.heap.size, 6, none⟩ = some (.int .u32 (f6 : Nat)) := by rw [Lib.cell_of_heap hb2]; rfl
  have x7 : w1.cell? ⟨w.heap.size, 7, none⟩ = some (.string f7) := by rw [Lib.cell_of_heap hb2]; rfl
  have x8 : w1.cell? ⟨w.heap.size, 8, none⟩ = some (.string f8) := by rw [Lib.cell_of_heap hb2]; rfl
  have HA := Lib.hid (fun n => at_any _ s a 0 (w1.drewN n) (HC.out.cur.drewN n))
  go_still_tail 3, (by kernel_rfl)
  still_call ((HA.out 1).mono fun _ _ h => ⟨h.1, h.2.symm⟩)
  repeat still_step
  refine wpStill_nil ?_
  change wpList _ _ _ _ _ w1.drew
  replace HB3 : Hid (w1.drew.heap[w.heap.size + 1]? = some (.cells #[.int .u16 0, .int .u16 0, .int .u16 0, .int .u32 0, .int .u32 0, .int .u32 0, .int .u32 0, .string ⟨#[]⟩, .string ⟨#[]⟩] 26 (0, 0))) := HB3
  replace HX : Hid (Below w.heap.size w w1.drew) := HX.out.drew
  clear HA HC hb2 x0 x1 x2 x3 x4 x5 x6 x7 x8
  generalize w1.drew = w2 at *
  go_wp2_with (refine wpList_store_row rfl 26 (.tmp 4) (.tmp 14) rfl (w.heap.size + 1) #[.int .u16 (f0 : Nat), .int .u16 (f1 : Nat), .int .u16 (f2 : Nat), .int .u32 (f3 : Nat), .int .u32 (f4 : Nat), .int .u32 (f5 : Nat), .int .u32 (f6 : Nat), .string f7, .string f8] rfl rfl 26 #[.int .u16 0, .int .u16 0, .int .u16 0, .int .u32 0, .int .u32 0, .int .u32 0, .int .u32 0, .string ⟨#[]⟩, .string ⟨#[]⟩] HB3.out info_L rfl (one_L f0 f1 f2 f3 f4 f5 f6 f7 f8) ?_)
  exact bodyPost_ret (results_ctt_row rfl _ _ (w.heap.size + 1) 26 #[.int .u16 (f0 : Nat), .int .u16 (f1 : Nat), .int .u16 (f2 : Nat), .int .u32 (f3 : Nat), .int .u32 (f4 : Nat), .int .u32 (f5 : Nat), .int .u32 (f6 : Nat), .string f7, .string f8] (0, 0) _ rfl (heap_setRow_same _ _ _ _ _ HB3.out) Try.underlying26 rfl info_L) rfl ⟨rfl, below_setRow HX.out (Nat.le_succ _) _⟩
set_option maxHeartbeats 4000000 in
theorem doneL_no (f0 f1 f2 f3 f4 f5 f6 : Nat) (f7 f8 : ByteArray) {w0 w : World} {s : ByteArray} {a : Nat} (h : CI w0 s a 3 w) :
    Calls Try.prog 38 #[.agg #[.int .u16 (f0 : Nat), .int .u16 (f1 : Nat), .int .u16 (f2 : Nat), .int .u32 (f3 : Nat), .int .u32 (f4 : Nat), .int .u32 (f5 : Nat), .int .u32 (f6 : Nat), .string f7, .string f8], .pointer (some ⟨w0.heap.size, 0, none⟩)] w fun r w' => r = .returned (.tuple #[.agg #[.int .u16 0, .int .u16 0, .int .u16 0, .int .u32 0, .int .u32 0, .int .u32 0, .int .u32 0, .string ⟨#[]⟩, .string ⟨#[]⟩], .int .i64 0, .int .i64 3]) ∧ Below w.heap.size w w' := by
  have HB3 : Hid (((w.alloc (.cells #[.int .u16 (f0 : Nat), .int .u16 (f1 : Nat), .int .u16 (f2 : Nat), .int .u32 (f3 : Nat), .int .u32 (f4 : Nat), .int .u32 (f5 : Nat), .int .u32 (f6 : Nat), .string f7, .string f8] 26)).alloc (.cells #[.int .u16 0, .int .u16 0, .int .u16 0, .int .u32 0, .int .u32 0, .int .u32 0, .int .u32 0, .string ⟨#[]⟩, .string ⟨#[]⟩] 26)).heap[w.heap.size + 1]? = some (.cells #[.int .u16 0, .int .u16 0, .int .u16 0, .int .u32 0, .int .u32 0, .int .u32 0, .int .u32 0, .string ⟨#[]⟩, .string ⟨#[]⟩] 26 (0, 0))) := heap_alloc_at (alloc_size _ _).symm
  have HX : Hid (Below w.heap.size w ((w.alloc (.cells #[.int .u16 (f0 : Nat), .int .u16 (f1 : Nat), .int .u16 (f2 : Nat), .int .u32 (f3 : Nat), .int .u32 (f4 : Nat), .int .u32 (f5 : Nat), .int .u32 (f6 : Nat), .string f7, .string f8] 26)).alloc (.cells #[.int .u16 0, .int .u16 0, .int .u16 0, .int .u32 0, .int .u32 0, .int .u32 0, .int .u32 0, .string ⟨#[]⟩, .string ⟨#[]⟩] 26))) := ((Below.refl _ _).alloc (Nat.le_refl _) _).alloc (by simp) _
  have HC : Hid (CI w0 s a 3 ((w.alloc (.cells #[.int .u16 (f0 : Nat), .int .u16 (f1 : Nat), .int .u16 (f2 : Nat), .int .u32 (f3 : Nat), .int .u32 (f4 : Nat), .int .u32 (f5 : Nat), .int .u32 (f6 : Nat), .string f7, .string f8] 26)).alloc (.cells #[.int .u16 0, .int .u16 0, .int .u16 0, .int .u32 0, .int .u32 0, .int .u32 0, .int .u32 0, .string ⟨#[]⟩, .string ⟨#[]⟩] 26))) := h.below HX.out
  have HS : Hid (((w.alloc (.cells #[.int .u16 (f0 : Nat), .int .u16 (f1 : Nat), .int .u16 (f2 : Nat), .int .u32 (f3 : Nat), .int .u32 (f4 : Nat), .int .u32 (f5 : Nat), .int .u32 (f6 : Nat), .string f7, .string f8] 26)).alloc (.cells #[.int .u16 0, .int .u16 0, .int .u16 0, .int .u32 0, .int .u32 0, .int .u32 0, .int .u32 0, .string ⟨#[]⟩, .string ⟨#[]⟩] 26)).heap.size = w.heap.size + 2) := by show _ = _; simp
  clear h
  go_enter Try.func38, Try.ntmps38
  go_wp2_with fail
  generalize (w.alloc (.cells #[.int .u16 (f0 : Nat), .int .u16 (f1 : Nat), .int .u16 (f2 : Nat), .int .u32 (f3 : Nat), .int .u32 (f4 : Nat), .int .u32 (f5 : Nat), .int .u32 (f6 : Nat), .string f7, .string f8] 26)).alloc (.cells #[.int .u16 0, .int .u16 0, .int .u16 0, .int .u32 0, .int .u32 0, .int .u32 0, .int .u32 0, .string ⟨#[]⟩, .string ⟨#[]⟩] 26) = w1 at *
  refine (err_ci HC.out).mono ?_; rintro r wy ⟨rfl, rfl⟩
  have hb := heap_alloc_new w1 (.cells #[.int .u16 0, .int .u16 0, .int .u16 0, .int .u32 0, .int .u32 0, .int .u32 0, .int .u32 0, .string ⟨#[]⟩, .string ⟨#[]⟩] 26)
  replace HB3 : Hid ((w1.alloc (.cells #[.int .u16 0, .int .u16 0, .int .u16 0, .int .u32 0, .int .u32 0, .int .u32 0, .int .u32 0, .string ⟨#[]⟩, .string ⟨#[]⟩] 26)).heap[w.heap.size + 1]? = some (.cells #[.int .u16 0, .int .u16 0, .int .u16 0, .int .u32 0, .int .u32 0, .int .u32 0, .int .u32 0, .string ⟨#[]⟩, .string ⟨#[]⟩] 26 (0, 0))) := (Below.heap_alloc w1 _ _ (by rw [HS.out]; omega)).trans HB3.out
  replace HC : Hid (CI w0 s a 3 (w1.alloc (.cells #[.int .u16 0, .int .u16 0, .int .u16 0, .int .u32 0, .int .u32 0, .int .u32 0, .int .u32 0, .string ⟨#[]⟩, .string ⟨#[]⟩] 26))) := HC.out.below ((Below.refl _ _).alloc (Nat.le_refl _) _)
  replace HX : Hid (Below w.heap.size w (w1.alloc (.cells #[.int .u16 0, .int .u16 0, .int .u16 0, .int .u32 0, .int .u32 0, .int .u32 0, .int .u32 0, .string ⟨#[]⟩, .string ⟨#[]⟩] 26))) := HX.out.alloc (by rw [HS.out]; omega) _
  go_wp2_with fail
  rw [HS.out] at *
  generalize w1.alloc (.cells #[.int .u16 0, .int .u16 0, .int .u16 0, .int .u32 0, .int .u32 0, .int .u32 0, .int .u32 0, .string ⟨#[]⟩, .string ⟨#[]⟩] 26) = w2 at *
  clear HS
  have x0 : w2.cell? ⟨w.heap.size + 2, 0, none⟩ = some (.int .u16 0) := by rw [Lib.cell_of_heap hb]; rfl
  have x1 : w2.cell? ⟨w.heap.size + 2, 1, none⟩ = some (.int .u16 0) := by rw [Lib.cell_of_heap hb]; rfl
  have x2 : w2.cell? ⟨w.heap.size + 2, 2, none⟩ = some (.int .u16 0) := by rw [Lib.cell_of_heap hb]; rfl
  have x3 : w2.cell? ⟨w.heap.size + 2, 3, none⟩ = some (.int .u32 0) := by rw [Lib.cell_of_heap hb]; rfl
  have x4 : w2.cell? ⟨w.heap.size + 2, 4, none⟩ = some (.int .u32 0) := by rw [Lib.cell_of_heap hb]; rfl
  have x5 : w2.cell? ⟨w.heap.size + 2, 5, none⟩ = some (.int .u32 0) := by rw [Lib.cell_of_heap hb]; rfl
  have x6 : w2.cell? ⟨w.heap.size + 2, 6, none⟩ = some (.int .u32 0) := by rw [Lib.cell_of_heap hb]; rfl
  have x7 : w2.cell? ⟨w.heap.size + 2, 7, none⟩ = some (.string ⟨#[]⟩) := by rw [Lib.cell_of_heap hb]; rfl
  have x8 : w2.cell? ⟨w.heap.size + 2, 8, none⟩ = some (.string ⟨#[]⟩) := by rw [Lib.cell_of_heap hb]; rfl
  have HA := Lib.hid (fun n => err_any _ s a 3 (w2.drewN n) (HC.out.cur.drewN n))
  go_still_tail 3, (by kernel_rfl)
  still_call ((HA.out 1).mono fun _ _ h => ⟨h.1, h.2.symm⟩)
  repeat still_step
  refine wpStill_nil ?_
  change wpList _ _ _ _ _ w2.drew
  replace HB3 : Hid (w2.drew.heap[w.heap.size + 1]? = some (.cells #[.int .u16 0, .int .u16 0, .int .u16 0, .int .u32 0, .int .u32 0, .int .u32 0, .int .u32 0, .string ⟨#[]⟩, .string ⟨#[]⟩] 26 (0, 0))) := HB3
  replace HX : Hid (Below w.heap.size w w2.drew) := HX.out.drew
  clear HA HC hb x0 x1 x2 x3 x4 x5 x6 x7 x8
  generalize w2.drew = w3 at *
  go_wp2_with (refine wpList_store_row rfl 26 (.tmp 4) (.tmp 11) rfl (w.heap.size + 1) #[.int .u16 0, .int .u16 0, .int .u16 0, .int .u32 0, .int .u32 0, .int .u32 0, .int .u32 0, .string ⟨#[]⟩, .string ⟨#[]⟩] rfl rfl 26 #[.int .u16 0, .int .u16 0, .int .u16 0, .int .u32 0, .int .u32 0, .int .u32 0, .int .u32 0, .string ⟨#[]⟩, .string ⟨#[]⟩] HB3.out info_L rfl (by simp [Value.oneCell']) ?_)
  exact bodyPost_ret (results_ctt_row rfl _ _ (w.heap.size + 1) 26 #[.int .u16 0, .int .u16 0, .int .u16 0, .int .u32 0, .int .u32 0, .int .u32 0, .int .u32 0, .string ⟨#[]⟩, .string ⟨#[]⟩] (0, 0) _ rfl (heap_setRow_same _ _ _ _ _ HB3.out) Try.underlying26 rfl info_L) rfl ⟨rfl, below_setRow HX.out (Nat.le_succ _) _⟩
theorem info_C : (Try.prog.info? 40).map (·.size) = some 15 := by kernel_rfl
theorem one_C (f0 f1 f2 f3 f4 f5 f6 f7 f8 f9 f10 f11 : Nat) (f12 f13 f14 : ByteArray) : (#[.int .u16 (f0 : Nat), .int .u16 (f1 : Nat), .int .u16 (f2 : Nat), .int .u16 (f3 : Nat), .int .u32 (f4 : Nat), .int .u32 (f5 : Nat), .int .u32 (f6 : Nat), .int .u32 (f7 : Nat), .int .u16 (f8 : Nat), .int .u16 (f9 : Nat), .int .u32 (f10 : Nat), .int .u32 (f11 : Nat), .string f12, .string f13, .string f14] : Array Value).all (·.oneCell') = true := by simp [Value.oneCell']
set_option maxHeartbeats 4000000 in
theorem doneC_ok (f0 f1 f2 f3 f4 f5 f6 f7 f8 f9 f10 f11 : Nat) (f12 f13 f14 : ByteArray) {w0 w : World} {s : ByteArray} {a : Nat} (h : CI w0 s a 0 w) :
    Calls Try.prog 42 #[.agg #[.int .u16 (f0 : Nat), .int .u16 (f1 : Nat), .int .u16 (f2 : Nat), .int .u16 (f3 : Nat), .int .u32 (f4 : Nat), .int .u32 (f5 : Nat), .int .u32 (f6 : Nat), .int .u32 (f7 : Nat), .int .u16 (f8 : Nat), .int .u16 (f9 : Nat), .int .u32 (f10 : Nat), .int .u32 (f11 : Nat), .string f12, .string f13, .string f14], .pointer (some ⟨w0.heap.size, 0, none⟩)] w fun r w' => r = .returned (.tuple #[.agg #[.int .u16 (f0 : Nat), .int .u16 (f1 : Nat), .int .u16 (f2 : Nat), .int .u16 (f3 : Nat), .int .u32 (f4 : Nat), .int .u32 (f5 : Nat), .int .u32 (f6 : Nat), .int .u32 (f7 : Nat), .int .u16 (f8 : Nat), .int .u16 (f9 : Nat), .int .u32 (f10 : Nat), .int .u32 (f11 : Nat), .string f12, .string f13, .string f14], .int .i64 (a : Nat), .int .i64 0]) ∧ Below w.heap.size w w' := by
  have hb := heap_alloc_new w (.cells #[.int .u16 (f0 : Nat), .int .u16 (f1 : Nat), .int .u16 (f2 : Nat), .int .u16 (f3 : Nat), .int .u32 (f4 : Nat), .int .u32 (f5 : Nat), .int .u32 (f6 : Nat), .int .u32 (f7 : Nat), .int .u16 (f8 : Nat), .int .u16 (f9 : Nat), .int .u32 (f10 : Nat), .int .u32 (f11 : Nat), .string f12, .string f13, .string f14] 40)
  have hb2 := (Below.heap_alloc (w.alloc (.cells #[.int .u16 (f0 : Nat), .int .u16 (f1 : Nat), .int .u16 (f2 : Nat), .int .u16 (f3 : Nat), .int .u32 (f4 : Nat), .int .u32 (f5 : Nat), .int .u32 (f6 : Nat), .int .u32 (f7 : Nat), .int .u16 (f8 : Nat), .int .u16 (f9 : Nat), .int .u32 (f10 : Nat), .int .u32 (f11 : Nat), .string f12, .string f13, .string f14] 40)) (.cells #[.int .u16 0, .int .u16 0, .int .u16 0, .int .u16 0, .int .u32 0, .int .u32 0, .int .u32 0, .int .u32 0, .int .u16 0, .int .u16 0, .int .u32 0, .int .u32 0, .string ⟨#[]⟩, .string ⟨#[]⟩, .string ⟨#[]⟩] 40) w.heap.size (by simp)).trans hb
  have HB3 : Hid (((w.alloc (.cells #[.int .u16 (f0 : Nat), .int .u16 (f1 : Nat), .int .u16 (f2 : Nat), .int .u16 (f3 : Nat), .int .u32 (f4 : Nat), .int .u32 (f5 : Nat), .int .u32 (f6 : Nat), .int .u32 (f7 : Nat), .int .u16 (f8 : Nat), .int .u16 (f9 : Nat), .int .u32 (f10 : Nat), .int .u32 (f11 : Nat), .string f12, .string f13, .string f14] 40)).alloc (.cells #[.int .u16 0, .int .u16 0, .int .u16 0, .int .u16 0, .int .u32 0, .int .u32 0, .int .u32 0, .int .u32 0, .int .u16 0, .int .u16 0, .int .u32 0, .int .u32 0, .string ⟨#[]⟩, .string ⟨#[]⟩, .string ⟨#[]⟩] 40)).heap[w.heap.size + 1]? = some (.cells #[.int .u16 0, .int .u16 0, .int .u16 0, .int .u16 0, .int .u32 0, .int .u32 0, .int .u32 0, .int .u32 0, .int .u16 0, .int .u16 0, .int .u32 0, .int .u32 0, .string ⟨#[]⟩, .string ⟨#[]⟩, .string ⟨#[]⟩] 40 (0, 0))) := heap_alloc_at (alloc_size _ _).symm
  have HX : Hid (Below w.heap.size w ((w.alloc (.cells #[.int .u16 (f0 : Nat), .int .u16 (f1 : Nat), .int .u16 (f2 : Nat), .int .u16 (f3 : Nat), .int .u32 (f4 : Nat), .int .u32 (f5 : Nat), .int .u32 (f6 : Nat), .int .u32 (f7 : Nat), .int .u16 (f8 : Nat), .int .u16 (f9 : Nat), .int .u32 (f10 : Nat), .int .u32 (f11 : Nat), .string f12, .string f13, .string f14] 40)).alloc (.cells #[.int .u16 0, .int .u16 0, .int .u16 0, .int .u16 0, .int .u32 0, .int .u32 0, .int .u32 0, .int .u32 0, .int .u16 0, .int .u16 0, .int .u32 0, .int .u32 0, .string ⟨#[]⟩, .string ⟨#[]⟩, .string ⟨#[]⟩] 40))) := ((Below.refl _ _).alloc (Nat.le_refl _) _).alloc (by simp) _
  have HC : Hid (CI w0 s a 0 ((w.alloc (.cells #[.int .u16 (f0 : Nat), .int .u16 (f1 : Nat), .int .u16 (f2 : Nat), .int .u16 (f3 : Nat), .int .u32 (f4 : Nat), .int .u32 (f5 : Nat), .int .u32 (f6 : Nat), .int .u32 (f7 : Nat), .int .u16 (f8 : Nat), .int .u16 (f9 : Nat), .int .u32 (f10 : Nat), .int .u32 (f11 : Nat), .string f12, .string f13, .string f14] 40)).alloc (.cells #[.int .u16 0, .int .u16 0, .int .u16 0, .int .u16 0, .int .u32 0, .int .u32 0, .int .u32 0, .int .u32 0, .int .u16 0, .int .u16 0, .int .u32 0, .int .u32 0, .string ⟨#[]⟩, .string ⟨#[]⟩, .string ⟨#[]⟩] 40))) := h.below HX.out
  clear h hb
  go_enter Try.func42, Try.ntmps42
  go_wp2_with fail
  generalize (w.alloc (.cells #[.int .u16 (f0 : Nat), .int .u16 (f1 : Nat), .int .u16 (f2 : Nat), .int .u16 (f3 : Nat), .int .u32 (f4 : Nat), .int .u32 (f5 : Nat), .int .u32 (f6 : Nat), .int .u32 (f7 : Nat), .int .u16 (f8 : Nat), .int .u16 (f9 : Nat), .int .u32 (f10 : Nat), .int .u32 (f11 : Nat), .string f12, .string f13, .string f14] 40)).alloc (.cells #[.int .u16 0, .int .u16 0, .int .u16 0, .int .u16 0, .int .u32 0, .int .u32 0, .int .u32 0, .int .u32 0, .int .u16 0, .int .u16 0, .int .u32 0, .int .u32 0, .string ⟨#[]⟩, .string ⟨#[]⟩, .string ⟨#[]⟩] 40) = w1 at *
  refine (err_ci HC.out).mono ?_; rintro r wy ⟨rfl, rfl⟩
  go_wp2_with fail
  have x0 : w1.cell? ⟨w.heap.size, 0, none⟩ = some (.int .u16 (f0 : Nat)) := by rw [Lib.cell_of_heap hb2]; rfl
  have x1 : w1.cell? ⟨w.heap.size, 1, none⟩ = some (.int .u16 (f1 : Nat)) := by rw [Lib.cell_of_heap hb2]; rfl
  have x2 : w1.cell? ⟨w.heap.size, 2, none⟩ = some (.int .u16 (f2 : Nat)) := by rw [Lib.cell_of_heap hb2]; rfl
  have x3 : w1.cell? ⟨w.heap.size, 3, none⟩ = some (.int .u16 (f3 : Nat)) := by rw [Lib.cell_of_heap hb2]; rfl
  have x4 : w1.cell? ⟨w.heap.size, 4, none⟩ = some (.int .u32 (f4 : Nat)) := by rw [Lib.cell_of_heap hb2]; rfl
  have x5 : w1.cell? ⟨w.heap.size, 5, none⟩ = some (.int .u32 (f5 : Nat)) := by rw [Lib.cell_of_heap hb2]; rfl
  have x6 : w1.cell? ⟨w.heap.size, 6, none⟩ = some (.int .u32 (f6 : Nat)) := by rw [Lib.cell_of_heap hb2]; rfl
  have x7 : w1.cell? ⟨w.heap.size, 7, none⟩ = some (.int .u32 (f7 : Nat)) := by rw [Lib.cell_of_heap hb2]; rfl
  have x8 : w1.cell? ⟨w.heap.size, 8, none⟩ = some (.int .u16 (f8 : Nat)) := by rw [Lib.cell_of_heap hb2]; rfl
  have x9 : w1.cell? ⟨w.heap.size, 9, none⟩ = some (.int .u16 (f9 : Nat)) := by rw [Lib.cell_of_heap hb2]; rfl
  have x10 : w1.cell? ⟨w.heap.size, 10, none⟩ = some (.int .u32 (f10 : Nat)) := by rw [Lib.cell_of_heap hb2]; rfl
  have x11 : w1.cell? ⟨w.heap.size, 11, none⟩ = some (.int .u32 (f11 : Nat)) := by rw [Lib.cell_of_heap hb2]; rfl
  have x12 : w1.cell? ⟨w.heap.size, 12, none⟩ = some (.string f12) := by rw [Lib.cell_of_heap hb2]; rfl
  have x13 : w1.cell? ⟨w.heap.size, 13, none⟩ = some (.string f13) := by rw [Lib.cell_of_heap hb2]; rfl
  have x14 : w1.cell? ⟨w.heap.size, 14, none⟩ = some (.string f14) := by rw [Lib.cell_of_heap hb2]; rfl
  have HA := Lib.hid (fun n => at_any _ s a 0 (w1.drewN n) (HC.out.cur.drewN n))
  go_still_tail 3, (by kernel_rfl)
  still_call ((HA.out 1).mono fun _ _ h => ⟨h.1, h.2.symm⟩)
  repeat still_step
  refine wpStill_nil ?_
  change wpList _ _ _ _ _ w1.drew
  replace HB3 : Hid (w1.drew.heap[w.heap.size + 1]? = some (.cells #[.int .u16 0, .int .u16 0, .int .u16 0, .int .u16 0, .int .u32 0, .int .u32 0, .int .u32 0, .int .u32 0, .int .u16 0, .int .u16 0, .int .u32 0, .int .u32 0, .string ⟨#[]⟩, .string ⟨#[]⟩, .string ⟨#[]⟩] 40 (0, 0))) := HB3
  replace HX : Hid (Below w.heap.size w w1.drew) := HX.out.drew
  clear HA HC hb2 x0 x1 x2 x3 x4 x5 x6 x7 x8 x9 x10 x11 x12 x13 x14
  generalize w1.drew = w2 at *
  go_wp2_with (refine wpList_store_row rfl 40 (.tmp 4) (.tmp 14) rfl (w.heap.size + 1) #[.int .u16 (f0 : Nat), .int .u16 (f1 : Nat), .int .u16 (f2 : Nat), .int .u16 (f3 : Nat), .int .u32 (f4 : Nat), .int .u32 (f5 : Nat), .int .u32 (f6 : Nat), .int .u32 (f7 : Nat), .int .u16 (f8 : Nat), .int .u16 (f9 : Nat), .int .u32 (f10 : Nat), .int .u32 (f11 : Nat), .string f12, .string f13, .string f14] rfl rfl 40 #[.int .u16 0, .int .u16 0, .int .u16 0, .int .u16 0, .int .u32 0, .int .u32 0, .int .u32 0, .int .u32 0, .int .u16 0, .int .u16 0, .int .u32 0, .int .u32 0, .string ⟨#[]⟩, .string ⟨#[]⟩, .string ⟨#[]⟩] HB3.out info_C rfl (one_C f0 f1 f2 f3 f4 f5 f6 f7 f8 f9 f10 f11 f12 f13 f14) ?_)
  exact bodyPost_ret (results_ctt_row rfl _ _ (w.heap.size + 1) 40 #[.int .u16 (f0 : Nat), .int .u16 (f1 : Nat), .int .u16 (f2 : Nat), .int .u16 (f3 : Nat), .int .u32 (f4 : Nat), .int .u32 (f5 : Nat), .int .u32 (f6 : Nat), .int .u32 (f7 : Nat), .int .u16 (f8 : Nat), .int .u16 (f9 : Nat), .int .u32 (f10 : Nat), .int .u32 (f11 : Nat), .string f12, .string f13, .string f14] (0, 0) _ rfl (heap_setRow_same _ _ _ _ _ HB3.out) Try.underlying40 rfl info_C) rfl ⟨rfl, below_setRow HX.out (Nat.le_succ _) _⟩
set_option maxHeartbeats 4000000 in
theorem doneC_no (f0 f1 f2 f3 f4 f5 f6 f7 f8 f9 f10 f11 : Nat) (f12 f13 f14 : ByteArray) {w0 w : World} {s : ByteArray} {a : Nat} (h : CI w0 s a 3 w) :
    Calls Try.prog 42 #[.agg #[.int .u16 (f0 : Nat), .int .u16 (f1 : Nat), .int .u16 (f2 : Nat), .int .u16 (f3 : Nat), .int .u32 (f4 : Nat), .int .u32 (f5 : Nat), .int .u32 (f6 : Nat), .int .u32 (f7 : Nat), .int .u16 (f8 : Nat), .int .u16 (f9 : Nat), .int .u32 (f10 : Nat), .int .u32 (f11 : Nat), .string f12, .string f13, .string f14], .pointer (some ⟨w0.heap.size, 0, none⟩)] w fun r w' => r = .returned (.tuple #[.agg #[.int .u16 0, .int .u16 0, .int .u16 0, .int .u16 0, .int .u32 0, .int .u32 0, .int .u32 0, .int .u32 0, .int .u16 0, .int .u16 0, .int .u32 0, .int .u32 0, .string ⟨#[]⟩, .string ⟨#[]⟩, .string ⟨#[]⟩], .int .i64 0, .int .i64 3]) ∧ Below w.heap.size w w' := by
  have HB3 : Hid (((w.alloc (.cells #[.int .u16 (f0 : Nat), .int .u16 (f1 : Nat), .int .u16 (f2 : Nat), .int .u16 (f3 : Nat), .int .u32 (f4 : Nat), .int .u32 (f5 : Nat), .int .u32 (f6 : Nat), .int .u32 (f7 : Nat), .int .u16 (f8 : Nat), .int .u16 (f9 : Nat), .int .u32 (f10 : Nat), .int .u32 (f11 : Nat), .string f12, .string f13, .string f14] 40)).alloc (.cells #[.int .u16 0, .int .u16 0, .int .u16 0, .int .u16 0, .int .u32 0, .int .u32 0, .int .u32 0, .int .u32 0, .int .u16 0, .int .u16 0, .int .u32 0, .int .u32 0, .string ⟨#[]⟩, .string ⟨#[]⟩, .string ⟨#[]⟩] 40)).heap[w.heap.size + 1]? = some (.cells #[.int .u16 0, .int .u16 0, .int .u16 0, .int .u16 0, .int .u32 0, .int .u32 0, .int .u32 0, .int .u32 0, .int .u16 0, .int .u16 0, .int .u32 0, .int .u32 0, .string ⟨#[]⟩, .string ⟨#[]⟩, .string ⟨#[]⟩] 40 (0, 0))) := heap_alloc_at (alloc_size _ _).symm
  have HX : Hid (Below w.heap.size w ((w.alloc (.cells #[.int .u16 (f0 : Nat), .int .u16 (f1 : Nat), .int .u16 (f2 : Nat), .int .u16 (f3 : Nat), .int .u32 (f4 : Nat), .int .u32 (f5 : Nat), .int .u32 (f6 : Nat), .int .u32 (f7 : Nat), .int .u16 (f8 : Nat), .int .u16 (f9 : Nat), .int .u32 (f10 : Nat), .int .u32 (f11 : Nat), .string f12, .string f13, .string f14] 40)).alloc (.cells #[.int .u16 0, .int .u16 0, .int .u16 0, .int .u16 0, .int .u32 0, .int .u32 0, .int .u32 0, .int .u32 0, .int .u16 0, .int .u16 0, .int .u32 0, .int .u32 0, .string ⟨#[]⟩, .string ⟨#[]⟩, .string ⟨#[]⟩] 40))) := ((Below.refl _ _).alloc (Nat.le_refl _) _).alloc (by simp) _
  have HC : Hid (CI w0 s a 3 ((w.alloc (.cells #[.int .u16 (f0 : Nat), .int .u16 (f1 : Nat), .int .u16 (f2 : Nat), .int .u16 (f3 : Nat), .int .u32 (f4 : Nat), .int .u32 (f5 : Nat), .int .u32 (f6 : Nat), .int .u32 (f7 : Nat), .int .u16 (f8 : Nat), .int .u16 (f9 : Nat), .int .u32 (f10 : Nat), .int .u32 (f11 : Nat), .string f12, .string f13, .string f14] 40)).alloc (.cells #[.int .u16 0, .int .u16 0, .int .u16 0, .int .u16 0, .int .u32 0, .int .u32 0, .int .u32 0, .int .u32 0, .int .u16 0, .int .u16 0, .int .u32 0, .int .u32 0, .string ⟨#[]⟩, .string ⟨#[]⟩, .string ⟨#[]⟩] 40))) := h.below HX.out
  have HS : Hid (((w.alloc (.cells #[.int .u16 (f0 : Nat), .int .u16 (f1 : Nat), .int .u16 (f2 : Nat), .int .u16 (f3 : Nat), .int .u32 (f4 : Nat), .int .u32 (f5 : Nat), .int .u32 (f6 : Nat), .int .u32 (f7 : Nat), .int .u16 (f8 : Nat), .int .u16 (f9 : Nat), .int .u32 (f10 : Nat), .int .u32 (f11 : Nat), .string f12, .string f13, .string f14] 40)).alloc (.cells #[.int .u16 0, .int .u16 0, .int .u16 0, .int .u16 0, .int .u32 0, .int .u32 0, .int .u32 0, .int .u32 0, .int .u16 0, .int .u16 0, .int .u32 0, .int .u32 0, .string ⟨#[]⟩, .string ⟨#[]⟩, .string ⟨#[]⟩] 40)).heap.size = w.heap.size + 2) := by show _ = _; simp
  clear h
  go_enter Try.func42, Try.ntmps42
  go_wp2_with fail
  generalize (w.alloc (.cells #[.int .u16 (f0 : Nat), .int .u16 (f1 : Nat), .int .u16 (f2 : Nat), .int .u16 (f3 : Nat), .int .u32 (f4 : Nat), .int .u32 (f5 : Nat), .int .u32 (f6 : Nat), .int .u32 (f7 : Nat), .int .u16 (f8 : Nat), .int .u16 (f9 : Nat), .int .u32 (f10 : Nat), .int .u32 (f11 : Nat), .string f12, .string f13, .string f14] 40)).alloc (.cells #[.int .u16 0, .int .u16 0, .int .u16 0, .int .u16 0, .int .u32 0, .int .u32 0, .int .u32 0, .int .u32 0, .int .u16 0, .int .u16 0, .int .u32 0, .int .u32 0, .string ⟨#[]⟩, .string ⟨#[]⟩, .string ⟨#[]⟩] 40) = w1 at *
  refine (err_ci HC.out).mono ?_; rintro r wy ⟨rfl, rfl⟩
  have hb := heap_alloc_new w1 (.cells #[.int .u16 0, .int .u16 0, .int .u16 0, .int .u16 0, .int .u32 0, .int .u32 0, .int .u32 0, .int .u32 0, .int .u16 0, .int .u16 0, .int .u32 0, .int .u32 0, .string ⟨#[]⟩, .string ⟨#[]⟩, .string ⟨#[]⟩] 40)
  replace HB3 : Hid ((w1.alloc (.cells #[.int .u16 0, .int .u16 0, .int .u16 0, .int .u16 0, .int .u32 0, .int .u32 0, .int .u32 0, .int .u32 0, .int .u16 0, .int .u16 0, .int .u32 0, .int .u32 0, .string ⟨#[]⟩, .string ⟨#[]⟩, .string ⟨#[]⟩] 40)).heap[w.heap.size + 1]? = some (.cells #[.int .u16 0, .int .u16 0, .int .u16 0, .int .u16 0, .int .u32 0, .int .u32 0, .int .u32 0, .int .u32 0, .int .u16 0, .int .u16 0, .int .u32 0, .int .u32 0, .string ⟨#[]⟩, .string ⟨#[]⟩, .string ⟨#[]⟩] 40 (0, 0))) := (Below.heap_alloc w1 _ _ (by rw [HS.out]; omega)).trans HB3.out
  replace HC : Hid (CI w0 s a 3 (w1.alloc (.cells #[.int .u16 0, .int .u16 0, .int .u16 0, .int .u16 0, .int .u32 0, .int .u32 0, .int .u32 0, .int .u32 0, .int .u16 0, .int .u16 0, .int .u32 0, .int .u32 0, .string ⟨#[]⟩, .string ⟨#[]⟩, .string ⟨#[]⟩] 40))) := HC.out.below ((Below.refl _ _).alloc (Nat.le_refl _) _)
  replace HX : Hid (Below w.heap.size w (w1.alloc (.cells #[.int .u16 0, .int .u16 0, .int .u16 0, .int .u16 0, .int .u32 0, .int .u32 0, .int .u32 0, .int .u32 0, .int .u16 0, .int .u16 0, .int .u32 0, .int .u32 0, .string ⟨#[]⟩, .string ⟨#[]⟩, .string ⟨#[]⟩] 40))) := HX.out.alloc (by rw [HS.out]; omega) _
  go_wp2_with fail
  rw [HS.out] at *
  generalize w1.alloc (.cells #[.int .u16 0, .int .u16 0, .int .u16 0, .int .u16 0, .int .u32 0, .int .u32 0, .int .u32 0, .int .u32 0, .int .u16 0, .int .u16 0, .int .u32 0, .int .u32 0, .string ⟨#[]⟩, .string ⟨#[]⟩, .string ⟨#[]⟩] 40) = w2 at *
  clear HS
  have x0 : w2.cell? ⟨w.heap.size + 2, 0, none⟩ = some (.int .u16 0) := by rw [Lib.cell_of_heap hb]; rfl
  have x1 : w2.cell? ⟨w.heap.size + 2, 1, none⟩ = some (.int .u16 0) := by rw [Lib.cell_of_heap hb]; rfl
  have x2 : w2.cell? ⟨w.heap.size + 2, 2, none⟩ = some (.int .u16 0) := by rw [Lib.cell_of_heap hb]; rfl
  have x3 : w2.cell? ⟨w.heap.size + 2, 3, none⟩ = some (.int .u16 0) := by rw [Lib.cell_of_heap hb]; rfl
  have x4 : w2.cell? ⟨w.heap.size + 2, 4, none⟩ = some (.int .u32 0) := by rw [Lib.cell_of_heap hb]; rfl
  have x5 : w2.cell? ⟨w.heap.size + 2, 5, none⟩ = some (.int .u32 0) := by rw [Lib.cell_of_heap hb]; rfl
  have x6 : w2.cell? ⟨w.heap.size + 2, 6, none⟩ = some (.int .u32 0) := by rw [Lib.cell_of_heap hb]; rfl
  have x7 : w2.cell? ⟨w.heap.size + 2, 7, none⟩ = some (.int .u32 0) := by rw [Lib.cell_of_heap hb]; rfl
  have x8 : w2.cell? ⟨w.heap.size + 2, 8, none⟩ = some (.int .u16 0) := by rw [Lib.cell_of_heap hb]; rfl
  have x9 : w2.cell? ⟨w.heap.size + 2, 9, none⟩ = some (.int .u16 0) := by rw [Lib.cell_of_heap hb]; rfl
  have x10 : w2.cell? ⟨w.heap.size + 2, 10, none⟩ = some (.int .u32 0) := by rw [Lib.cell_of_heap hb]; rfl
  have x11 : w2.cell? ⟨w.heap.size + 2, 11, none⟩ = some (.int .u32 0) := by rw [Lib.cell_of_heap hb]; rfl
  have x12 : w2.cell? ⟨w.heap.size + 2, 12, none⟩ = some (.string ⟨#[]⟩) := by rw [Lib.cell_of_heap hb]; rfl
  have x13 : w2.cell? ⟨w.heap.size + 2, 13, none⟩ = some (.string ⟨#[]⟩) := by rw [Lib.cell_of_heap hb]; rfl
  have x14 : w2.cell? ⟨w.heap.size + 2, 14, none⟩ = some (.string ⟨#[]⟩) := by rw [Lib.cell_of_heap hb]; rfl
  have HA := Lib.hid (fun n => err_any _ s a 3 (w2.drewN n) (HC.out.cur.drewN n))
  go_still_tail 3, (by kernel_rfl)
  still_call ((HA.out 1).mono fun _ _ h => ⟨h.1, h.2.symm⟩)
  repeat still_step
  refine wpStill_nil ?_
  change wpList _ _ _ _ _ w2.drew
  replace HB3 : Hid (w2.drew.heap[w.heap.size + 1]? = some (.cells #[.int .u16 0, .int .u16 0, .int .u16 0, .int .u16 0, .int .u32 0, .int .u32 0, .int .u32 0, .int .u32 0, .int .u16 0, .int .u16 0, .int .u32 0, .int .u32 0, .string ⟨#[]⟩, .string ⟨#[]⟩, .string ⟨#[]⟩] 40 (0, 0))) := HB3
  replace HX : Hid (Below w.heap.size w w2.drew) := HX.out.drew
  clear HA HC hb x0 x1 x2 x3 x4 x5 x6 x7 x8 x9 x10 x11 x12 x13 x14
  generalize w2.drew = w3 at *
  go_wp2_with (refine wpList_store_row rfl 40 (.tmp 4) (.tmp 11) rfl (w.heap.size + 1) #[.int .u16 0, .int .u16 0, .int .u16 0, .int .u16 0, .int .u32 0, .int .u32 0, .int .u32 0, .int .u32 0, .int .u16 0, .int .u16 0, .int .u32 0, .int .u32 0, .string ⟨#[]⟩, .string ⟨#[]⟩, .string ⟨#[]⟩] rfl rfl 40 #[.int .u16 0, .int .u16 0, .int .u16 0, .int .u16 0, .int .u32 0, .int .u32 0, .int .u32 0, .int .u32 0, .int .u16 0, .int .u16 0, .int .u32 0, .int .u32 0, .string ⟨#[]⟩, .string ⟨#[]⟩, .string ⟨#[]⟩] HB3.out info_C rfl (by simp [Value.oneCell']) ?_)
  exact bodyPost_ret (results_ctt_row rfl _ _ (w.heap.size + 1) 40 #[.int .u16 0, .int .u16 0, .int .u16 0, .int .u16 0, .int .u32 0, .int .u32 0, .int .u32 0, .int .u32 0, .int .u16 0, .int .u16 0, .int .u32 0, .int .u32 0, .string ⟨#[]⟩, .string ⟨#[]⟩, .string ⟨#[]⟩] (0, 0) _ rfl (heap_setRow_same _ _ _ _ _ HB3.out) Try.underlying40 rfl info_C) rfl ⟨rfl, below_setRow HX.out (Nat.le_succ _) _⟩
theorem info_D : (Try.prog.info? 45).map (·.size) = some 3 := by kernel_rfl
theorem one_D (f0 f1 f2 : Nat) : (#[.int .u32 (f0 : Nat), .int .u64 (f1 : Nat), .int .u64 (f2 : Nat)] : Array Value).all (·.oneCell') = true := by simp [Value.oneCell']
set_option maxHeartbeats 4000000 in
theorem doneD_ok (f0 f1 f2 : Nat) {w0 w : World} {s : ByteArray} {a : Nat} (h : CI w0 s a 0 w) :
    Calls Try.prog 44 #[.agg #[.int .u32 (f0 : Nat), .int .u64 (f1 : Nat), .int .u64 (f2 : Nat)], .pointer (some ⟨w0.heap.size, 0, none⟩)] w fun r w' => r = .returned (.tuple #[.agg #[.int .u32 (f0 : Nat), .int .u64 (f1 : Nat), .int .u64 (f2 : Nat)], .int .i64 (a : Nat), .int .i64 0]) ∧ Below w.heap.size w w' := by
  have hb := heap_alloc_new w (.cells #[.int .u32 (f0 : Nat), .int .u64 (f1 : Nat), .int .u64 (f2 : Nat)] 45)
  have hb2 := (Below.heap_alloc (w.alloc (.cells #[.int .u32 (f0 : Nat), .int .u64 (f1 : Nat), .int .u64 (f2 : Nat)] 45)) (.cells #[.int .u32 0, .int .u64 0, .int .u64 0] 45) w.heap.size (by simp)).trans hb
  have HB3 : Hid (((w.alloc (.cells #[.int .u32 (f0 : Nat), .int .u64 (f1 : Nat), .int .u64 (f2 : Nat)] 45)).alloc (.cells #[.int .u32 0, .int .u64 0, .int .u64 0] 45)).heap[w.heap.size + 1]? = some (.cells #[.int .u32 0, .int .u64 0, .int .u64 0] 45 (0, 0))) := heap_alloc_at (alloc_size _ _).symm
  have HX : Hid (Below w.heap.size w ((w.alloc (.cells #[.int .u32 (f0 : Nat), .int .u64 (f1 : Nat), .int .u64 (f2 : Nat)] 45)).alloc (.cells #[.int .u32 0, .int .u64 0, .int .u64 0] 45))) := ((Below.refl _ _).alloc (Nat.le_refl _) _).alloc (by simp) _
  have HC : Hid (CI w0 s a 0 ((w.alloc (.cells #[.int .u32 (f0 : Nat), .int .u64 (f1 : Nat), .int .u64 (f2 : Nat)] 45)).alloc (.cells #[.int .u32 0, .int .u64 0, .int .u64 0] 45))) := h.below HX.out
  clear h hb
  go_enter Try.func44, Try.ntmps44
  go_wp2_with fail
  generalize (w.alloc (.cells #[.int .u32 (f0 : Nat), .int .u64 (f1 : Nat), .int .u64 (f2 : Nat)] 45)).alloc (.cells #[.int .u32 0, .int .u64 0, .int .u64 0] 45) = w1 at *
  refine (err_ci HC.out).mono ?_; rintro r wy ⟨rfl, rfl⟩
  go_wp2_with fail
  have x0 : w1.cell? ⟨w.heap.size, 0, none⟩ = some (.int .u32 (f0 : Nat)) := by rw [Lib.cell_of_heap hb2]; rfl
  have x1 : w1.cell? ⟨w.heap.size, 1, none⟩ = some (.int .u64 (f1 : Nat)) := by rw [Lib.cell_of_heap hb2]; rfl
  have x2 : w1.cell? ⟨w.heap.size, 2, none⟩ = some (.int .u64 (f2 : Nat)) := by rw [Lib.cell_of_heap hb2]; rfl
  have HA := Lib.hid (fun n => at_any _ s a 0 (w1.drewN n) (HC.out.cur.drewN n))
  go_still_tail 3, (by kernel_rfl)
  still_call ((HA.out 1).mono fun _ _ h => ⟨h.1, h.2.symm⟩)
  repeat still_step
  refine wpStill_nil ?_
  change wpList _ _ _ _ _ w1.drew
  replace HB3 : Hid (w1.drew.heap[w.heap.size + 1]? = some (.cells #[.int .u32 0, .int .u64 0, .int .u64 0] 45 (0, 0))) := HB3
  replace HX : Hid (Below w.heap.size w w1.drew) := HX.out.drew
  clear HA HC hb2 x0 x1 x2
  generalize w1.drew = w2 at *
  go_wp2_with (refine wpList_store_row rfl 45 (.tmp 4) (.tmp 14) rfl (w.heap.size + 1) #[.int .u32 (f0 : Nat), .int .u64 (f1 : Nat), .int .u64 (f2 : Nat)] rfl rfl 45 #[.int .u32 0, .int .u64 0, .int .u64 0] HB3.out info_D rfl (one_D f0 f1 f2) ?_)
  exact bodyPost_ret (results_ctt_row rfl _ _ (w.heap.size + 1) 45 #[.int .u32 (f0 : Nat), .int .u64 (f1 : Nat), .int .u64 (f2 : Nat)] (0, 0) _ rfl (heap_setRow_same _ _ _ _ _ HB3.out) Try.underlying45 rfl info_D) rfl ⟨rfl, below_setRow HX.out (Nat.le_succ _) _⟩
set_option maxHeartbeats 4000000 in
theorem doneD_no (f0 f1 f2 : Nat) {w0 w : World} {s : ByteArray} {a : Nat} (h : CI w0 s a 3 w) :
    Calls Try.prog 44 #[.agg #[.int .u32 (f0 : Nat), .int .u64 (f1 : Nat), .int .u64 (f2 : Nat)], .pointer (some ⟨w0.heap.size, 0, none⟩)] w fun r w' => r = .returned (.tuple #[.agg #[.int .u32 0, .int .u64 0, .int .u64 0], .int .i64 0, .int .i64 3]) ∧ Below w.heap.size w w' := by
  have HB3 : Hid (((w.alloc (.cells #[.int .u32 (f0 : Nat), .int .u64 (f1 : Nat), .int .u64 (f2 : Nat)] 45)).alloc (.cells #[.int .u32 0, .int .u64 0, .int .u64 0] 45)).heap[w.heap.size + 1]? = some (.cells #[.int .u32 0, .int .u64 0, .int .u64 0] 45 (0, 0))) := heap_alloc_at (alloc_size _ _).symm
  have HX : Hid (Below w.heap.size w ((w.alloc (.cells #[.int .u32 (f0 : Nat), .int .u64 (f1 : Nat), .int .u64 (f2 : Nat)] 45)).alloc (.cells #[.int .u32 0, .int .u64 0, .int .u64 0] 45))) := ((Below.refl _ _).alloc (Nat.le_refl _) _).alloc (by simp) _
  have HC : Hid (CI w0 s a 3 ((w.alloc (.cells #[.int .u32 (f0 : Nat), .int .u64 (f1 : Nat), .int .u64 (f2 : Nat)] 45)).alloc (.cells #[.int .u32 0, .int .u64 0, .int .u64 0] 45))) := h.below HX.out
  have HS : Hid (((w.alloc (.cells #[.int .u32 (f0 : Nat), .int .u64 (f1 : Nat), .int .u64 (f2 : Nat)] 45)).alloc (.cells #[.int .u32 0, .int .u64 0, .int .u64 0] 45)).heap.size = w.heap.size + 2) := by show _ = _; simp
  clear h
  go_enter Try.func44, Try.ntmps44
  go_wp2_with fail
  generalize (w.alloc (.cells #[.int .u32 (f0 : Nat), .int .u64 (f1 : Nat), .int .u64 (f2 : Nat)] 45)).alloc (.cells #[.int .u32 0, .int .u64 0, .int .u64 0] 45) = w1 at *
  refine (err_ci HC.out).mono ?_; rintro r wy ⟨rfl, rfl⟩
  have hb := heap_alloc_new w1 (.cells #[.int .u32 0, .int .u64 0, .int .u64 0] 45)
  replace HB3 : Hid ((w1.alloc (.cells #[.int .u32 0, .int .u64 0, .int .u64 0] 45)).heap[w.heap.size + 1]? = some (.cells #[.int .u32 0, .int .u64 0, .int .u64 0] 45 (0, 0))) := (Below.heap_alloc w1 _ _ (by rw [HS.out]; omega)).trans HB3.out
  replace HC : Hid (CI w0 s a 3 (w1.alloc (.cells #[.int .u32 0, .int .u64 0, .int .u64 0] 45))) := HC.out.below ((Below.refl _ _).alloc (Nat.le_refl _) _)
  replace HX : Hid (Below w.heap.size w (w1.alloc (.cells #[.int .u32 0, .int .u64 0, .int .u64 0] 45))) := HX.out.alloc (by rw [HS.out]; omega) _
  go_wp2_with fail
  rw [HS.out] at *
  generalize w1.alloc (.cells #[.int .u32 0, .int .u64 0, .int .u64 0] 45) = w2 at *
  clear HS
  have x0 : w2.cell? ⟨w.heap.size + 2, 0, none⟩ = some (.int .u32 0) := by rw [Lib.cell_of_heap hb]; rfl
  have x1 : w2.cell? ⟨w.heap.size + 2, 1, none⟩ = some (.int .u64 0) := by rw [Lib.cell_of_heap hb]; rfl
  have x2 : w2.cell? ⟨w.heap.size + 2, 2, none⟩ = some (.int .u64 0) := by rw [Lib.cell_of_heap hb]; rfl
  have HA := Lib.hid (fun n => err_any _ s a 3 (w2.drewN n) (HC.out.cur.drewN n))
  go_still_tail 3, (by kernel_rfl)
  still_call ((HA.out 1).mono fun _ _ h => ⟨h.1, h.2.symm⟩)
  repeat still_step
  refine wpStill_nil ?_
  change wpList _ _ _ _ _ w2.drew
  replace HB3 : Hid (w2.drew.heap[w.heap.size + 1]? = some (.cells #[.int .u32 0, .int .u64 0, .int .u64 0] 45 (0, 0))) := HB3
  replace HX : Hid (Below w.heap.size w w2.drew) := HX.out.drew
  clear HA HC hb x0 x1 x2
  generalize w2.drew = w3 at *
  go_wp2_with (refine wpList_store_row rfl 45 (.tmp 4) (.tmp 11) rfl (w.heap.size + 1) #[.int .u32 0, .int .u64 0, .int .u64 0] rfl rfl 45 #[.int .u32 0, .int .u64 0, .int .u64 0] HB3.out info_D rfl (by simp [Value.oneCell']) ?_)
  exact bodyPost_ret (results_ctt_row rfl _ _ (w.heap.size + 1) 45 #[.int .u32 0, .int .u64 0, .int .u64 0] (0, 0) _ rfl (heap_setRow_same _ _ _ _ _ HB3.out) Try.underlying45 rfl info_D) rfl ⟨rfl, below_setRow HX.out (Nat.le_succ _) _⟩
end Go.Proofs.Ytklmfncljebgnaa
