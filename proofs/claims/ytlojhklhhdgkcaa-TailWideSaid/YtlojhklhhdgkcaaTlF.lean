/-
  Contracts of package tail: the record's methods.
-/
import Derived.Test.YtlojhklhhdgkcaaTlE
import Derived.Test.YtlojhklhhdgkcaaHdN
namespace Go.Proofs.Ytlojhklhhdgkcaa
set_option maxRecDepth 100000
set_option linter.unusedSimpArgs false
set_option linter.unusedVariables false
open Go.RowKit Go.Joins Go.Deep Go.Op
theorem info_rec : (Try.prog.info? 41).map (·.size) = some 6 := by kernel_rfl
theorem info_endv : (Try.prog.info? 29).map (·.size) = some 6 := by kernel_rfl
theorem one_rec (a b c d e f : Nat) : (#[.int .u32 (a : Nat), .int .u32 (b : Nat), .int .u64 (c : Nat), .int .u64 (d : Nat), .int .u64 (e : Nat), .int .u64 (f : Nat)] : Array Value).all (·.oneCell') = true := by simp [Value.oneCell']
/-- Is all on one disk? -/
def alB (a b c d : Nat) : Bool := decide (a = 0) && (decide (b = 0) && decide (c = d))
def asB (d e f : Nat) : Bool := decide (d = 65535) || (decide (e = 4294967295) || decide (f = 4294967295))
def agB (d e f d2 e2 f2 : Nat) : Bool := (decide (d = 65535) || decide (d = d2)) && ((decide (e = 4294967295) || decide (e = e2)) && (decide (f = 4294967295) || decide (f = f2)))
theorem beqN (a b : Nat) : (((a : Nat) : Int) == (b : Nat)) = decide (a = b) := by rw [Bool.eq_iff_iff, beq_iff_eq, decide_eq_true_iff]; omega
theorem beqL (a : Nat) (k : Nat) : (((a : Nat) : Int) == (k : Int)) = decide (a = k) := beqN a k
set_option maxHeartbeats 4000000 in
theorem alone_any (a b c d e f : Nat) (w : World) :
    Calls Try.prog 12 #[.agg #[.int .u32 (a : Nat), .int .u32 (b : Nat), .int .u64 (c : Nat), .int .u64 (d : Nat), .int .u64 (e : Nat), .int .u64 (f : Nat)]] w fun r w' => r = .returned (.bool (alB a b c d)) ∧ Below w.heap.size w w' := by
  have hk := heap_alloc_new w (.cells #[.int .u32 (a : Nat), .int .u32 (b : Nat), .int .u64 (c : Nat), .int .u64 (d : Nat), .int .u64 (e : Nat), .int .u64 (f : Nat)] 41)
  have HB : Hid (Below w.heap.size w (w.alloc (.cells #[.int .u32 (a : Nat), .int .u32 (b : Nat), .int .u64 (c : Nat), .int .u64 (d : Nat), .int .u64 (e : Nat), .int .u64 (f : Nat)] 41))) := (Below.refl _ _).alloc (Nat.le_refl _) _
  have k0 : (w.alloc (.cells #[.int .u32 (a : Nat), .int .u32 (b : Nat), .int .u64 (c : Nat), .int .u64 (d : Nat), .int .u64 (e : Nat), .int .u64 (f : Nat)] 41)).cell? ⟨w.heap.size, 0, none⟩ = some (.int .u32 (a : Nat)) := by rw [Lib.cell_of_heap hk]; rfl
  have k1 : (w.alloc (.cells #[.int .u32 (a : Nat), .int .u32 (b : Nat), .int .u64 (c : Nat), .int .u64 (d : Nat), .int .u64 (e : Nat), .int .u64 (f : Nat)] 41)).cell? ⟨w.heap.size, 1, none⟩ = some (.int .u32 (b : Nat)) := by rw [Lib.cell_of_heap hk]; rfl
  have k2 : (w.alloc (.cells #[.int .u32 (a : Nat), .int .u32 (b : Nat), .int .u64 (c : Nat), .int .u64 (d : Nat), .int .u64 (e : Nat), .int .u64 (f : Nat)] 41)).cell? ⟨w.heap.size, 2, none⟩ = some (.int .u64 (c : Nat)) := by rw [Lib.cell_of_heap hk]; rfl
  have k3 : (w.alloc (.cells #[.int .u32 (a : Nat), .int .u32 (b : Nat), .int .u64 (c : Nat), .int .u64 (d : Nat), .int .u64 (e : Nat), .int .u64 (f : Nat)] 41)).cell? ⟨w.heap.size, 3, none⟩ = some (.int .u64 (d : Nat)) := by rw [Lib.cell_of_heap hk]; rfl
  have k4 : (w.alloc (.cells #[.int .u32 (a : Nat), .int .u32 (b : Nat), .int .u64 (c : Nat), .int .u64 (d : Nat), .int .u64 (e : Nat), .int .u64 (f : Nat)] 41)).cell? ⟨w.heap.size, 4, none⟩ = some (.int .u64 (e : Nat)) := by rw [Lib.cell_of_heap hk]; rfl
  have k5 : (w.alloc (.cells #[.int .u32 (a : Nat), .int .u32 (b : Nat), .int .u64 (c : Nat), .int .u64 (d : Nat), .int .u64 (e : Nat), .int .u64 (f : Nat)] 41)).cell? ⟨w.heap.size, 5, none⟩ = some (.int .u64 (f : Nat)) := by rw [Lib.cell_of_heap hk]; rfl
  have t0 : (((a : Nat) : Int) == 0) = decide (a = 0) := beqL a 0
  have t1 : (((b : Nat) : Int) == 0) = decide (b = 0) := beqL b 0
  have t2 : (((c : Nat) : Int) == (d : Nat)) = decide (c = d) := beqN _ _
  have HF : Hid (alB a b c d = (decide (a = 0) && (decide (b = 0) && decide (c = d)))) := rfl
  generalize decide (a = 0) = p0 at *
  generalize decide (b = 0) = p1 at *
  generalize decide (c = d) = p2 at *
  clear hk
  go_enter Try.func12, Try.ntmps12
  cases p0 <;> cases p1 <;> cases p2 <;>
  · go_wp2_with fail
    go_ret
    rw [HF.out]
    exact ⟨rfl, HB.out⟩
set_option maxHeartbeats 4000000 in
theorem asks_any (a b c d e f : Nat) (w : World) :
    Calls Try.prog 13 #[.agg #[.int .u32 (a : Nat), .int .u32 (b : Nat), .int .u64 (c : Nat), .int .u64 (d : Nat), .int .u64 (e : Nat), .int .u64 (f : Nat)]] w fun r w' => r = .returned (.bool (asB d e f)) ∧ Below w.heap.size w w' := by
  have hk := heap_alloc_new w (.cells #[.int .u32 (a : Nat), .int .u32 (b : Nat), .int .u64 (c : Nat), .int .u64 (d : Nat), .int .u64 (e : Nat), .int .u64 (f : Nat)] 41)
  have HB : Hid (Below w.heap.size w (w.alloc (.cells #[.int .u32 (a : Nat), .int .u32 (b : Nat), .int .u64 (c : Nat), .int .u64 (d : Nat), .int .u64 (e : Nat), .int .u64 (f : Nat)] 41))) := (Below.refl _ _).alloc (Nat.le_refl _) _
  have k0 : (w.alloc (.cells #[.int .u32 (a : Nat), .int .u32 (b : Nat), .int .u64 (c : Nat), .int .u64 (d : Nat), .int .u64 (e : Nat), .int .u64 (f : Nat)] 41)).cell? ⟨w.heap.size, 0, none⟩ = some (.int .u32 (a : Nat)) := by rw [Lib.cell_of_heap hk]; rfl
  have k1 : (w.alloc (.cells #[.int .u32 (a : Nat), .int .u32 (b : Nat), .int .u64 (c : Nat), .int .u64 (d : Nat), .int .u64 (e : Nat), .int .u64 (f : Nat)] 41)).cell? ⟨w.heap.size, 1, none⟩ = some (.int .u32 (b : Nat)) := by rw [Lib.cell_of_heap hk]; rfl
  have k2 : (w.alloc (.cells #[.int .u32 (a : Nat), .int .u32 (b : Nat), .int .u64 (c : Nat), .int .u64 (d : Nat), .int .u64 (e : Nat), .int .u64 (f : Nat)] 41)).cell? ⟨w.heap.size, 2, none⟩ = some (.int .u64 (c : Nat)) := by rw [Lib.cell_of_heap hk]; rfl
  have k3 : (w.alloc (.cells #[.int .u32 (a : Nat), .int .u32 (b : Nat), .int .u64 (c : Nat), .int .u64 (d : Nat), .int .u64 (e : Nat), .int .u64 (f : Nat)] 41)).cell? ⟨w.heap.size, 3, none⟩ = some (.int .u64 (d : Nat)) := by rw [Lib.cell_of_heap hk]; rfl
  have k4 : (w.alloc (.cells #[.int .u32 (a : Nat), .int .u32 (b : Nat), .int .u64 (c : Nat), .int .u64 (d : Nat), .int .u64 (e : Nat), .int .u64 (f : Nat)] 41)).cell? ⟨w.heap.size, 4, none⟩ = some (.int .u64 (e : Nat)) := by rw [Lib.cell_of_heap hk]; rfl
  have k5 : (w.alloc (.cells #[.int .u32 (a : Nat), .int .u32 (b : Nat), .int .u64 (c : Nat), .int .u64 (d : Nat), .int .u64 (e : Nat), .int .u64 (f : Nat)] 41)).cell? ⟨w.heap.size, 5, none⟩ = some (.int .u64 (f : Nat)) := by rw [Lib.cell_of_heap hk]; rfl
  have t0 : (((d : Nat) : Int) == 65535) = decide (d = 65535) := beqL d 65535
  have t1 : (((e : Nat) : Int) == 4294967295) = decide (e = 4294967295) := beqL e 4294967295
  have t2 : (((f : Nat) : Int) == 4294967295) = decide (f = 4294967295) := beqL f 4294967295
  have HF : Hid (asB d e f = (decide (d = 65535) || (decide (e = 4294967295) || decide (f = 4294967295)))) := rfl
  generalize decide (d = 65535) = p0 at *
  generalize decide (e = 4294967295) = p1 at *
  generalize decide (f = 4294967295) = p2 at *
  clear hk
  go_enter Try.func13, Try.ntmps13
  cases p0 <;> cases p1 <;> cases p2 <;>
  · go_wp2_with fail
    go_ret
    rw [HF.out]
    exact ⟨rfl, HB.out⟩
set_option maxHeartbeats 8000000 in
theorem agrees_any (a b c d e f a2 b2 c2 d2 e2 f2 : Nat) (w : World) :
    Calls Try.prog 16 #[.agg #[.int .u32 (a : Nat), .int .u32 (b : Nat), .int .u64 (c : Nat), .int .u64 (d : Nat), .int .u64 (e : Nat), .int .u64 (f : Nat)], .agg #[.int .u32 (a2 : Nat), .int .u32 (b2 : Nat), .int .u64 (c2 : Nat), .int .u64 (d2 : Nat), .int .u64 (e2 : Nat), .int .u64 (f2 : Nat)]] w fun r w' => r = .returned (.bool (agB d e f d2 e2 f2)) ∧ Below w.heap.size w w' := by
  have hk0 := heap_alloc_new w (.cells #[.int .u32 (a : Nat), .int .u32 (b : Nat), .int .u64 (c : Nat), .int .u64 (d : Nat), .int .u64 (e : Nat), .int .u64 (f : Nat)] 41)
  have hk : ((w.alloc (.cells #[.int .u32 (a : Nat), .int .u32 (b : Nat), .int .u64 (c : Nat), .int .u64 (d : Nat), .int .u64 (e : Nat), .int .u64 (f : Nat)] 41)).alloc (.cells #[.int .u32 (a2 : Nat), .int .u32 (b2 : Nat), .int .u64 (c2 : Nat), .int .u64 (d2 : Nat), .int .u64 (e2 : Nat), .int .u64 (f2 : Nat)] 41)).heap[w.heap.size]? = some (.cells #[.int .u32 (a : Nat), .int .u32 (b : Nat), .int .u64 (c : Nat), .int .u64 (d : Nat), .int .u64 (e : Nat), .int .u64 (f : Nat)] 41 (0, 0)) := (Below.heap_alloc _ _ _ (by simp)).trans hk0
  have hm : ((w.alloc (.cells #[.int .u32 (a : Nat), .int .u32 (b : Nat), .int .u64 (c : Nat), .int .u64 (d : Nat), .int .u64 (e : Nat), .int .u64 (f : Nat)] 41)).alloc (.cells #[.int .u32 (a2 : Nat), .int .u32 (b2 : Nat), .int .u64 (c2 : Nat), .int .u64 (d2 : Nat), .int .u64 (e2 : Nat), .int .u64 (f2 : Nat)] 41)).heap[w.heap.size + 1]? = some (.cells #[.int .u32 (a2 : Nat), .int .u32 (b2 : Nat), .int .u64 (c2 : Nat), .int .u64 (d2 : Nat), .int .u64 (e2 : Nat), .int .u64 (f2 : Nat)] 41 (0, 0)) := heap_alloc_at (alloc_size _ _).symm
  have HB : Hid (Below w.heap.size w ((w.alloc (.cells #[.int .u32 (a : Nat), .int .u32 (b : Nat), .int .u64 (c : Nat), .int .u64 (d : Nat), .int .u64 (e : Nat), .int .u64 (f : Nat)] 41)).alloc (.cells #[.int .u32 (a2 : Nat), .int .u32 (b2 : Nat), .int .u64 (c2 : Nat), .int .u64 (d2 : Nat), .int .u64 (e2 : Nat), .int .u64 (f2 : Nat)] 41))) := ((Below.refl _ _).alloc (Nat.le_refl _) _).alloc (by simp) _
  have k0 : ((w.alloc (.cells #[.int .u32 (a : Nat), .int .u32 (b : Nat), .int .u64 (c : Nat), .int .u64 (d : Nat), .int .u64 (e : Nat), .int .u64 (f : Nat)] 41)).alloc (.cells #[.int .u32 (a2 : Nat), .int .u32 (b2 : Nat), .int .u64 (c2 : Nat), .int .u64 (d2 : Nat), .int .u64 (e2 : Nat), .int .u64 (f2 : Nat)] 41)).cell? ⟨w.heap.size, 0, none⟩ = some (.int .u32 (a : Nat)) := by rw [Lib.cell_of_heap hk]; rfl
  have k1 : ((w.alloc (.cells #[.int .u32 (a : Nat), .int .u32 (b : Nat), .int .u64 (c : Nat), .int .u64 (d : Nat), .int .u64 (e : Nat), .int .u64 (f : Nat)] 41)).alloc (.cells #[.int .u32 (a2 : Nat), .int .u32 (b2 : Nat), .int .u64 (c2 : Nat), .int .u64 (d2 : Nat), .int .u64 (e2 : Nat), .int .u64 (f2 : Nat)] 41)).cell? ⟨w.heap.size, 1, none⟩ = some (.int .u32 (b : Nat)) := by rw [Lib.cell_of_heap hk]; rfl
  have k2 : ((w.alloc (.cells #[.int .u32 (a : Nat), .int .u32 (b : Nat), .int .u64 (c : Nat), .int .u64 (d : Nat), .int .u64 (e : Nat), .int .u64 (f : Nat)] 41)).alloc (.cells #[.int .u32 (a2 : Nat), .int .u32 (b2 : Nat), .int .u64 (c2 : Nat), .int .u64 (d2 : Nat), .int .u64 (e2 : Nat), .int .u64 (f2 : Nat)] 41)).cell? ⟨w.heap.size, 2, none⟩ = some (.int .u64 (c : Nat)) := by rw [Lib.cell_of_heap hk]; rfl
  have k3 : ((w.alloc (.cells #[.int .u32 (a : Nat), .int .u32 (b : Nat), .int .u64 (c : Nat), .int .u64 (d : Nat), .int .u64 (e : Nat), .int .u64 (f : Nat)] 41)).alloc (.cells #[.int .u32 (a2 : Nat), .int .u32 (b2 : Nat), .int .u64 (c2 : Nat), .int .u64 (d2 : Nat), .int .u64 (e2 : Nat), .int .u64 (f2 : Nat)] 41)).cell? ⟨w.heap.size, 3, none⟩ = some (.int .u64 (d : Nat)) := by rw [Lib.cell_of_heap hk]; rfl
  have k4 : ((w.alloc (.cells #[.int .u32 (a : Nat), .int .u32 (b : Nat), .int .u64 (c : Nat), .int .u64 (d : Nat), .int .u64 (e : Nat), .int .u64 (f : Nat)] 41)).alloc (.cells #[.int .u32 (a2 : Nat), .int .u32 (b2 : Nat), .int .u64 (c2 : Nat), .int .u64 (d2 : Nat), .int .u64 (e2 : Nat), .int .u64 (f2 : Nat)] 41)).cell? ⟨w.heap.size, 4, none⟩ = some (.int .u64 (e : Nat)) := by rw [Lib.cell_of_heap hk]; rfl
  have k5 : ((w.alloc (.cells #[.int .u32 (a : Nat), .int .u32 (b : Nat), .int .u64 (c : Nat), .int .u64 (d : Nat), .int .u64 (e : Nat), .int .u64 (f : Nat)] 41)).alloc (.cells #[.int .u32 (a2 : Nat), .int .u32 (b2 : Nat), .int .u64 (c2 : Nat), .int .u64 (d2 : Nat), .int .u64 (e2 : Nat), .int .u64 (f2 : Nat)] 41)).cell? ⟨w.heap.size, 5, none⟩ = some (.int .u64 (f : Nat)) := by rw [Lib.cell_of_heap hk]; rfl
  have m0 : ((w.alloc (.cells #[.int .u32 (a : Nat), .int .u32 (b : Nat), .int .u64 (c : Nat), .int .u64 (d : Nat), .int .u64 (e : Nat), .int .u64 (f : Nat)] 41)).alloc (.cells #[.int .u32 (a2 : Nat), .int .u32 (b2 : Nat), .int .u64 (c2 : Nat), .int .u64 (d2 : Nat), .int .u64 (e2 : Nat), .int .u64 (f2 : Nat)] 41)).cell? ⟨w.heap.size + 1, 0, none⟩ = some (.int .u32 (a2 : Nat)) := by rw [Lib.cell_of_heap hm]; rfl
  have m1 : ((w.alloc (.cells #[.int .u32 (a : Nat), .int .u32 (b : Nat), .int .u64 (c : Nat), .int .u64 (d : Nat), .int .u64 (e : Nat), .int .u64 (f : Nat)] 41)).alloc (.cells #[.int .u32 (a2 : Nat), .int .u32 (b2 : Nat), .int .u64 (c2 : Nat), .int .u64 (d2 : Nat), .int .u64 (e2 : Nat), .int .u64 (f2 : Nat)] 41)).cell? ⟨w.heap.size + 1, 1, none⟩ = some (.int .u32 (b2 : Nat)) := by rw [Lib.cell_of_heap hm]; rfl
  have m2 : ((w.alloc (.cells #[.int .u32 (a : Nat), .int .u32 (b : Nat), .int .u64 (c : Nat), .int .u64 (d : Nat), .int .u64 (e : Nat), .int .u64 (f : Nat)] 41)).alloc (.cells #[.int .u32 (a2 : Nat), .int .u32 (b2 : Nat), .int .u64 (c2 : Nat), .int .u64 (d2 : Nat), .int .u64 (e2 : Nat), .int .u64 (f2 : Nat)] 41)).cell? ⟨w.heap.size + 1, 2, none⟩ = some (.int .u64 (c2 : Nat)) := by rw [Lib.cell_of_heap hm]; rfl
  have m3 : ((w.alloc (.cells #[.int .u32 (a : Nat), .int .u32 (b : Nat), .int .u64 (c : Nat), .int .u64 (d : Nat), .int .u64 (e : Nat), .int .u64 (f : Nat)] 41)).alloc (.cells #[.int .u32 (a2 : Nat), .int .u32 (b2 : Nat), .int .u64 (c2 : Nat), .int .u64 (d2 : Nat), .int .u64 (e2 : Nat), .int .u64 (f2 : Nat)] 41)).cell? ⟨w.heap.size + 1, 3, none⟩ = some (.int .u64 (d2 : Nat)) := by rw [Lib.cell_of_heap hm]; rfl
  have m4 : ((w.alloc (.cells #[.int .u32 (a : Nat), .int .u32 (b : Nat), .int .u64 (c : Nat), .int .u64 (d : Nat), .int .u64 (e : Nat), .int .u64 (f : Nat)] 41)).alloc (.cells #[.int .u32 (a2 : Nat), .int .u32 (b2 : Nat), .int .u64 (c2 : Nat), .int .u64 (d2 : Nat), .int .u64 (e2 : Nat), .int .u64 (f2 : Nat)] 41)).cell? ⟨w.heap.size + 1, 4, none⟩ = some (.int .u64 (e2 : Nat)) := by rw [Lib.cell_of_heap hm]; rfl
  have m5 : ((w.alloc (.cells #[.int .u32 (a : Nat), .int .u32 (b : Nat), .int .u64 (c : Nat), .int .u64 (d : Nat), .int .u64 (e : Nat), .int .u64 (f : Nat)] 41)).alloc (.cells #[.int .u32 (a2 : Nat), .int .u32 (b2 : Nat), .int .u64 (c2 : Nat), .int .u64 (d2 : Nat), .int .u64 (e2 : Nat), .int .u64 (f2 : Nat)] 41)).cell? ⟨w.heap.size + 1, 5, none⟩ = some (.int .u64 (f2 : Nat)) := by rw [Lib.cell_of_heap hm]; rfl
  have t0 : (((d : Nat) : Int) == 65535) = decide (d = 65535) := beqL d 65535
  have t1 : (((d : Nat) : Int) == (d2 : Nat)) = decide (d = d2) := beqN _ _
  have t2 : (((e : Nat) : Int) == 4294967295) = decide (e = 4294967295) := beqL e 4294967295
  have t3 : (((e : Nat) : Int) == (e2 : Nat)) = decide (e = e2) := beqN _ _
  have t4 : (((f : Nat) : Int) == 4294967295) = decide (f = 4294967295) := beqL f 4294967295
  have t5 : (((f : Nat) : Int) == (f2 : Nat)) = decide (f = f2) := beqN _ _
  have HF : Hid (agB d e f d2 e2 f2 = ((decide (d = 65535) || decide (d = d2)) && ((decide (e = 4294967295) || decide (e = e2)) && (decide (f = 4294967295) || decide (f = f2))))) := rfl
  generalize decide (d = 65535) = p0 at *
  generalize decide (d = d2) = p1 at *
  generalize decide (e = 4294967295) = p2 at *
  generalize decide (e = e2) = p3 at *
  generalize decide (f = 4294967295) = p4 at *
  generalize decide (f = f2) = p5 at *
  clear hk0 hk hm
  go_enter Try.func16, Try.ntmps16
  cases p0 <;> cases p1 <;> cases p2 <;> cases p3 <;> cases p4 <;> cases p5 <;>
  · go_wp2_with fail
    go_ret
    rw [HF.out]
    exact ⟨rfl, HB.out⟩
set_option maxHeartbeats 4000000 in
theorem end_any (a b c d e f : Nat) (at0 : Int) (s : ByteArray) (wd : Bool) (w : World) :
    Calls Try.prog 14 #[.agg #[.int .u32 (a : Nat), .int .u32 (b : Nat), .int .u64 (c : Nat), .int .u64 (d : Nat), .int .u64 (e : Nat), .int .u64 (f : Nat)], .int .i64 at0, .string s, .bool wd] w fun r w' => r = .returned (.agg #[.int .i64 at0, .int .u64 (d : Nat), .int .u64 (e : Nat), .int .u64 (f : Nat), .string s, .bool wd]) ∧ Below w.heap.size w w' := by
  have hk0 := heap_alloc_new w (.cells #[.int .u32 (a : Nat), .int .u32 (b : Nat), .int .u64 (c : Nat), .int .u64 (d : Nat), .int .u64 (e : Nat), .int .u64 (f : Nat)] 41)
  have hk : ((w.alloc (.cells #[.int .u32 (a : Nat), .int .u32 (b : Nat), .int .u64 (c : Nat), .int .u64 (d : Nat), .int .u64 (e : Nat), .int .u64 (f : Nat)] 41)).alloc (.cells #[.int .i64 0, .int .u64 0, .int .u64 0, .int .u64 0, .string ⟨#[]⟩, .bool false] 29)).heap[w.heap.size]? = some (.cells #[.int .u32 (a : Nat), .int .u32 (b : Nat), .int .u64 (c : Nat), .int .u64 (d : Nat), .int .u64 (e : Nat), .int .u64 (f : Nat)] 41 (0, 0)) := (Below.heap_alloc _ _ _ (by simp)).trans hk0
  have HR : Hid (((w.alloc (.cells #[.int .u32 (a : Nat), .int .u32 (b : Nat), .int .u64 (c : Nat), .int .u64 (d : Nat), .int .u64 (e : Nat), .int .u64 (f : Nat)] 41)).alloc (.cells #[.int .i64 0, .int .u64 0, .int .u64 0, .int .u64 0, .string ⟨#[]⟩, .bool false] 29)).heap[w.heap.size + 1]? = some (.cells #[.int .i64 0, .int .u64 0, .int .u64 0, .int .u64 0, .string ⟨#[]⟩, .bool false] 29 (0, 0))) := heap_alloc_at (alloc_size _ _).symm
  have HB : Hid (Below w.heap.size w ((w.alloc (.cells #[.int .u32 (a : Nat), .int .u32 (b : Nat), .int .u64 (c : Nat), .int .u64 (d : Nat), .int .u64 (e : Nat), .int .u64 (f : Nat)] 41)).alloc (.cells #[.int .i64 0, .int .u64 0, .int .u64 0, .int .u64 0, .string ⟨#[]⟩, .bool false] 29))) := ((Below.refl _ _).alloc (Nat.le_refl _) _).alloc (by simp) _
  have k0 : ((w.alloc (.cells #[.int .u32 (a : Nat), .int .u32 (b : Nat), .int .u64 (c : Nat), .int .u64 (d : Nat), .int .u64 (e : Nat), .int .u64 (f : Nat)] 41)).alloc (.cells #[.int .i64 0, .int .u64 0, .int .u64 0, .int .u64 0, .string ⟨#[]⟩, .bool false] 29)).cell? ⟨w.heap.size, 0, none⟩ = some (.int .u32 (a : Nat)) := by rw [Lib.cell_of_heap hk]; rfl
  have k1 : ((w.alloc (.cells #[.int .u32 (a : Nat), .int .u32 (b : Nat), .int .u64 (c : Nat), .int .u64 (d : Nat), .int .u64 (e : Nat), .int .u64 (f : Nat)] 41)).alloc (.cells #[.int .i64 0, .int .u64 0, .int .u64 0, .int .u64 0, .string ⟨#[]⟩, .bool false] 29)).cell? ⟨w.heap.size, 1, none⟩ = some (.int .u32 (b : Nat)) := by rw [Lib.cell_of_heap hk]; rfl
  have k2 : ((w.alloc (.cells #[.int .u32 (a : Nat), .int .u32 (b : Nat), .int .u64 (c : Nat), .int .u64 (d : Nat), .int .u64 (e : Nat), .int .u64 (f : Nat)] 41)).alloc (.cells #[.int .i64 0, .int .u64 0, .int .u64 0, .int .u64 0, .string ⟨#[]⟩, .bool false] 29)).cell? ⟨w.heap.size, 2, none⟩ = some (.int .u64 (c : Nat)) := by rw [Lib.cell_of_heap hk]; rfl
  have k3 : ((w.alloc (.cells #[.int .u32 (a : Nat), .int .u32 (b : Nat), .int .u64 (c : Nat), .int .u64 (d : Nat), .int .u64 (e : Nat), .int .u64 (f : Nat)] 41)).alloc (.cells #[.int .i64 0, .int .u64 0, .int .u64 0, .int .u64 0, .string ⟨#[]⟩, .bool false] 29)).cell? ⟨w.heap.size, 3, none⟩ = some (.int .u64 (d : Nat)) := by rw [Lib.cell_of_heap hk]; rfl
  have k4 : ((w.alloc (.cells #[.int .u32 (a : Nat), .int .u32 (b : Nat), .int .u64 (c : Nat), .int .u64 (d : Nat), .int .u64 (e : Nat), .int .u64 (f : Nat)] 41)).alloc (.cells #[.int .i64 0, .int .u64 0, .int .u64 0, .int .u64 0, .string ⟨#[]⟩, .bool false] 29)).cell? ⟨w.heap.size, 4, none⟩ = some (.int .u64 (e : Nat)) := by rw [Lib.cell_of_heap hk]; rfl
  have k5 : ((w.alloc (.cells #[.int .u32 (a : Nat), .int .u32 (b : Nat), .int .u64 (c : Nat), .int .u64 (d : Nat), .int .u64 (e : Nat), .int .u64 (f : Nat)] 41)).alloc (.cells #[.int .i64 0, .int .u64 0, .int .u64 0, .int .u64 0, .string ⟨#[]⟩, .bool false] 29)).cell? ⟨w.heap.size, 5, none⟩ = some (.int .u64 (f : Nat)) := by rw [Lib.cell_of_heap hk]; rfl
  clear hk0 hk
  go_enter Try.func14, Try.ntmps14
  go_wp2_with (refine wpList_store_row rfl 29 (.tmp 8) (.tmp 18) rfl (w.heap.size + 1) #[.int .i64 at0, .int .u64 (d : Nat), .int .u64 (e : Nat), .int .u64 (f : Nat), .string s, .bool wd] rfl rfl 29 #[.int .i64 0, .int .u64 0, .int .u64 0, .int .u64 0, .string ⟨#[]⟩, .bool false] HR.out info_endv rfl (by simp [Value.oneCell']) ?_)
  exact bodyPost_ret (results_cell_row rfl _ _ (w.heap.size + 1) 29 #[.int .i64 at0, .int .u64 (d : Nat), .int .u64 (e : Nat), .int .u64 (f : Nat), .string s, .bool wd] (0, 0) _ rfl (heap_setRow_same _ _ _ _ _ HR.out) Try.underlying29 rfl info_endv) rfl ⟨rfl, below_setRow HB.out (Nat.le_succ _) _⟩
end Go.Proofs.Ytlojhklhhdgkcaa
