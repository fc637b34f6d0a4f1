/-
  Contracts of package header: done.
-/
import Derived.Test.YtlojhklhhdgkcaaHdM
import Derived.StillTailTactics
import Derived.Laws.Tables
namespace Go.Proofs.Ytlojhklhhdgkcaa
set_option maxRecDepth 100000
set_option linter.unusedSimpArgs false
open Go.RowKit Go.Joins Go.Deep Go.Op

/-- What three results come to: a struct that lies in a block, two numbers. -/
theorem results_ctt_row {P : Program} {fn : Func} {p u v : Tmp} {ty : TypeId} (h : fn.results = #[.cell p ty, .tmp u, .tmp v]) (tmps : Array Value) (w : World) (g : Nat) (t : TypeId) (cs : Array Value) (fr : Nat × Nat) (d : TypeDesc)
    (hp : tmps.getD p undef = .pointer (some ⟨g, 0, none⟩)) (hg : w.heap[g]? = some (.cells cs t fr))
    (hu : P.underlying ty = some d) (hd : (match d with | .struct _ | .array _ _ => true | _ => false) = true) (hi : (P.info? ty).map (·.size) = some cs.size) :
    (results fn tmps).run P w = .ok (.tuple #[.agg cs, tmps.getD u undef, tmps.getD v undef]) w := by
  have hp' : tmps[p]?.getD undef = .pointer (some ⟨g, 0, none⟩) := by simpa using hp
  simp [results, h, hp', asAddr, run_loadVar_row w g t ty cs fr d hg hu hd hi]
theorem heap_setRow_same (w : World) (g : Nat) (old cs : Array Value) (t : TypeId) (h : w.heap[g]? = some (.cells old t (0, 0))) : (w.setRow g cs).heap[g]? = some (.cells cs t (0, 0)) := setRow_heap _ _ _ _ _ _ h
theorem alloc_size (w : World) (o : Obj) : (w.alloc o).heap.size = w.heap.size + 1 := by simp
theorem heap_alloc_at {w : World} {o : Obj} {k : Nat} (h : k = w.heap.size) : (w.alloc o).heap[k]? = some o := by subst h; exact heap_alloc_new _ _
theorem one_L (f0 f1 f2 f3 f4 f5 f6 : Nat) (f7 f8 : ByteArray) : (#[.int .u16 (f0 : Nat), .int .u16 (f1 : Nat), .int .u16 (f2 : Nat), .int .u32 (f3 : Nat), .int .u32 (f4 : Nat), .int .u32 (f5 : Nat), .int .u32 (f6 : Nat), .string f7, .string f8] : Array Value).all (·.oneCell') = true := by simp [Value.oneCell']
theorem one_C (f0 f1 f2 f3 f4 f5 f6 f7 f8 f9 f10 f11 : Nat) (f12 f13 f14 : ByteArray) : (#[.int .u16 (f0 : Nat), .int .u16 (f1 : Nat), .int .u16 (f2 : Nat), .int .u16 (f3 : Nat), .int .u32 (f4 : Nat), .int .u32 (f5 : Nat), .int .u32 (f6 : Nat), .int .u32 (f7 : Nat), .int .u16 (f8 : Nat), .int .u16 (f9 : Nat), .int .u32 (f10 : Nat), .int .u32 (f11 : Nat), .string f12, .string f13, .string f14] : Array Value).all (·.oneCell') = true := by simp [Value.oneCell']
theorem one_D (f0 f1 f2 : Nat) : (#[.int .u32 (f0 : Nat), .int .u64 (f1 : Nat), .int .u64 (f2 : Nat)] : Array Value).all (·.oneCell') = true := by simp [Value.oneCell']
end Go.Proofs.Ytlojhklhhdgkcaa
